/- marks: Main of a Head that the law made. -/
import Derived.Test.YtlbfjaifemnkpaaMkFo
set_option linter.unusedVariables false
set_option linter.unusedSimpArgs false
namespace Go.Proofs.Ytlbfjaifemnkpaa
open Go.RowKit
set_option maxRecDepth 100000
theorem CpL.at {w : World} {A : Option Addr} {n cap : Nat} {cs : List Cp} (h : CpL w (.slice A n cap) cs) : CompsAt w A cs := fun i c hc => by
  obtain ⟨g, cap', hv, hg, hcc, hm, h0, h1, h2, h3, h4⟩ := h i c hc
  injection hv with hv1 hv2 hv3
  refine ⟨g, 0, hv1, hg, ?_⟩
  simp only [Nat.zero_add]
  exact ⟨h0, h1, h2, h3, h4⟩
theorem CpL.caps {w : World} {A : Option Addr} {n cap : Nat} {cs : List Cp} (h : CpL w (.slice A n cap) cs) (hl : 1 ≤ cs.length) : cs.length ≤ cap ∧ cap ≤ maxLen := by
  obtain ⟨g, cap', hv, hg, hcc, hm, _⟩ := h 0 cs[0] (List.getElem?_eq_getElem (by omega))
  injection hv with hv1 hv2 hv3
  exact ⟨by omega, by omega⟩
theorem main_hv (f : FN) {w : World} {A2 : Option Addr} {C2 : Nat} {cs : List Cp} {SA : Option Addr} {sn sc : Nat} {l : List Int} (hl : cs.length = mkN f) (hr : CpL w (.slice A2 (mkN f) C2) cs)
    (hk : ∀ i c, cs[i]? = some c → KeyIs (mkPN f 8).X (mkPN f 8).Y (mkPN f 8).OX (mkPN f 8).OY f.sb (mkDP f) f.sg i c)
    (ht : (1 ≤ (mkPN f 8).TX ∧ (mkPN f 8).TX ≤ 832) ∧ (1 ≤ (mkPN f 8).TY ∧ (mkPN f 8).TY ≤ 832) ∧ cntT (mkPN f 8).X (mkPN f 8).Y (mkPN f 8).TX (mkPN f 8).TY ≤ 6)
    (hcom : Lst w w.heap.size SA (l.map (Value.int .u8))) (hcl : l.length = sn) (hsn : sn ≤ 1000) :
    Calls Try.prog 13 #[.agg ((mkPN f 8).hv A2 (mkN f) C2 SA sn sc).arr] w fun e w' => ∃ v, e = .returned v ∧ By w.heap.size w' v (mainL ((mkPN f 8).hv A2 (mkN f) C2 SA sn sc) cs l (mkPN f 8).LV) ∧ Below w.heap.size w w' := by
  have hF := frame_ok f hl hk ht
  have hok := mkPN_ok f 8 (by omega)
  have hN : 1 ≤ mkN f ∧ mkN f ≤ 4 := by
    have := within_rng f.nc 4 (by omega)
    unfold mkN
    omega
  have hD : 1 ≤ mkDP f ∧ mkDP f ≤ 10 := by
    have := within_rng f.dp 10 (by omega)
    unfold mkDP
    omega
  have hd : ∀ c ∈ cs, 0 ≤ c.d ∧ c.d ≤ 100 := by
    intro c hc
    obtain ⟨i, hi, rfl⟩ := List.getElem_of_mem hc
    have h := hk i cs[i] (List.getElem?_eq_getElem hi)
    have hb := cpK_bd (sb := f.sb) i hD
    have h1 := h.1
    omega
  have hc := hr.caps (by omega)
  generalize mkPN f 8 = M at *
  obtain ⟨ox, oy, x, y, tx, ty, lv, bw, bh, pr, st, od, ly⟩ := hok
  refine main_any M.LV ⟨hr, hl, hN.2, hcom, hcl, Nat.le_trans hsn (by decide)⟩ hd rfl lv (by simp only; omega) (by simp only; omega) (by simp only; omega) hsn ?_
  intro u hu
  have h := frame_any M.X M.Y M.OX M.OY M.TX M.TY M.LV M.BW M.BH M.PR M.ST M.OD M.LY M.RC M.SO M.EP (hr.below hu).at hc
  rw [hF, hl] at h
  exact h
end Go.Proofs.Ytlbfjaifemnkpaa
