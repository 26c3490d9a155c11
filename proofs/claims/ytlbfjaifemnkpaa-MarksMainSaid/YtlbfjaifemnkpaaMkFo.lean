/- marks: Frame has no objection to a Head that Make made. -/
import Derived.Test.YtlbfjaifemnkpaaMkFr
set_option linter.unusedVariables false
set_option linter.unusedSimpArgs false
namespace Go.Proofs.Ytlbfjaifemnkpaa
open Go.RowKit
set_option maxRecDepth 100000
theorem key_all {X Y OX OY sb DP : Int} {sg : Bool} {cs : List Cp} (hD : 1 ≤ DP ∧ DP ≤ 10) (hk : ∀ i c, cs[i]? = some c → KeyIs X Y OX OY sb DP sg i c) : cs.all compB = true := by
  rw [List.all_eq_true]
  intro c hc
  obtain ⟨i, hi, rfl⟩ := List.getElem_of_mem hc
  have h := hk i cs[i] (List.getElem?_eq_getElem hi)
  have hb := cpK_bd (sb := sb) i hD
  obtain ⟨h1, _, h2, h3, _⟩ := h
  unfold compB inB
  rw [h1, h2, h3]
  simp
  omega
theorem key_alike {X Y OX OY sb DP : Int} {sg : Bool} {cs : List Cp} (hl : 3 ≤ cs.length) (hs : sb.tmod 5 ≠ 1) (hk : ∀ i c, cs[i]? = some c → KeyIs X Y OX OY sb DP sg i c) : alikeF cs = true := by
  match cs, hl, hk with
  | a :: b :: c :: r, _, hk =>
    have e : ∀ i, cpK sb DP i = (DP, 1, 1) := fun i => by unfold cpK; rw [if_neg (fun h => hs h.1)]
    obtain ⟨a1, a2, a3, a4, _⟩ := hk 0 a rfl
    obtain ⟨b1, b2, b3, b4, _⟩ := hk 1 b rfl
    obtain ⟨c1, c2, c3, c4, _⟩ := hk 2 c rfl
    rw [e] at a1 a3 a4 b1 b3 b4 c1 c3 c4
    simp only at a1 a3 a4 b1 b3 b4 c1 c3 c4
    simp [alikeF, sameC, a1, a2, a3, a4, b1, b2, b3, b4, c1, c2, c3, c4]
theorem frame_ok (f : FN) {cs : List Cp} (hl : cs.length = mkN f) (hk : ∀ i c, cs[i]? = some c → KeyIs (mkPN f 8).X (mkPN f 8).Y (mkPN f 8).OX (mkPN f 8).OY f.sb (mkDP f) f.sg i c)
    (ht : (1 ≤ (mkPN f 8).TX ∧ (mkPN f 8).TX ≤ 832) ∧ (1 ≤ (mkPN f 8).TY ∧ (mkPN f 8).TY ≤ 832) ∧ cntT (mkPN f 8).X (mkPN f 8).Y (mkPN f 8).TX (mkPN f 8).TY ≤ 6) :
    frameF (mkPN f 8).X (mkPN f 8).Y (mkPN f 8).OX (mkPN f 8).OY cs (mkPN f 8).TX (mkPN f 8).TY (mkPN f 8).LV (mkPN f 8).BW (mkPN f 8).BH (mkPN f 8).PR (mkPN f 8).ST (mkPN f 8).OD (mkPN f 8).LY (mkPN f 8).RC = 0 := by
  have hok := mkPN_ok f 8 (by omega)
  have hN : 1 ≤ mkN f ∧ mkN f ≤ 4 := by
    have := within_rng f.nc 4 (by omega)
    unfold mkN
    omega
  have hD : 1 ≤ mkDP f ∧ mkDP f ≤ 10 := by
    have := within_rng f.dp 10 (by omega)
    unfold mkDP
    omega
  have hR : (mkPN f 8).RC = true → 3 ≤ mkN f ∧ f.sb.tmod 5 ≠ 1 := by
    intro h
    simp only [mkPN, Bool.and_eq_true, decide_eq_true_eq] at h
    exact h.2
  have hal := key_all hD hk
  have hlk : (mkPN f 8).RC = true → alikeF cs = true := fun h => key_alike (by rw [hl]; exact (hR h).1) (hR h).2 hk
  generalize mkPN f 8 = M at *
  obtain ⟨ox, oy, x, y, tx, ty, lv, bw, bh, pr, st, od, ly⟩ := hok
  have g0 : gridF M.X M.Y M.OX M.OY = 0 := by
    unfold gridF
    rw [if_neg (by omega), if_neg (by omega)]
  have t0 : tilesF M.X M.Y M.OX M.OY M.TX M.TY = 0 := by
    unfold tilesF
    rw [if_neg (by omega), if_neg]
    have h1 := ceil_bd M.X M.TX (by omega) ht.1.1
    have h2 := ceil_bd M.Y M.TY (by omega) ht.2.1.1
    have h3 := ht.2.2
    unfold cntT at h3
    obtain ⟨p, hp⟩ := Int.eq_ofNat_of_zero_le h1.1
    obtain ⟨q, hq⟩ := Int.eq_ofNat_of_zero_le h2.1
    rw [hp, hq] at h3 ⊢
    simp only [Int.toNat_natCast] at h3
    have h4 : (p : Int) * (q : Int) = ((q * p : Nat) : Int) := by rw [Nat.mul_comm]; simp
    rw [h4]
    omega
  have c0 : codingF M.LV M.BW M.BH M.PR M.ST M.OD M.LY = 0 := by
    unfold codingF cutsB inB
    rw [if_pos]
    simp
    omega
  unfold frameF
  rw [g0, t0, c0, hal]
  rw [if_neg (by simp), if_neg (by omega), if_neg (by simp), if_neg (by simp), if_neg (by simp), if_neg]
  rintro ⟨h1, h2⟩
  rw [hlk h1] at h2
  cases h2
end Go.Proofs.Ytlbfjaifemnkpaa
