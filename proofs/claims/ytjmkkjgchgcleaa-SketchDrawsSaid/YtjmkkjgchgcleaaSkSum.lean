/- Sum of package sketch, by its contract. -/
import Derived.Test.YtjmkkjgchgcleaaSkDrawn
set_option linter.unusedVariables false
namespace Go.Proofs.Ytjmkkjgchgcleaa
open Go.RowKit

theorem flat_get : ∀ {CS : List (List Value)} (h : ∀ (i : Nat) (cs : List Value), CS[i]? = some cs → cs.length = 5) {i j : Nat} (hj : j < 5) {cs : List Value} (hi : CS[i]? = some cs), CS.flatten[i * 5 + j]? = cs[j]?
  | [], h, i, j, hj, cs, hi => by simp at hi
  | c :: r, h, i, j, hj, cs, hi => by
    have hc := h 0 c rfl
    rw [List.flatten_cons]
    rcases i with _ | i
    · simp at hi
      subst hi
      rw [List.getElem?_append_left (by omega)]
      congr 1; omega
    · rw [List.getElem?_append_right (by omega)]
      rw [show (i + 1) * 5 + j - c.length = i * 5 + j by omega]
      exact flat_get (fun i cs hi => h (i + 1) cs (by simpa using hi)) hj (by simpa using hi)
/-- The picture reads as rows of samples. -/
def RdImg (W : World) (AC : Option Addr) (Ls : List (List Int)) (d : Int) (st : Nat → Int) : Prop :=
  ∀ i L, Ls[i]? = some L → ∃ b A cap, AC = some ⟨b, 0, none⟩ ∧ b < W.heap.size ∧ W.cell? ⟨b, i * 5, none⟩ = some (.int .i64 d) ∧ W.cell? ⟨b, i * 5 + 1, none⟩ = some (.bool false) ∧ W.cell? ⟨b, i * 5 + 2, none⟩ = some (.int .i64 (st i)) ∧ W.cell? ⟨b, i * 5 + 3, none⟩ = some (.int .i64 (st i)) ∧ W.cell? ⟨b, i * 5 + 4, none⟩ = some (.slice A L.length cap) ∧
    L.length ≤ cap ∧ cap ≤ maxLen ∧ Lst W W.heap.size A (L.map (Value.int .i64))
theorem RdImg.keep {W W' : World} {AC : Option Addr} {Ls : List (List Int)} {d : Int} {st : Nat → Int} (h : RdImg W AC Ls d st) (hb : Below W.heap.size W W') : RdImg W' AC Ls d st := fun i L hL => by
  obtain ⟨b, A, cap, e, hlt, c0, c1, c2, c3, c4, h1, h2, h3⟩ := h i L hL
  exact ⟨b, A, cap, e, Nat.lt_of_lt_of_le hlt hb.size, (hb.cell (p := ⟨b, _, none⟩) hlt).trans c0, (hb.cell (p := ⟨b, _, none⟩) hlt).trans c1, (hb.cell (p := ⟨b, _, none⟩) hlt).trans c2, (hb.cell (p := ⟨b, _, none⟩) hlt).trans c3, (hb.cell (p := ⟨b, _, none⟩) hlt).trans c4, h1, h2, (h3.below hb).more hb.size⟩
/-- All rows of a drawn picture. -/
def rowsF (x y ox oy d kind : Int) (k : Nat) : List (List Int) := (List.range k).map fun i => dataF x y ox oy d kind i
theorem pic_rd {H : Nat} {w W : World} {Cv : Value} {k : Nat} {CS : List (List Value)} {x y ox oy d kind : Int} (h : Pic H w W Cv k CS x y ox oy d kind) : ∃ AC cC, Cv = .slice AC k cC ∧ k ≤ cC ∧ cC ≤ maxLen ∧ RdImg W AC (rowsF x y ox oy d kind k) d (stepF kind) := by
  obtain ⟨AC, cC, rfl, hA, hkc, hm⟩ := own_any h.own
  refine ⟨AC, cC, rfl, hkc, hm, fun i L hL => ?_⟩
  have hik : i < k := by have := (List.getElem?_eq_some_iff.1 hL).1; simpa [rowsF] using this
  have hLe : L = dataF x y ox oy d kind i := by
    unfold rowsF at hL
    rw [List.getElem?_map, List.getElem?_range hik] at hL
    simpa using hL.symm
  subst hLe
  obtain ⟨cs, hcs⟩ : ∃ cs, CS[i]? = some cs := ⟨_, List.getElem?_eq_getElem (by rw [h.len]; exact hik)⟩
  obtain ⟨A, cap, e, ho⟩ := h.cmp i cs hcs
  subst e
  have h5 : ∀ (i : Nat) (cs : List Value), CS[i]? = some cs → cs.length = 5 := fun i cs hi => by obtain ⟨A, cap, e, _⟩ := h.cmp i cs hi; subst e; rfl
  obtain ⟨g, cap', hv, hbg, hgl, _, _⟩ := own_form h.own (by omega)
  injection hv with e1 e2 e3
  subst e1 e3
  obtain ⟨A', cap2, hv2, _, hc1, hc2⟩ := own_any ho
  injection hv2 with e4 e5 e6
  subst e4 e6
  have hcell : ∀ j u, j < 5 → (compC d (stepF kind i) (.slice A (dataF x y ox oy d kind i).length cap))[j]? = some u → W.cell? ⟨g, i * 5 + j, none⟩ = some u := fun j u hj hu => by
    rw [h.own.cellAt (i * 5 + j) (by omega), flat_get h5 hj hcs]; exact hu
  exact ⟨g, A, cap, rfl, hgl, hcell 0 _ (by omega) rfl, hcell 1 _ (by omega) rfl, hcell 2 _ (by omega) rfl, hcell 3 _ (by omega) rfl, hcell 4 _ (by omega) rfl, hc1, hc2, Lst.own ho⟩

/-- One sample more. -/
def sumS (s v : Int) : Int := (s * 31 + v) % 1000003
def sumL (s : Int) (L : List Int) : Int := L.foldl sumS s
def sumF (Ls : List (List Int)) : Int := Ls.foldl sumL 7
theorem sumS_bd (s v : Int) : 0 ≤ sumS s v ∧ sumS s v < 1000003 := ⟨Int.emod_nonneg _ (by omega), Int.emod_lt_of_pos _ (by omega)⟩
theorem sumL_bd {s : Int} (h : 0 ≤ s ∧ s < 1000003) : ∀ (L : List Int), 0 ≤ sumL s L ∧ sumL s L < 1000003 := by
  intro L
  induction L generalizing s with
  | nil => exact h
  | cons v r ih => exact ih (sumS_bd s v)
theorem sumFold_bd (Ls : List (List Int)) {s : Int} (h : 0 ≤ s ∧ s < 1000003) : 0 ≤ Ls.foldl sumL s ∧ Ls.foldl sumL s < 1000003 := by
  induction Ls generalizing s with
  | nil => exact h
  | cons L r ih => exact ih (sumL_bd h L)
theorem fold_take {α β : Type} (f : β → α → β) (s : β) {L : List α} {k : Nat} {x : α} (h : L[k]? = some x) : (L.take (k + 1)).foldl f s = f ((L.take k).foldl f s) x := by
  rw [List.take_add_one, h, List.foldl_append]; rfl

set_option maxRecDepth 100000 in
set_option maxHeartbeats 8000000 in
theorem sum_any {AC : Option Addr} {cC : Nat} {Ls : List (List Int)} {d : Int} {st : Nat → Int} {w : World} (x y ox oy : Int) (h : RdImg w AC Ls d st) (hl : Ls.length ≤ 4) (hc : Ls.length ≤ cC ∧ cC ≤ maxLen)
    (hv : ∀ L ∈ Ls, L.length ≤ 4096 ∧ ∀ v ∈ L, 0 ≤ v ∧ v ≤ 65535) :
    Calls Try.prog 12 #[.agg #[.int .i64 x, .int .i64 y, .int .i64 ox, .int .i64 oy, .slice AC Ls.length cC]] w fun e w' => e = .returned (.int .i64 (sumF Ls)) ∧ Below w.heap.size w w' := by
  have hc2 := hc.2
  unfold maxLen at hc2
  have HI := Lib.hid h
  have HV := Lib.hid hv
  clear h hv
  go_enter Try.func12, Try.ntmps12
  go_wp2
  have hB0 := (Below.refl w.heap.size w).alloc (Nat.le_refl _) (Obj.cells #[.int .i64 x, .int .i64 y, .int .i64 ox, .int .i64 oy, .slice AC Ls.length cC] 25)
  go_loopw [3, 11] (fun sv iv wr => ∃ i : Nat, i ≤ Ls.length ∧ iv = .int .i64 i ∧ sv = .int .i64 ((Ls.take i).foldl sumL 7) ∧ Below w.heap.size w wr) (fun _ iv _ => Ls.length - (intOf iv).toNat)
  case atStart => exact ⟨0, by omega, rfl, rfl, hB0⟩
  case round =>
    obtain ⟨i, hi, rfl, rfl, hB⟩ := hrel
    clear hB0
    by_cases ci : i < Ls.length
    · obtain ⟨L, hL⟩ : ∃ L, Ls[i]? = some L := ⟨_, List.getElem?_eq_getElem ci⟩
      obtain ⟨b, A, cap, rfl, hbl, c0, c1, c2, c3, c4, hcap, hmx, hLst⟩ := (HI.out.keep hB) i L hL
      have hvL := HV.out L (List.mem_of_getElem? hL)
      have HS := Lib.hid (fold_take sumL 7 hL)
      have hsb := sumFold_bd (Ls.take i) (s := 7) (by omega)
      generalize (Ls.take i).foldl sumL 7 = s0 at *
      unfold maxLen at hmx
      have ci' : (i : Int) < (Ls.length : Int) := by omega
      have HL := Lib.hid hLst
      have HVL := Lib.hid hvL.2
      have hLl := hvL.1
      clear hLst hL hvL
      obtain ⟨wo, rfl⟩ : ∃ wo : World, wo = wr := ⟨_, rfl⟩
      go_wp2
      obtain ⟨Wi, hWi⟩ : ∃ Wi, wo.alloc (Obj.cells #[.int .i64 d, .bool false, .int .i64 (st i), .int .i64 (st i), .slice A L.length cap] 41) = Wi := ⟨_, rfl⟩
      have hBi : Below w.heap.size w Wi := by rw [← hWi]; exact hB.alloc hB.size _
      have HLi : Hid (Lst Wi wo.heap.size A (L.map (Value.int .i64))) := Lib.hid (by rw [← hWi]; exact HL.out.alloc (Nat.le_refl _) _)
      rw [hWi]
      clear hWi c0 c1 c2 c3 c4
      go_loopw [3, 18] (fun sv tv wr => ∃ (t : Nat) (s : Int), t ≤ L.length ∧ tv = .int .i64 t ∧ sv = .int .i64 s ∧ s = sumL s0 (L.take t) ∧ Wi = wr) (fun _ tv _ => L.length - (intOf tv).toNat)
      case atStart => exact ⟨0, s0, by omega, rfl, rfl, rfl, rfl⟩
      case round =>
        obtain ⟨t, s, ht, rfl, rfl, hs, rfl⟩ := hrel
        have hsb2 := sumL_bd hsb (L.take t)
        rw [← hs] at hsb2
        have HSS := Lib.hid hs
        clear hs
        by_cases ct : t < L.length
        · obtain ⟨v, hv⟩ : ∃ v, L[t]? = some v := ⟨_, List.getElem?_eq_getElem ct⟩
          obtain ⟨ba, oa, rfl, hba, m0⟩ := HLi.out t (.int .i64 v) (by rw [List.getElem?_map, hv]; rfl)
          have hvb := HVL.out v (List.mem_of_getElem? hv)
          have HF := Lib.hid (fold_take sumS s0 hv)
          have ct' : (t : Int) < (L.length : Int) := by omega
          have e1 : Hid (v % 1000003 = v) := Lib.hid (Int.emod_eq_of_lt hvb.1 (by omega))
          have e2 : v.tmod 1000003 = v := by rw [Int.tmod_eq_emod_of_nonneg hvb.1, e1.out]
          have e3 : (s * 31 + v).tmod 1000003 = sumS s v := by rw [Int.tmod_eq_emod_of_nonneg (by omega)]; rfl
          have e4 := sumS_bd s v
          have e5 : ¬ sumS s v < 0 := by omega
          have E4 : Hid (sumS s v = (s * 31 + v) % 1000003) := Lib.hid rfl
          clear hv
          go_wp2
          exact ⟨⟨t + 1, sumS s v, by omega, by go_num, rfl, by unfold sumL; rw [HF.out, HSS.out]; rfl, trivial⟩, by simp [intOf]; omega⟩
        · obtain rfl : t = L.length := by omega
          have ES : Hid (s = sumL s0 L) := Lib.hid (by rw [HSS.out, List.take_length])
          go_wp2
          go_roundw
          case rel => exact ⟨i + 1, by omega, by go_num, by rw [HS.out, ← ES.out], hBi⟩
          case measure => simp [intOf]; omega
    · obtain rfl : i = Ls.length := by omega
      have E := Lib.hid (show Ls.take Ls.length = Ls from List.take_length)
      go_wp2
      go_ret
      exact ⟨ret_i64 (by rw [E.out]; rfl), hB⟩
end Go.Proofs.Ytjmkkjgchgcleaa
