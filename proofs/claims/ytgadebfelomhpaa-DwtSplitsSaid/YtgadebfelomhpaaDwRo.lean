/- DwtRows, walked. -/
import Derived.Test.YtgadebfelomhpaaRf9s
import Derived.Outline
set_option linter.unusedVariables false
set_option linter.unusedSimpArgs false
namespace Go.Proofs.Ytgadebfelomhpaa
open Go.RowKit

theorem sp1_id {l : List Int} (h : l.length = 1) : SP 0 1 l = l := by
  unfold SP; rw [if_pos (by omega), if_neg (by omega)]
theorem cols_1 {P : Nat → Nat → Int} (x : Nat) : colsF 0 1 P x 0 = P x 0 := by
  unfold colsF; rw [sp1_id (ranged_len _ _), ranged_getD _ (by omega)]
theorem rows_1 {P : Nat → Nat → Int} (y : Nat) : rowsF 0 1 P 0 y = P 0 y := by
  unfold rowsF; rw [sp1_id (ranged_len _ _), ranged_getD _ (by omega)]
theorem flat_row (k : Nat) (P : Nat → Nat → Int) : flat k 1 P = ranged (fun i => P i 0) k := by
  unfold flat
  rw [Nat.mul_one]
  exact ranged_congr fun i hi => by rw [Nat.mod_eq_of_lt hi, Nat.div_eq_of_lt hi]
theorem flat_col (k : Nat) (P : Nat → Nat → Int) : flat 1 k P = ranged (fun i => P 0 i) k := by
  unfold flat
  rw [Nat.one_mul]
  exact ranged_congr fun i hi => by rw [Nat.mod_one, Nat.div_one]
theorem flat_wide (w : Nat) (P : Nat → Nat → Int) : flat w 0 P = [] := List.eq_nil_of_length_eq_zero (by rw [flat_len, Nat.mul_zero])
theorem flat_high (h : Nat) (P : Nat → Nat → Int) : flat 0 h P = [] := List.eq_nil_of_length_eq_zero (by rw [flat_len, Nat.zero_mul])
theorem take_ranged {l : List Int} {n m : Nat} (h : l.length = n) (hm : m ≤ n) : ranged (fun i => l.getD i 0) m = l.take m := by
  apply List.ext_getElem?
  intro i
  rcases Nat.lt_or_ge i m with hi | hi
  · rw [ranged_get _ _ _ hi, List.getElem?_take, if_pos hi, List.getD_eq_getElem?_getD, List.getElem?_eq_getElem (by omega)]; rfl
  · rw [List.getElem?_eq_none (by rw [ranged_len]; exact hi), List.getElem?_eq_none (by rw [List.length_take]; omega)]
theorem drop_ranged {l : List Int} {n m : Nat} (h : l.length = n) (hm : m ≤ n) : ranged (fun i => l.getD (m + i) 0) (n - m) = l.drop m := by
  apply List.ext_getElem?
  intro i
  rcases Nat.lt_or_ge i (n - m) with hi | hi
  · rw [ranged_get _ _ _ hi, List.getElem?_drop, List.getD_eq_getElem?_getD, List.getElem?_eq_getElem (by omega)]; rfl
  · rw [List.getElem?_eq_none (by rw [ranged_len]; exact hi), List.getElem?_eq_none (by rw [List.length_drop]; omega)]
theorem low_1 : lowN 0 1 = 1 := by decide
theorem bands_1 (g : Geo) (P : Nat → Nat → Int) : bandsL g P 1 = [flat g.half.w g.half.h (liftP g P), flat (g.w - g.half.w) g.half.h (subF g.half.w 0 (liftP g P)), flat g.half.w (g.h - g.half.h) (subF 0 g.half.h (liftP g P)), flat (g.w - g.half.w) (g.h - g.half.h) (subF g.half.w g.half.h (liftP g P))] := rfl
/-- The bands of a row. -/
theorem bands_row {g : Geo} {e k : Nat} (P : Nat → Nat → Int) (l : List Int) (hl : ranged (fun i => P i 0) k = l) (h1 : g.x % 2 = e) (h2 : g.w = k) (h3 : g.y % 2 = 0) (h4 : g.h = 1) :
    bandsL g P 1 = [(SP e k l).take (lowN e k), (SP e k l).drop (lowN e k), [], []] := by
  have hln := sp_len (e := e) (n := k) (l := l) (by omega) (by rw [← hl]; exact ranged_len _ _)
  have hm := lowN_le e k
  have hlift : ∀ x, liftP g P x 0 = (SP e k l).getD x 0 := fun x => by
    unfold liftP rowsF
    rw [h1, h2, h3, h4, ← hl]
    exact congrArg (fun l => (SP e k l).getD x 0) (ranged_congr fun i _ => cols_1 i)
  have hw : g.half.w = lowN e k := by unfold Geo.half; rw [h1, h2]
  have hh : g.half.h = 1 := by unfold Geo.half; rw [h3, h4]; rfl
  rw [bands_1, hw, hh, h2, h4, Nat.sub_self, flat_wide, flat_wide, flat_row, flat_row, ← take_ranged hln hm, ← drop_ranged hln hm]
  have q1 : ranged (fun i => liftP g P i 0) (lowN e k) = ranged (fun i => (SP e k l).getD i 0) (lowN e k) := ranged_congr fun i _ => hlift i
  have q2 : ranged (fun i => subF (lowN e k) 0 (liftP g P) i 0) (k - lowN e k) = ranged (fun i => (SP e k l).getD (lowN e k + i) 0) (k - lowN e k) := ranged_congr fun i _ => hlift _
  rw [q1, q2]
/-- The bands of a column. -/
theorem bands_col {g : Geo} {e k : Nat} (P : Nat → Nat → Int) (l : List Int) (hl : ranged (fun i => P 0 i) k = l) (h1 : g.y % 2 = e) (h2 : g.h = k) (h3 : g.x % 2 = 0) (h4 : g.w = 1) :
    bandsL g P 1 = [(SP e k l).take (lowN e k), [], (SP e k l).drop (lowN e k), []] := by
  have hln := sp_len (e := e) (n := k) (l := l) (by omega) (by rw [← hl]; exact ranged_len _ _)
  have hm := lowN_le e k
  have hlift : ∀ y, liftP g P 0 y = (SP e k l).getD y 0 := fun y => by
    unfold liftP
    rw [h3, h4, rows_1]
    unfold colsF
    rw [h1, h2, hl]
  have hw : g.half.h = lowN e k := by unfold Geo.half; rw [h1, h2]
  have hh : g.half.w = 1 := by unfold Geo.half; rw [h3, h4]; rfl
  rw [bands_1, hw, hh, h2, h4, Nat.sub_self, flat_high, flat_high, flat_col, flat_col, ← take_ranged hln hm, ← drop_ranged hln hm]
  have q1 : ranged (fun i => liftP g P 0 i) (lowN e k) = ranged (fun i => (SP e k l).getD i 0) (lowN e k) := ranged_congr fun i _ => hlift i
  have q2 : ranged (fun i => subF 0 (lowN e k) (liftP g P) 0 i) (k - lowN e k) = ranged (fun i => (SP e k l).getD (lowN e k + i) 0) (k - lowN e k) := ranged_congr fun i _ => hlift _
  rw [q1, q2]
theorem plane_row {A : Option Addr} {n c : Nat} {l : List Int} (k : Nat) (hk : 1 ≤ k ∧ k ≤ 12) (w : World) (h : RowI w A n c l) :
    Calls Try.prog 12 #[.agg #[.int .i64 0, .int .i64 0, .int .i64 (k : Int), .int .i64 1], .slice A n c] w fun e w' => ∃ L A' c', e = .returned (.tuple #[.agg #[.int .i64 0, .int .i64 0, .int .i64 (k : Int), .int .i64 1], .slice A' k c']) ∧
      RowI w' A' k c' L ∧ (∀ i, -600000 ≤ L.getD i 0 ∧ L.getD i 0 ≤ 600000) ∧ Below w.heap.size w w' := by
  have hgeo : geoR 0 0 (k : Int) 1 = ⟨0, 0, k, 1⟩ := by
    unfold geoR
    rw [show ((k : Int) % 13).toNat = k from by omega]; rfl
  refine (plane_any 0 0 (k : Int) 1 w h).mono ?_
  rintro e w' ⟨P, A', c', rfl, hrow, hbd, _, hB⟩
  rw [hgeo] at hrow hbd ⊢
  refine ⟨flat k 1 P, A', c', ?_, ?_, ?_, hB⟩
  · unfold rectV; simp
  · have : RowI w' A' (k * 1) c' (flat k 1 P) := hrow
    rw [Nat.mul_one] at this; exact this
  · rw [flat_row]
    exact ranged_bdK (by decide) fun i hi => hbd i 0 hi (show 0 < 1 by omega)
theorem getP {L : List Int} {k : Nat} (h : L.length = k) : ranged (fun i => (fun x _ => L.getD x 0 : Nat → Nat → Int) i 0) k = L := ranged_of L k h
theorem getQ {L : List Int} {k : Nat} (h : L.length = k) : ranged (fun i => (fun _ y => L.getD y 0 : Nat → Nat → Int) 0 i) k = L := ranged_of L k h
theorem split_across {A : Option Addr} {c : Nat} {L : List Int} (a k : Nat) (hk : 1 ≤ k ∧ k ≤ 12) (ha : a < 40) (w : World) (h : RowI w A k c L) (hb : ∀ i, -600000 ≤ L.getD i 0 ∧ L.getD i 0 ≤ 600000) :
    Calls Try.prog 15 #[.agg #[.int .i64 (a : Int), .int .i64 2, .int .i64 ((a : Int) + (k : Int)), .int .i64 3], .int .i64 1, .slice A k c] w fun e w' => ∃ A' c', e = .returned (.slice A' 4 c') ∧
      RowsI w' A' 4 c' [(SP (a % 2) k L).take (lowN (a % 2) k), (SP (a % 2) k L).drop (lowN (a % 2) k), [], []] ∧ Below w.heap.size w w' := by
  have hd := dsplit_any ⟨a, 2, k, 1⟩ (fun x _ => L.getD x 0) 1 A c w (by simp only; omega) (by simp only; omega) (by simp only; omega) (by omega) (fun x y _ _ => hb x) (by
    show RowI w A (k * 1) c (flat k 1 _)
    rw [Nat.mul_one, flat_row, getP h.1]; exact h)
  rw [bands_row (e := a % 2) (k := k) (fun x _ => L.getD x 0) L (getP h.1) rfl rfl (show 2 % 2 = 0 by decide) rfl] at hd
  have e1 : rectV ⟨a, 2, k, 1⟩ = .agg #[.int .i64 (a : Int), .int .i64 2, .int .i64 ((a : Int) + (k : Int)), .int .i64 3] := by unfold rectV; simp
  have e2 : (⟨a, 2, k, 1⟩ : Geo).w * (⟨a, 2, k, 1⟩ : Geo).h = k := Nat.mul_one k
  rw [e1, e2] at hd
  exact hd
theorem split_down {A : Option Addr} {c : Nat} {L : List Int} (a k : Nat) (hk : 1 ≤ k ∧ k ≤ 12) (ha : a < 40) (w : World) (h : RowI w A k c L) (hb : ∀ i, -600000 ≤ L.getD i 0 ∧ L.getD i 0 ≤ 600000) :
    Calls Try.prog 15 #[.agg #[.int .i64 4, .int .i64 (a : Int), .int .i64 5, .int .i64 ((a : Int) + (k : Int))], .int .i64 1, .slice A k c] w fun e w' => ∃ A' c', e = .returned (.slice A' 4 c') ∧
      RowsI w' A' 4 c' [(SP (a % 2) k L).take (lowN (a % 2) k), [], (SP (a % 2) k L).drop (lowN (a % 2) k), []] ∧ Below w.heap.size w w' := by
  have hd := dsplit_any ⟨4, a, 1, k⟩ (fun _ y => L.getD y 0) 1 A c w (by simp only; omega) (by simp only; omega) (by simp only; omega) (by omega) (fun x y _ _ => hb y) (by
    show RowI w A (1 * k) c (flat 1 k _)
    rw [Nat.one_mul, flat_col, getQ h.1]; exact h)
  rw [bands_col (e := a % 2) (k := k) (fun _ y => L.getD y 0) L (getQ h.1) rfl rfl (show 4 % 2 = 0 by decide) rfl] at hd
  have e1 : rectV ⟨4, a, 1, k⟩ = .agg #[.int .i64 4, .int .i64 (a : Int), .int .i64 5, .int .i64 ((a : Int) + (k : Int))] := by unfold rectV; simp
  have e2 : (⟨4, a, 1, k⟩ : Geo).w * (⟨4, a, 1, k⟩ : Geo).h = k := Nat.one_mul k
  rw [e1, e2] at hd
  exact hd
end Go.Proofs.Ytgadebfelomhpaa
