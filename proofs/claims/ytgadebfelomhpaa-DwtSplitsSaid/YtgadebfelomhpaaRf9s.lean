/- Split of waveletref9, of any row. -/
import Derived.Test.YtgadebfelomhpaaRf9
set_option linter.unusedVariables false
set_option linter.unusedSimpArgs false
namespace Go.Proofs.Ytgadebfelomhpaa
open Go.RowKit

attribute [local go_sem ↓] appSem_eq in
set_option maxHeartbeats 2000000 in
set_option maxRecDepth 100000 in
theorem rs9_none {A : Option Addr} {c : Nat} {w : World} (a : Int) (e : Nat) (h : RowI w A 0 c []) (ha : 0 ≤ a) (he : a % 2 = e) :
    Calls Try.prog 19 #[.int .i64 a, .slice A 0 c] w fun r w' => ∃ A' c', r = .returned (.slice A' 0 c') ∧ RowO w.heap.size w' A' 0 c' [] ∧ Below w.heap.size w w' := by
  have e1 : e ≤ 1 := by omega
  have hand : bits .and .i64 a 1 = e := by rw [and_one a ha, he]
  have hn1 : ((0 : Int) == 1) = false := by decide
  have HA0 : Hid (Below w.heap.size w (w.alloc (Obj.cells #[] 3))) := Lib.hid ((Below.refl _ w).alloc (Nat.le_refl _) _)
  obtain ⟨v1, w1, hrun, hown, hg1, _⟩ := app_row (w := w.alloc (Obj.cells #[] 3)) (base := w.heap.size) (v := .slice (some ⟨w.heap.size, 0, none⟩) 0 0) (n := 0) (X := []) (World.ownsRow_made w #[] 0 (Nat.le_refl _) (by unfold maxLen; omega) rfl) (h.keep HA0.out (Nat.le_refl _)) (by simp) (by omega)
  obtain ⟨A1, c1, rfl, _, _, _⟩ := own_any hown
  have HB1 : Hid (Below w.heap.size w w1) := Lib.hid (HA0.out.grown hg1 (by simp) (by simp [Value.ownBlock]))
  clear h hg1 hown HA0 he
  go_enter Try.func19, Try.ntmps19
  go_wp2
  go_loopw [8] (fun iv wr => ∃ x : Int, iv = .int .i64 x ∧ 0 ≤ x ∧ Hid (w1 = wr)) (fun iv _ => 0)
  case atStart => exact ⟨_, rfl, by omega, Lib.hid rfl⟩
  case round =>
    obtain ⟨x, rfl, hx, hw⟩ := hrel
    obtain rfl := hw.out
    have hx' : ¬ x < 0 := by omega
    go_wp2
    go_loopw [9] (fun iv wr => ∃ x : Int, iv = .int .i64 x ∧ 0 ≤ x ∧ Hid (w1 = wr)) (fun iv _ => 0)
    case atStart => exact ⟨_, rfl, by omega, Lib.hid rfl⟩
    case round =>
      obtain ⟨y, rfl, hy, hw⟩ := hrel
      obtain rfl := hw.out
      have hy' : ¬ y < 0 := by omega
      go_wp2
      go_loopw [10, 11] (fun vv iv wr => ∃ x : Int, vv = .slice none 0 0 ∧ iv = .int .i64 x ∧ 0 ≤ x ∧ Hid (w1 = wr)) (fun _ iv _ => 0)
      case atStart => exact ⟨_, rfl, rfl, by omega, Lib.hid rfl⟩
      case round =>
        obtain ⟨z, rfl, rfl, hz, hw⟩ := hrel
        obtain rfl := hw.out
        have hz' : ¬ z < 0 := by omega
        go_wp2
        go_loopw [10, 12] (fun vv iv wr => ∃ x : Int, vv = .slice none 0 0 ∧ iv = .int .i64 x ∧ 0 ≤ x ∧ Hid (w1 = wr)) (fun _ iv _ => 0)
        case atStart => exact ⟨_, rfl, rfl, by omega, Lib.hid rfl⟩
        case round =>
          obtain ⟨t, rfl, rfl, ht, hw⟩ := hrel
          obtain rfl := hw.out
          have ht' : ¬ t < 0 := by omega
          go_wp2
          go_ret
          exact ⟨_, _, rfl, World.ownsRow_nil _ _ _ _, HB1.out⟩

attribute [local go_sem ↓] appSem_eq in
set_option maxHeartbeats 2000000 in
set_option maxRecDepth 100000 in
theorem rs9_one {A : Option Addr} {c : Nat} {x : Int} {w : World} (a : Int) (e : Nat) (h : RowI w A 1 c [x]) (ha : 0 ≤ a) (he : a % 2 = e) (hx : -1073741824 ≤ x ∧ x ≤ 1073741824) :
    Calls Try.prog 19 #[.int .i64 a, .slice A 1 c] w fun r w' => ∃ A' c', r = .returned (.slice A' 1 c') ∧ RowO w.heap.size w' A' 1 c' [if e = 1 then 2 * x else x] ∧ Below w.heap.size w w' := by
  have e1 : e ≤ 1 := by omega
  have hand : bits .and .i64 a 1 = e := by rw [and_one a ha, he]
  have hn1 : ((1 : Int) == 1) = true := by decide
  have HA0 : Hid (Below w.heap.size w (w.alloc (Obj.cells #[] 3))) := Lib.hid ((Below.refl _ w).alloc (Nat.le_refl _) _)
  obtain ⟨v1, w1, hrun, hown, hg1, _⟩ := app_row (w := w.alloc (Obj.cells #[] 3)) (base := w.heap.size) (v := .slice (some ⟨w.heap.size, 0, none⟩) 0 0) (n := 0) (X := []) (World.ownsRow_made w #[] 0 (Nat.le_refl _) (by unfold maxLen; omega) rfl) (h.keep HA0.out (Nat.le_refl _)) (by simp) (by omega)
  rw [Nat.zero_add, List.nil_append] at hown
  obtain ⟨g, cap, rfl, hg, hgl, _⟩ := own_form hown (by omega)
  have HB1 : Hid (Below w.heap.size w w1) := Lib.hid (HA0.out.grown hg1 (by simp) (by simp [Value.ownBlock]))
  have f0 := hown.cellAt 0 (by omega)
  change w1.cell? ⟨g, 0, none⟩ = some (.int .i64 x) at f0
  have fz := hown.frozenAt 0
  have S := Lib.hid (hown.stored 0 (.int .i64 (2 * x))).1
  have HO := Lib.hid hown
  have HB2 := Lib.hid (HB1.out.setCell (p := ⟨g, 0, none⟩) hg (.int .i64 (2 * x)))
  clear h hg1 hown HA0 he
  by_cases ce : e = 1
  · subst ce
    have ce1 : ((((1 : Nat) : Int)) == 1) = true := by decide
    rw [if_pos rfl]
    go_enter Try.func19, Try.ntmps19
    go_wp2
    go_ret
    exact ⟨_, _, rfl, S.out, HB2.out⟩
  · obtain rfl : e = 0 := by omega
    have ce1 : ((((0 : Nat) : Int)) == 1) = false := by decide
    rw [if_neg ce]
    go_enter Try.func19, Try.ntmps19
    go_wp2
    go_ret
    exact ⟨_, _, rfl, HO.out, HB1.out⟩

theorem rs9_all {A : Option Addr} {n c : Nat} {l : List Int} {w : World} (a : Int) (e : Nat) (h : RowI w A n c l) (ha : 0 ≤ a) (he : a % 2 = e) (hn : n ≤ 1000) (hr : ∀ i, -1073741824 ≤ l.getD i 0 ∧ l.getD i 0 ≤ 1073741824) :
    Calls Try.prog 19 #[.int .i64 a, .slice A n c] w fun r w' => ∃ A' c', r = .returned (.slice A' n c') ∧ RowO w.heap.size w' A' n c' (SP e n l) ∧ Below w.heap.size w w' := by
  unfold SP
  by_cases hs : n ≤ 1
  · rw [if_pos hs]
    rcases (by omega : n = 0 ∨ n = 1) with rfl | rfl
    · obtain rfl : l = [] := List.eq_nil_of_length_eq_zero h.1
      have := rs9_none a e h ha he
      simpa using this
    · obtain ⟨x, rfl⟩ : ∃ x, l = [x] := by
        have := h.1
        cases l with
        | nil => simp at this
        | cons x t => cases t with
          | nil => exact ⟨x, rfl⟩
          | cons y t => simp at this
      have := rs9_one a e h ha he (hr 0)
      have e2 : (if e = 1 then [x].map (2 * ·) else [x]) = [if e = 1 then 2 * x else x] := by split <;> rfl
      rw [e2]; exact this
  · rw [if_neg hs]
    exact rs9_any a e h ha he (by omega) hn (fun i _ => hr i)
end Go.Proofs.Ytgadebfelomhpaa
