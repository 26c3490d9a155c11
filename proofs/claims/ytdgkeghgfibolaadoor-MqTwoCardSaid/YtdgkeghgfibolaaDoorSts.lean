/- Package states by its contracts. -/
import Derived.Test.YtdgkeghgfibolaaDoorTab
import Derived.Test.YtdgkeghgfibolaaDoorArith
import Derived.Laws.Rows
set_option linter.unusedVariables false
namespace Go.Proofs.YtdgkeghgfibolaaDoor
open Go.RowKit

set_option maxHeartbeats 400000 in
theorem win_yes {w : World} {i : Nat} (h : i < 47) : Calls Tryd.prog 44 #[.int .i64 (i : Int), .int .i64 0, .int .i64 46] w fun e w' => e = .returned (.bool true) ∧ w = w' := by
  have h1 : (0 : Int) ≤ (i : Int) := by omega
  have h2 : (i : Int) ≤ 46 := by omega
  go_enter Tryd.func44, Tryd.ntmps44
  go_wp2
  go_ret
  exact ⟨rfl, rfl⟩
set_option maxHeartbeats 400000 in
theorem win_no {w : World} {i : Int} (h : i < 0 ∨ 46 < i) : Calls Tryd.prog 44 #[.int .i64 i, .int .i64 0, .int .i64 46] w fun e w' => e = .returned (.bool false) ∧ w = w' := by
  rcases h with h | h
  · have h1 : ¬ (0 : Int) ≤ i := by omega
    go_enter Tryd.func44, Tryd.ntmps44
    go_wp2
    go_ret
    exact ⟨rfl, rfl⟩
  · have h1 : (0 : Int) ≤ i := by omega
    have h2 : ¬ i ≤ 46 := by omega
    go_enter Tryd.func44, Tryd.ntmps44
    go_wp2
    go_ret
    exact ⟨rfl, rfl⟩
set_option maxHeartbeats 1000000 in
theorem at_out {w : World} {i : Int} (h : i < 0 ∨ 46 < i) : Calls Tryd.prog 33 #[.int .i64 i] w fun e w' => e = .returned (.agg #[.int .i64 0, .int .i64 0, .int .i64 0, .bool false]) ∧ Below w.heap.size w w' := by
  have WN := Lib.hid (fun (u : World) => win_no (w := u) h)
  clear h
  go_enter Tryd.func33, Tryd.ntmps33
  go_wp2_with fail
  refine (WN.out _).mono ?_
  rintro e w1 ⟨rfl, rfl⟩
  go_wp2
  exact bodyPost_ret (v := .agg #[.int .i64 0, .int .i64 0, .int .i64 0, .bool false]) (results_cell_row rfl _ _ w.heap.size 70 _ (0, 0) _ rfl (heap_alloc_new w _) Tryd.underlying70 rfl (by kernel_rfl)) rfl ⟨rfl, (Below.refl _ _).alloc (Nat.le_refl _) _⟩
set_option maxHeartbeats 1000000 in
theorem at_in {w : World} {i : Nat} (h : Tab w) (hi : i < 47) : Calls Tryd.prog 33 #[.int .i64 (i : Int)] w fun e w' => e = .returned (.agg #[.int .i64 (qe i : Nat), .int .i64 (mps i : Nat), .int .i64 (lps i : Nat), .bool (swp i)]) ∧ Below w.heap.size w w' := by
  have WN := Lib.hid (fun (u : World) => win_yes (w := u) hi)
  obtain ⟨q0, q1, q2, q3⟩ := h.q i hi
  have pos := h.pos
  have hii : (i : Int) < 47 := by omega
  have hi0 : (0 : Int) ≤ (i : Int) := by omega
  generalize qe i = a at *
  generalize mps i = b at *
  generalize lps i = c at *
  generalize swp i = d at *
  clear h
  go_enter Tryd.func33, Tryd.ntmps33
  go_wp2_with fail
  refine (WN.out _).mono ?_
  rintro e w1 ⟨rfl, rfl⟩
  go_wp2
  exact bodyPost_ret (v := .agg #[.int .i64 (a : Int), .int .i64 (b : Int), .int .i64 (c : Int), .bool d]) (results_cell_row rfl _ _ w.heap.size 70 _ (0, 0) _ rfl (heap_alloc_new w _) Tryd.underlying70 rfl (by kernel_rfl)) rfl ⟨rfl, (Below.refl _ _).alloc (Nat.le_refl _) _⟩
def begV (cx : Int) : Int := if cx = 0 then 4 else if cx = 17 then 3 else if cx = 18 then 46 else 0
set_option maxHeartbeats 400000 in
theorem begin_any {w : World} (cx : Int) : Calls Tryd.prog 30 #[.int .i64 cx] w fun e w' => e = .returned (.int .i64 (begV cx)) ∧ w = w' := by
  unfold begV
  by_cases h0 : cx = 0
  · subst h0
    go_enter Tryd.func30, Tryd.ntmps30
    go_wp2
    go_ret
    exact ⟨rfl, rfl⟩
  by_cases h1 : cx = 17
  · subst h1
    go_enter Tryd.func30, Tryd.ntmps30
    go_wp2
    go_ret
    exact ⟨rfl, rfl⟩
  by_cases h2 : cx = 18
  · subst h2
    go_enter Tryd.func30, Tryd.ntmps30
    go_wp2
    go_ret
    exact ⟨rfl, rfl⟩
  rw [if_neg h0, if_neg h1, if_neg h2]
  have e0 : (cx == 0) = false := by simpa using h0
  have e1 : (cx == 17) = false := by simpa using h1
  have e2 : (cx == 18) = false := by simpa using h2
  go_enter Tryd.func30, Tryd.ntmps30
  go_wp2
  go_ret
  exact ⟨rfl, rfl⟩
end Go.Proofs.YtdgkeghgfibolaaDoor
