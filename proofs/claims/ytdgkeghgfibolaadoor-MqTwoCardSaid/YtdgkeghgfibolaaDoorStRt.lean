/- The reference's states, by their contracts. -/
import Derived.Test.YtdgkeghgfibolaaDoorSts
import Derived.RegionTactic
import Derived.Deep.Cut
import Derived.Laws.CopyOwn
import Derived.Laws.Tables
import Derived.Great.BuildSlice
set_option linter.unusedVariables false
namespace Go.Proofs.YtdgkeghgfibolaaDoor
open Go.RowKit

def flat : List Value := tb.flatMap fun r => [.int .i64 r.1, .int .i64 r.2.1, .int .i64 r.2.2.1, .int .i64 (if r.2.2.2 = true then 1 else 0)]
def flatA : Array Value := flat.toArray
def rowA (i : Nat) : Array Value := #[.int .i64 (qe i : Nat), .int .i64 (mps i : Nat), .int .i64 (lps i : Nat), .int .i64 (if swp i = true then 1 else 0)]
theorem flatA_size : flatA.size = 188 := by kernel_rfl
theorem zero37 : ∃ Z : Array Value, Z.size = 188 ∧ ∀ u : World, (zeroValue 81).run Tryd.prog u = .ok (.agg Z) u := ⟨Array.replicate 188 (.int .i64 0), by simp, fun _ => by kernel_rfl⟩
set_option maxRecDepth 100000 in
set_option maxHeartbeats 8000000 in
theorem rows_any (w : World) : Calls Tryd.prog 43 #[] w fun e w' => e = .returned (.agg flatA) ∧ Below w.heap.size w w' := by
  obtain ⟨Z, hZs, hz⟩ := zero37
  have HZs := Lib.hid hZs
  clear hZs
  go_enter Tryd.func43, Tryd.ntmps43
  go_upto_region 1 with (fail)
  refine wp_region_lit ?_
  refine wpList_buildTo rfl 80 _ rfl (some 1) rfl (rowA 0) (by kernel_rfl) ?_
  refine wpList_buildTo rfl 80 _ rfl (some 2) rfl (rowA 1) (by kernel_rfl) ?_
  refine wpList_buildTo rfl 80 _ rfl (some 3) rfl (rowA 2) (by kernel_rfl) ?_
  refine wpList_buildTo rfl 80 _ rfl (some 4) rfl (rowA 3) (by kernel_rfl) ?_
  refine wpList_buildTo rfl 80 _ rfl (some 5) rfl (rowA 4) (by kernel_rfl) ?_
  refine wpList_buildTo rfl 80 _ rfl (some 6) rfl (rowA 5) (by kernel_rfl) ?_
  refine wpList_buildTo rfl 80 _ rfl (some 7) rfl (rowA 6) (by kernel_rfl) ?_
  refine wpList_buildTo rfl 80 _ rfl (some 8) rfl (rowA 7) (by kernel_rfl) ?_
  refine wpList_buildTo rfl 80 _ rfl (some 9) rfl (rowA 8) (by kernel_rfl) ?_
  refine wpList_buildTo rfl 80 _ rfl (some 10) rfl (rowA 9) (by kernel_rfl) ?_
  refine wpList_buildTo rfl 80 _ rfl (some 11) rfl (rowA 10) (by kernel_rfl) ?_
  refine wpList_buildTo rfl 80 _ rfl (some 12) rfl (rowA 11) (by kernel_rfl) ?_
  refine wpList_buildTo rfl 80 _ rfl (some 13) rfl (rowA 12) (by kernel_rfl) ?_
  refine wpList_buildTo rfl 80 _ rfl (some 14) rfl (rowA 13) (by kernel_rfl) ?_
  refine wpList_buildTo rfl 80 _ rfl (some 15) rfl (rowA 14) (by kernel_rfl) ?_
  refine wpList_buildTo rfl 80 _ rfl (some 16) rfl (rowA 15) (by kernel_rfl) ?_
  refine wpList_buildTo rfl 80 _ rfl (some 17) rfl (rowA 16) (by kernel_rfl) ?_
  refine wpList_buildTo rfl 80 _ rfl (some 18) rfl (rowA 17) (by kernel_rfl) ?_
  refine wpList_buildTo rfl 80 _ rfl (some 19) rfl (rowA 18) (by kernel_rfl) ?_
  refine wpList_buildTo rfl 80 _ rfl (some 20) rfl (rowA 19) (by kernel_rfl) ?_
  refine wpList_buildTo rfl 80 _ rfl (some 21) rfl (rowA 20) (by kernel_rfl) ?_
  refine wpList_buildTo rfl 80 _ rfl (some 22) rfl (rowA 21) (by kernel_rfl) ?_
  refine wpList_buildTo rfl 80 _ rfl (some 23) rfl (rowA 22) (by kernel_rfl) ?_
  refine wpList_buildTo rfl 80 _ rfl (some 24) rfl (rowA 23) (by kernel_rfl) ?_
  refine wpList_buildTo rfl 80 _ rfl (some 25) rfl (rowA 24) (by kernel_rfl) ?_
  refine wpList_buildTo rfl 80 _ rfl (some 26) rfl (rowA 25) (by kernel_rfl) ?_
  refine wpList_buildTo rfl 80 _ rfl (some 27) rfl (rowA 26) (by kernel_rfl) ?_
  refine wpList_buildTo rfl 80 _ rfl (some 28) rfl (rowA 27) (by kernel_rfl) ?_
  refine wpList_buildTo rfl 80 _ rfl (some 29) rfl (rowA 28) (by kernel_rfl) ?_
  refine wpList_buildTo rfl 80 _ rfl (some 30) rfl (rowA 29) (by kernel_rfl) ?_
  refine wpList_buildTo rfl 80 _ rfl (some 31) rfl (rowA 30) (by kernel_rfl) ?_
  refine wpList_buildTo rfl 80 _ rfl (some 32) rfl (rowA 31) (by kernel_rfl) ?_
  refine wpList_buildTo rfl 80 _ rfl (some 33) rfl (rowA 32) (by kernel_rfl) ?_
  refine wpList_buildTo rfl 80 _ rfl (some 34) rfl (rowA 33) (by kernel_rfl) ?_
  refine wpList_buildTo rfl 80 _ rfl (some 35) rfl (rowA 34) (by kernel_rfl) ?_
  refine wpList_buildTo rfl 80 _ rfl (some 36) rfl (rowA 35) (by kernel_rfl) ?_
  refine wpList_buildTo rfl 80 _ rfl (some 37) rfl (rowA 36) (by kernel_rfl) ?_
  refine wpList_buildTo rfl 80 _ rfl (some 38) rfl (rowA 37) (by kernel_rfl) ?_
  refine wpList_buildTo rfl 80 _ rfl (some 39) rfl (rowA 38) (by kernel_rfl) ?_
  refine wpList_buildTo rfl 80 _ rfl (some 40) rfl (rowA 39) (by kernel_rfl) ?_
  refine wpList_buildTo rfl 80 _ rfl (some 41) rfl (rowA 40) (by kernel_rfl) ?_
  refine wpList_buildTo rfl 80 _ rfl (some 42) rfl (rowA 41) (by kernel_rfl) ?_
  refine wpList_buildTo rfl 80 _ rfl (some 43) rfl (rowA 42) (by kernel_rfl) ?_
  refine wpList_buildTo rfl 80 _ rfl (some 44) rfl (rowA 43) (by kernel_rfl) ?_
  refine wpList_buildTo rfl 80 _ rfl (some 45) rfl (rowA 44) (by kernel_rfl) ?_
  refine wpList_buildTo rfl 80 _ rfl (some 46) rfl (rowA 45) (by kernel_rfl) ?_
  refine wpList_buildTo rfl 80 _ rfl (some 47) rfl (rowA 46) (by kernel_rfl) ?_
  refine wpList_buildTo rfl 81 _ rfl (some 48) rfl flatA (by kernel_rfl) ?_
  refine wpList_store_row rfl 81 _ _ rfl w.heap.size flatA (by kernel_rfl) (by kernel_rfl) 81 Z (heap_alloc_new w _) (by kernel_rfl) (by rw [HZs.out]; kernel_rfl) (by kernel_rfl) ?_
  rename_i K hK
  refine hK _ _ (wp_ret ?_)
  have hh := heap_alloc_new w (.cells Z 81)
  exact bodyPost_ret (v := .agg flatA) (results_cell_row rfl _ _ w.heap.size 81 flatA (0, 0) _ (by kernel_rfl) (setRow_heap _ _ _ _ _ _ hh) Tryd.underlying81 rfl (by kernel_rfl)) rfl ⟨rfl, below_setRow ((Below.refl _ _).alloc (Nat.le_refl _) _) (Nat.le_refl _) _⟩
end Go.Proofs.YtdgkeghgfibolaaDoor
