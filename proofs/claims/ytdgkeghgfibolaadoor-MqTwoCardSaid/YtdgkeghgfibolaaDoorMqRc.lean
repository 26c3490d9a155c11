/- The reference's contexts in the world. -/
import Derived.Test.YtdgkeghgfibolaaDoorMqRf
set_option linter.unusedVariables false
set_option linter.unusedSimpArgs false
namespace Go.Proofs.YtdgkeghgfibolaaDoor
open Go.RowKit

/-- Block q holds contexts. -/
def Rc (w : World) (q : Nat) (cx : List Nat) : Prop := cx.length = 38 ∧ w.heap[q]? = some (.cells (cx.map fun n : Nat => Value.int .i64 (n : Int)).toArray 32 (0, 0))
section
variable {w w' : World} {q : Nat} {cx : List Nat}
theorem Rc.cell (h : Rc w q cx) (j : Nat) (hj : j < 38) : w.cell? ⟨q, j, none⟩ = some (.int .i64 ((cx.getD j 0 : Nat) : Int)) := by
  rw [blk_cell h.2 j, List.getElem?_toArray, List.getElem?_map, List.getD_eq_getElem?_getD, List.getElem?_eq_getElem (by rw [h.1]; exact hj)]; rfl
theorem Rc.z (h : Rc w q cx) (j : Nat) : w.frozen? ⟨q, j, none⟩ = false := blk_frozen h.2 j
theorem Rc.set (h : Rc w q cx) (j x : Nat) : Rc (w.setCell ⟨q, j, none⟩ (.int .i64 (x : Int))) q (cx.set j x) := by
  refine ⟨by rw [List.length_set]; exact h.1, ?_⟩
  rw [blk_set h.2 j, List.map_set]
  simp
theorem Rc.keep (h : Rc w q cx) (hk : w'.heap[q]? = w.heap[q]?) : Rc w' q cx := ⟨h.1, hk.trans h.2⟩
theorem Rc.lt (h : Rc w q cx) : q < w.heap.size := blk_lt h.2
theorem Rc.below (h : Rc w q cx) (hb : Below w.heap.size w w') : Rc w' q cx := h.keep (hb.block q h.lt)
end
theorem Rc.only {Q : Nat → Prop} {w w' : World} {q : Nat} {cx : List Nat} (h : Rc w q cx) (o : Only Q w w') (hq : ¬ Q q) : Rc w' q cx := h.keep (o.block q hq)
theorem refbegin_any {w : World} (cx : Int) : Calls Tryd.prog 31 #[.int .i64 cx] w fun e w' => e = .returned (.int .i64 (begV cx)) ∧ w = w' := by
  unfold begV
  by_cases h0 : cx = 0
  · subst h0
    go_enter Tryd.func31, Tryd.ntmps31
    go_wp2
    go_ret
    exact ⟨rfl, rfl⟩
  by_cases h1 : cx = 17
  · subst h1
    go_enter Tryd.func31, Tryd.ntmps31
    go_wp2
    go_ret
    exact ⟨rfl, rfl⟩
  by_cases h2 : cx = 18
  · subst h2
    go_enter Tryd.func31, Tryd.ntmps31
    go_wp2
    go_ret
    exact ⟨rfl, rfl⟩
  rw [if_neg h0, if_neg h1, if_neg h2]
  have e0 : (cx == 0) = false := by simpa using h0
  have e1 : (cx == 17) = false := by simpa using h1
  have e2 : (cx == 18) = false := by simpa using h2
  go_enter Tryd.func31, Tryd.ntmps31
  go_wp2
  go_ret
  exact ⟨rfl, rfl⟩
theorem rbeg_any {w : World} (k : Nat) : Calls Tryd.prog 31 #[.int .i64 (k : Int)] w fun e w' => e = .returned (.int .i64 (begN k : Nat)) ∧ w = w' := by
  refine (refbegin_any (w := w) (k : Int)).mono ?_
  rintro e w' ⟨rfl, rfl⟩
  refine ⟨ret_i64 ?_, rfl⟩
  unfold begV begN
  by_cases h0 : k = 0
  · rw [if_pos (by omega), if_pos h0]; rfl
  rw [if_neg (by omega), if_neg h0]
  by_cases h1 : k = 17
  · rw [if_pos (by omega), if_pos h1]; rfl
  rw [if_neg (by omega), if_neg h1]
  by_cases h2 : k = 18
  · rw [if_pos (by omega), if_pos h2]; rfl
  rw [if_neg (by omega), if_neg h2]
  rfl
end Go.Proofs.YtdgkeghgfibolaaDoor
