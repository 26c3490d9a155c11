/- The law's comparison of contexts. -/
import Derived.Test.YtdgkeghgfibolaaDoorMqSt
set_option linter.unusedVariables false
set_option linter.unusedSimpArgs false
namespace Go.Proofs.YtdgkeghgfibolaaDoor
open Go.RowKit
set_option maxRecDepth 100000 in
set_option maxHeartbeats 4000000 in
theorem same_any (w : World) (cx : List Nat) (hl : cx.length = 38) : Calls Tryd.prog 23 #[.agg (cxA cx), .agg (cxA cx)] w fun x w' => x = .returned (.bool true) ∧ Below w.heap.size w w' := by
  obtain ⟨A, hA⟩ : ∃ A, cxA cx = A := ⟨_, rfl⟩
  rw [hA]
  have hsz : A.size = 38 := by rw [← hA]; simp [cxA, hl]
  have HCL := Lib.hid (fun j hj => cell_cx A cx hA j (by rw [hl]; exact hj))
  go_enter Tryd.func23, Tryd.ntmps23
  go_upto_region 1 with fail
  obtain ⟨W0, hW0⟩ : ∃ W0, (w.alloc (Obj.cells A 28)).alloc (Obj.cells A 32) = W0 := ⟨_, rfl⟩
  have HC0 : Hid ((W0.heap[w.heap.size]? = some (.cells A 28 (0, 0)) ∧ W0.heap[w.heap.size + 1]? = some (.cells A 32 (0, 0))) ∧ Below w.heap.size w W0) := Lib.hid (by
    rw [← hW0]
    refine ⟨⟨?_, ?_⟩, ((Below.refl _ _).alloc (Nat.le_refl _) _).alloc (by simp) _⟩
    · exact (Below.heap_alloc (w.alloc (Obj.cells A 28)) _ w.heap.size (by simp)).trans (heap_alloc_new w _)
    · have := heap_alloc_new (w.alloc (Obj.cells A 28)) (Obj.cells A 32)
      rw [show (w.alloc (Obj.cells A 28)).heap.size = w.heap.size + 1 from by simp] at this
      exact this)
  rw [hW0]
  clear hW0 hA hsz
  go_wp2
  go_loopw [5] (fun i wr => ∃ j : Nat, j ≤ 19 ∧ i = .int .i64 (j : Int) ∧ (wr.heap[w.heap.size]? = some (.cells A 28 (0, 0)) ∧ wr.heap[w.heap.size + 1]? = some (.cells A 32 (0, 0))) ∧ Below w.heap.size w wr) (fun i _ => 19 - (intOf i).toNat)
  case atStart => exact ⟨0, by omega, rfl, HC0.out⟩
  case round =>
    obtain ⟨j, hj, rfl, hc, hb⟩ := hrel
    have HB := Lib.hid hb
    have HC := Lib.hid hc
    by_cases hlt : j < 19
    · have c1 : wr.cell? ⟨w.heap.size, j * 2, none⟩ = some (.int .i64 ((cx.getD (j * 2) 0 : Nat) : Int)) := (blk_cell hc.1 _).trans (HCL.out (j * 2) (by omega))
      have c2 : wr.cell? ⟨w.heap.size, j * 2 + 1, none⟩ = some (.int .i64 ((cx.getD (j * 2 + 1) 0 : Nat) : Int)) := (blk_cell hc.1 _).trans (HCL.out (j * 2 + 1) (by omega))
      have c3 : wr.cell? ⟨w.heap.size + 1, j * 2, none⟩ = some (.int .i64 ((cx.getD (j * 2) 0 : Nat) : Int)) := (blk_cell hc.2 _).trans (HCL.out (j * 2) (by omega))
      have c4 : wr.cell? ⟨w.heap.size + 1, j * 2 + 1, none⟩ = some (.int .i64 ((cx.getD (j * 2 + 1) 0 : Nat) : Int)) := (blk_cell hc.2 _).trans (HCL.out (j * 2 + 1) (by omega))
      generalize cx.getD (j * 2) 0 = x at *
      generalize cx.getD (j * 2 + 1) 0 = y at *
      have h1 : (0 : Int) ≤ (j : Int) := by omega
      have h2 : (j : Int) < 19 := by omega
      clear hc hb HC0
      go_wp2
      go_quiet (fail)
      go_wp2
      exact ⟨⟨j + 1, by omega, by go_num, HC.out, below_drewN HB.out nq⟩, by simp [intOf]; omega⟩
    · obtain rfl : j = 19 := by omega
      have h2 : ¬ (((19 : Nat) : Int)) < 19 := by omega
      clear hc hb HC0
      go_wp2
      go_ret
      exact ⟨rfl, HB.out⟩
end Go.Proofs.YtdgkeghgfibolaaDoor
