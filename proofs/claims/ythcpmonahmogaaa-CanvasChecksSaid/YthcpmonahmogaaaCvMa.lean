/- canvas: near, and the reference's meet. -/
import Derived.Test.YthcpmonahmogaaaCvM9
set_option linter.unusedVariables false
set_option linter.unusedSimpArgs false
namespace Go.Proofs.Ythcpmonahmogaaa
open Go.RowKit
set_option maxRecDepth 100000
set_option maxHeartbeats 4000000 in
theorem rmeet_any (a0 a1 a2 a3 b0 b1 b2 b3 : Int) (w : World) :
    Calls Try.prog 60 #[.agg #[.int .i64 a0, .int .i64 a1, .int .i64 a2, .int .i64 a3], .agg #[.int .i64 b0, .int .i64 b1, .int .i64 b2, .int .i64 b3]] w fun e w' => e = .returned (.agg #[.int .i64 (maxJ a0 b0), .int .i64 (maxJ a1 b1), .int .i64 (minJ a2 b2), .int .i64 (minJ a3 b3)]) ∧ Below w.heap.size w w' := by
  have e0 : (if a0 < b0 then b0 else a0) = maxJ a0 b0 := rfl
  have e1 : (if a1 < b1 then b1 else a1) = maxJ a1 b1 := rfl
  have e2 : (if b2 < a2 then b2 else a2) = minJ a2 b2 := rfl
  have e3 : (if b3 < a3 then b3 else a3) = minJ a3 b3 := rfl
  generalize maxJ a0 b0 = m0 at *
  generalize maxJ a1 b1 = m1 at *
  generalize minJ a2 b2 = m2 at *
  generalize minJ a3 b3 = m3 at *
  go_enter Try.func60, Try.ntmps60
  go_wp2
  clear e0 e1 e2 e3
  obtain ⟨X, hX⟩ : ∃ X, ((w.alloc (Obj.cells #[.int .i64 a0, .int .i64 a1, .int .i64 a2, .int .i64 a3] 48)).alloc (Obj.cells #[.int .i64 b0, .int .i64 b1, .int .i64 b2, .int .i64 b3] 48)).alloc (Obj.cells #[.int .i64 m0, .int .i64 m1, .int .i64 m2, .int .i64 m3] 48) = X := ⟨_, rfl⟩
  have hB : Below w.heap.size w X := by rw [← hX]; exact (((Below.refl _ w).alloc (Nat.le_refl _) _).alloc (by simp) _).alloc (by simp; omega) _
  have hz : ((w.alloc (Obj.cells #[.int .i64 a0, .int .i64 a1, .int .i64 a2, .int .i64 a3] 48)).alloc (Obj.cells #[.int .i64 b0, .int .i64 b1, .int .i64 b2, .int .i64 b3] 48)).heap.size = w.heap.size + 1 + 1 := by simp
  have b1 : X.heap[w.heap.size + 1 + 1]? = some (.cells #[.int .i64 m0, .int .i64 m1, .int .i64 m2, .int .i64 m3] 48 (0, 0)) := by
    rw [← hX, ← hz]; exact World.alloc_heap_new _ _
  obtain ⟨k0, k1, k2, k3⟩ := rc_cells b1
  rw [hX]
  clear hX hz b1
  exact bodyPost_ret (v := .agg #[.int .i64 m0, .int .i64 m1, .int .i64 m2, .int .i64 m3]) (by simp [results, Try.results60, go_sem, k0, k1, k2, k3]) rfl ⟨rfl, hB⟩
set_option maxHeartbeats 2000000 in
theorem near_any (x0 y0 x1 y1 : Int) (w : World) (hx : 0 ≤ x0 ∧ x0 ≤ x1 ∧ x1 ≤ 255) (hy : 0 ≤ y0 ∧ y0 ≤ y1 ∧ y1 ≤ 255) : Calls Try.prog 57 #[.agg #[.int .i64 x0, .int .i64 y0, .int .i64 x1, .int .i64 y1]] w fun e w' => e = .returned (.bool true) ∧ Below w.heap.size w w' := by
  have i1 : inB x0 0 x1 = true := by unfold inB; simp; omega
  have i2 : inB y0 0 y1 = true := by unfold inB; simp; omega
  have I1 := Lib.hid (fun u => within_any x0 0 x1 u)
  have I2 := Lib.hid (fun u => within_any y0 0 y1 u)
  rw [i1] at I1
  rw [i2] at I2
  clear i1 i2
  go_enter Try.func57, Try.ntmps57
  go_wp2_with fail
  obtain ⟨X, hX⟩ : ∃ X, w.alloc (Obj.cells #[.int .i64 x0, .int .i64 y0, .int .i64 x1, .int .i64 y1] 48) = X := ⟨_, rfl⟩
  have hB : Below w.heap.size w X := by rw [← hX]; exact (Below.refl _ w).alloc (Nat.le_refl _) _
  have b1 : X.heap[w.heap.size]? = some (.cells #[.int .i64 x0, .int .i64 y0, .int .i64 x1, .int .i64 y1] 48 (0, 0)) := by rw [← hX]; exact World.alloc_heap_new w _
  obtain ⟨k0, k1, k2, k3⟩ := rc_cells b1
  rw [hX]
  have HB := Lib.hid hB
  clear hX hB b1
  refine (I1.out _).mono ?_
  rintro e w1 ⟨rfl, rfl⟩
  go_wp2_with fail
  refine (I2.out _).mono ?_
  rintro e w1 ⟨rfl, rfl⟩
  go_wp2
  go_ret
  exact ⟨rfl, HB.out⟩
end Go.Proofs.Ythcpmonahmogaaa
