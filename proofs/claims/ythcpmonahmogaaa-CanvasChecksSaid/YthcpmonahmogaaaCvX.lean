/- canvas: cross, places. -/
import Derived.Test.YthcpmonahmogaaaCvP
set_option linter.unusedVariables false
set_option linter.unusedSimpArgs false
namespace Go.Proofs.Ythcpmonahmogaaa
open Go.RowKit
set_option maxRecDepth 100000
def maxJ (a b : Int) : Int := if a < b then b else a
def minJ (a b : Int) : Int := if b < a then b else a
abbrev rcA (a0 a1 a2 a3 : Int) : Array Value := #[.int .i64 a0, .int .i64 a1, .int .i64 a2, .int .i64 a3]
theorem rc_cells {V : World} {b : Nat} {a0 a1 a2 a3 : Int} (h : V.heap[b]? = some (.cells #[.int .i64 a0, .int .i64 a1, .int .i64 a2, .int .i64 a3] 48 (0, 0))) : V.cell? ⟨b, 0, none⟩ = some (.int .i64 a0) ∧ V.cell? ⟨b, 1, none⟩ = some (.int .i64 a1) ∧ V.cell? ⟨b, 2, none⟩ = some (.int .i64 a2) ∧ V.cell? ⟨b, 3, none⟩ = some (.int .i64 a3) := by
  simp [World.cell?, h]
set_option maxHeartbeats 4000000 in
theorem cross_any (a0 a1 a2 a3 b0 b1 b2 b3 : Int) (w : World) :
    Calls Try.prog 59 #[.agg #[.int .i64 a0, .int .i64 a1, .int .i64 a2, .int .i64 a3], .agg #[.int .i64 b0, .int .i64 b1, .int .i64 b2, .int .i64 b3]] w fun e w' => e = .returned (.agg #[.int .i64 (maxJ a0 b0), .int .i64 (maxJ a1 b1), .int .i64 (minJ a2 b2), .int .i64 (minJ a3 b3)]) ∧ Below w.heap.size w w' := by
  have e0 : (if a0 < b0 then b0 else a0) = maxJ a0 b0 := rfl
  have e1 : (if a1 < b1 then b1 else a1) = maxJ a1 b1 := rfl
  have e2 : (if b2 < a2 then b2 else a2) = minJ a2 b2 := rfl
  have e3 : (if b3 < a3 then b3 else a3) = minJ a3 b3 := rfl
  generalize maxJ a0 b0 = m0 at *
  generalize maxJ a1 b1 = m1 at *
  generalize minJ a2 b2 = m2 at *
  generalize minJ a3 b3 = m3 at *
  go_enter Try.func59, Try.ntmps59
  go_wp2
  clear e0 e1 e2 e3
  obtain ⟨X, hX⟩ : ∃ X, ((w.alloc (Obj.cells #[.int .i64 a0, .int .i64 a1, .int .i64 a2, .int .i64 a3] 48)).alloc (Obj.cells #[.int .i64 b0, .int .i64 b1, .int .i64 b2, .int .i64 b3] 48)).alloc (Obj.cells #[.int .i64 m0, .int .i64 m1, .int .i64 m2, .int .i64 m3] 48) = X := ⟨_, rfl⟩
  have hB : Below w.heap.size w X := by rw [← hX]; exact (((Below.refl _ w).alloc (Nat.le_refl _) _).alloc (by simp) _).alloc (by simp; omega) _
  have hz : ((w.alloc (Obj.cells #[.int .i64 a0, .int .i64 a1, .int .i64 a2, .int .i64 a3] 48)).alloc (Obj.cells #[.int .i64 b0, .int .i64 b1, .int .i64 b2, .int .i64 b3] 48)).heap.size = w.heap.size + 1 + 1 := by simp
  have b1 : X.heap[w.heap.size + 1 + 1]? = some (.cells #[.int .i64 m0, .int .i64 m1, .int .i64 m2, .int .i64 m3] 48 (0, 0)) := by
    rw [← hX, ← hz]; exact World.alloc_heap_new _ _
  obtain ⟨k0, k1, k2, k3⟩ := rc_cells b1
  rw [hX]
  clear hX hz b1
  exact bodyPost_ret (v := .agg #[.int .i64 m0, .int .i64 m1, .int .i64 m2, .int .i64 m3]) (by simp [results, Try.results59, go_sem, k0, k1, k2, k3]) rfl ⟨rfl, hB⟩
theorem places_any (a0 a1 a2 a3 : Int) (w : World) :
    Calls Try.prog 61 #[.agg #[.int .i64 a0, .int .i64 a1, .int .i64 a2, .int .i64 a3]] w fun e w' => e = .returned (.func (.func 63) #[] #[.pointer (some ⟨w.heap.size, 0, none⟩)]) ∧ w' = w.alloc (.cells #[.int .i64 a0, .int .i64 a1, .int .i64 a2, .int .i64 a3] 48) := by
  go_enter Try.func61, Try.ntmps61
  go_wp2
  go_ret
  exact ⟨rfl, rfl⟩
end Go.Proofs.Ythcpmonahmogaaa
