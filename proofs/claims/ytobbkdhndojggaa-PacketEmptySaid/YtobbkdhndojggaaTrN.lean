/- Trees: a new table, a new tree of one leaf. -/
import Derived.Test.YtobbkdhndojggaaTrA
import Derived.Outline
import Derived.RangeFuncRecord
set_option linter.unusedVariables false
set_option linter.unusedSimpArgs false
namespace Go.Proofs.Ytobbkdhndojggaa
open Go.RowKit
set_option maxRecDepth 100000
theorem Try.info120 : (Try.prog.info? 120).map (fun i => (i.zero, i.size, i.bytes)) = some (some (.agg #[.int .i64 0, .int .i64 0, .bool false]), 3, 24) := by kernel_rfl
def nodes0 (n : Nat) : Array Value := madeCells #[.int .i64 0, .int .i64 0, .bool false] (n * 3)
theorem hmkT (u : World) (q : Nat) (hq : q ≤ 5000) : (Instr.makeSlice 115 (.int .i64 (q : Int)) (.int .i64 (q : Int))).run Try.prog u = .ok (.slice (some ⟨u.heap.size, 0, none⟩) q q) (u.alloc (.cells (nodes0 q) 120)) := by
  obtain ⟨i, hi, hzz⟩ := Option.map_eq_some_iff.1 Try.info120
  simp only [Prod.mk.injEq] at hzz
  obtain ⟨hz, hs, hb⟩ := hzz
  have hr := run_make (P := Try.prog) u 115 120 i (.agg #[.int .i64 0, .int .i64 0, .bool false]) (by kernel_rfl) hi hz .i64 .i64 q q (by omega) (Int.le_refl _) (by rw [hb]; omega) (by omega)
  simp only [Int.toNat_natCast, hs] at hr
  exact hr
theorem newT (W H n : Nat) (w : World) (hWH : W ≤ 64 ∧ H ≤ 64) (hn : W * H = n) :
    Calls Try.prog 46 #[.int .i64 (W : Int), .int .i64 (H : Int)] w fun e w' => e = .returned (.agg #[.int .i64 (W : Int), .int .i64 (H : Int), .slice (some ⟨w.heap.size + 1, 0, none⟩) n n]) ∧
      w'.heap[w.heap.size + 1]? = some (.cells (nodes0 n) 120 (0, 0)) ∧ Below w.heap.size w w' := by
  have hn5 : n ≤ 5000 := by
    have := Nat.mul_le_mul hWH.1 hWH.2
    omega
  have hmk := fun u => hmkT u n hn5
  have q1 : wrap64 ((W : Int) * (H : Int)) = (n : Int) := by rw [← hn]; exact wr_mul _ _ (by omega) (by omega)
  clear hn
  go_enter Try.func46, Try.ntmps46
  go_wp2
  clear q1
  obtain ⟨X, hX⟩ : ∃ X, (w.alloc (Obj.cells #[.int .i64 (W : Int), .int .i64 (H : Int), .slice (some ⟨w.heap.size + 1, 0, none⟩) n n] 117)).alloc (Obj.cells (nodes0 n) 120) = X := ⟨_, rfl⟩
  have hB : Below w.heap.size w X := by rw [← hX]; exact ((Below.refl _ w).alloc (Nat.le_refl _) _).alloc (by simp) _
  have hz : (w.alloc (Obj.cells #[.int .i64 (W : Int), .int .i64 (H : Int), .slice (some ⟨w.heap.size + 1, 0, none⟩) n n] 117)).heap.size = w.heap.size + 1 := by simp
  have b1' : X.heap[w.heap.size]? = some (.cells #[.int .i64 (W : Int), .int .i64 (H : Int), .slice (some ⟨w.heap.size + 1, 0, none⟩) n n] 117 (0, 0)) := by
    rw [← hX, Below.heap_alloc _ _ _ (by simp)]; exact World.alloc_heap_new w _
  have b2' : X.heap[w.heap.size + 1]? = some (.cells (nodes0 n) 120 (0, 0)) := by
    have h := World.alloc_heap_new (w.alloc (Obj.cells #[.int .i64 (W : Int), .int .i64 (H : Int), .slice (some ⟨w.heap.size + 1, 0, none⟩) n n] 117)) (Obj.cells (nodes0 n) 120)
    rw [hz, hX] at h
    exact h
  have k0 : X.cell? ⟨w.heap.size, 0, none⟩ = some (.int .i64 (W : Int)) := by simp [World.cell?, b1']
  have k1 : X.cell? ⟨w.heap.size, 1, none⟩ = some (.int .i64 (H : Int)) := by simp [World.cell?, b1']
  have k2 : X.cell? ⟨w.heap.size, 2, none⟩ = some (.slice (some ⟨w.heap.size + 1, 0, none⟩) n n) := by simp [World.cell?, b1']
  rw [hX]
  clear hX hz b1'
  exact bodyPost_ret (v := .agg #[.int .i64 (W : Int), .int .i64 (H : Int), .slice (some ⟨w.heap.size + 1, 0, none⟩) n n]) (by simp [results, Try.results46, go_sem, k0, k1, k2]) rfl ⟨rfl, b2', hB⟩
end Go.Proofs.Ytobbkdhndojggaa
