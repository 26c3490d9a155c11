/- Part of package canvas, by its contract. -/
import Derived.Test.YthcpmonahmogaaaCvA
import Derived.StillTailTactics
import Derived.RangeFuncBox
set_option linter.unusedVariables false
set_option linter.unusedSimpArgs false
namespace Go.Proofs.Ythcpmonahmogaaa
open Go.RowKit

theorem ceil_mono {a a' b : Int} (h : a ≤ a') (hb : 1 ≤ b) : ceilF a b ≤ ceilF a' b := by
  have h1 : ∀ x : Int, ceilF x b = -((-x) / b) := by
    intro x
    unfold ceilF
    have e1 := Int.mul_ediv_add_emod x b
    have hr0 := Int.emod_nonneg x (show b ≠ 0 by omega)
    have hlt := Int.emod_lt_of_pos x (show 0 < b by omega)
    generalize x / b = q at *
    generalize x % b = r at *
    subst e1
    by_cases c : 0 < r
    · rw [if_pos c]
      have e2 : -(b * q + r) = (b - r) + b * (-q - 1) := by
        rw [Int.mul_sub, Int.mul_neg, Int.mul_one]; omega
      rw [e2, Int.add_mul_ediv_left _ _ (by omega), Int.ediv_eq_zero_of_lt (by omega) (by omega)]
      omega
    · rw [if_neg c]
      have e2 : -(b * q + r) = b * (-q) := by rw [Int.mul_neg]; omega
      rw [e2, Int.mul_ediv_cancel_left _ (by omega)]
      omega
  rw [h1, h1]
  have := Int.ediv_le_ediv (show 0 < b by omega) (show -a' ≤ -a by omega)
  omega
theorem part1_any (a b : Int) (p : Addr) (w : World) (hc : w.cell? p = some (.int .i64 b)) (ha : 0 ≤ a ∧ a ≤ 1000000) (hb : 1 ≤ b ∧ b ≤ 1000000) :
    Calls Try.prog 49 #[.int .i64 a, .pointer (some p)] w fun e w' => e = .returned (.int .i64 (ceilF a b)) ∧ w' = w := by
  go_enter Try.func49, Try.ntmps49
  go_wp2_with fail
  refine (ceil_any a b _ ha hb).mono ?_
  rintro e w' ⟨rfl, rfl⟩
  go_wp2
  go_ret
  exact ⟨rfl, rfl⟩
theorem part2_any (a b : Int) (p : Addr) (w : World) (hc : w.cell? p = some (.int .i64 b)) (ha : 0 ≤ a ∧ a ≤ 1000000) (hb : 1 ≤ b ∧ b ≤ 1000000) :
    Calls Try.prog 50 #[.int .i64 a, .pointer (some p)] w fun e w' => e = .returned (.int .i64 (ceilF a b)) ∧ w' = w := by
  go_enter Try.func50, Try.ntmps50
  go_wp2_with fail
  refine (ceil_any a b _ ha hb).mono ?_
  rintro e w' ⟨rfl, rfl⟩
  go_wp2
  go_ret
  exact ⟨rfl, rfl⟩

set_option maxHeartbeats 4000000 in
theorem each_any (x0 y0 x1 y1 dx dy : Int) (px py : Addr) (w : World) (hx : w.cell? px = some (.int .i64 dx)) (hy : w.cell? py = some (.int .i64 dy)) (hdx : 1 ≤ dx ∧ dx ≤ 1000000) (hdy : 1 ≤ dy ∧ dy ≤ 1000000)
    (h0 : 0 ≤ x0 ∧ x0 ≤ 1000000) (h1 : 0 ≤ y0 ∧ y0 ≤ 1000000) (h2 : 0 ≤ x1 ∧ x1 ≤ 1000000) (h3 : 0 ≤ y1 ∧ y1 ≤ 1000000) :
    Calls Try.prog 48 #[.agg #[.int .i64 x0, .int .i64 y0, .int .i64 x1, .int .i64 y1], .func (.func 49) #[] #[.pointer (some px)], .func (.func 50) #[] #[.pointer (some py)]] w fun e w' =>
      e = .returned (.agg #[.int .i64 (ceilF x0 dx), .int .i64 (ceilF y0 dy), .int .i64 (ceilF x1 dx), .int .i64 (ceilF y1 dy)]) ∧ Below w.heap.size w w' := by
  go_enter Try.func48, Try.ntmps48
  go_wp2
  obtain ⟨X, hX⟩ : ∃ X, (w.alloc (Obj.cells #[.int .i64 x0, .int .i64 y0, .int .i64 x1, .int .i64 y1] 48)).alloc (Obj.cells #[.int .i64 0, .int .i64 0, .int .i64 0, .int .i64 0] 48) = X := ⟨_, rfl⟩
  have hB : Below w.heap.size w X := by rw [← hX]; exact ((Below.refl _ w).alloc (Nat.le_refl _) _).alloc (by simp) _
  have xB : X.cell? px = some (.int .i64 dx) := (hB.cell (World.block_lt_of_cell? w px hx)).trans hx
  have yB : X.cell? py = some (.int .i64 dy) := (hB.cell (World.block_lt_of_cell? w py hy)).trans hy
  have hz : (w.alloc (Obj.cells #[.int .i64 x0, .int .i64 y0, .int .i64 x1, .int .i64 y1] 48)).heap.size = w.heap.size + 1 := by simp
  have b1 : X.heap[w.heap.size]? = some (.cells #[.int .i64 x0, .int .i64 y0, .int .i64 x1, .int .i64 y1] 48 (0, 0)) := by
    rw [← hX, Below.heap_alloc _ _ _ (by simp)]; exact World.alloc_heap_new w _
  have b2 : X.heap[w.heap.size + 1]? = some (.cells #[.int .i64 0, .int .i64 0, .int .i64 0, .int .i64 0] 48 (0, 0)) := by
    rw [← hX, ← hz]; exact World.alloc_heap_new _ _
  have g0 : X.cell? ⟨w.heap.size, 0, none⟩ = some (.int .i64 x0) := by simp [World.cell?, b1]
  have g1 : X.cell? ⟨w.heap.size, 1, none⟩ = some (.int .i64 y0) := by simp [World.cell?, b1]
  have g2 : X.cell? ⟨w.heap.size, 2, none⟩ = some (.int .i64 x1) := by simp [World.cell?, b1]
  have g3 : X.cell? ⟨w.heap.size, 3, none⟩ = some (.int .i64 y1) := by simp [World.cell?, b1]
  have k0 : X.cell? ⟨w.heap.size + 1, 0, none⟩ = some (.int .i64 0) := by simp [World.cell?, b2]
  have k1 : X.cell? ⟨w.heap.size + 1, 1, none⟩ = some (.int .i64 0) := by simp [World.cell?, b2]
  have k2 : X.cell? ⟨w.heap.size + 1, 2, none⟩ = some (.int .i64 0) := by simp [World.cell?, b2]
  have k3 : X.cell? ⟨w.heap.size + 1, 3, none⟩ = some (.int .i64 0) := by simp [World.cell?, b2]
  have kf : X.frozen? ⟨w.heap.size + 1, 0, none⟩ = false := by simp [World.frozen?, b2]
  have kf1 : X.frozen? ⟨w.heap.size + 1, 1, none⟩ = false := by simp [World.frozen?, b2]
  have kf2 : X.frozen? ⟨w.heap.size + 1, 2, none⟩ = false := by simp [World.frozen?, b2]
  have kf3 : X.frozen? ⟨w.heap.size + 1, 3, none⟩ = false := by simp [World.frozen?, b2]
  rw [hX]
  clear hX hz b1 b2 hx hy
  refine wp_region_still_tail 17 (by kernel_rfl) (by kernel_rfl) ?_
  simp only [List.take_succ_cons, List.take_zero, List.drop_succ_cons, List.drop_zero]
  repeat still_step
  still_call (part1_any x0 dx px X.drew xB h0 hdx)
  repeat still_step
  still_call (part2_any y0 dy py X.drew yB h1 hdy)
  repeat still_step
  still_call (part1_any x1 dx px X.drew xB h2 hdx)
  repeat still_step
  still_call (part2_any y1 dy py X.drew yB h3 hdy)
  repeat still_step
  refine wpStill_nil ?_
  change wpList _ _ _ _ _ X.drew
  go_wp2
  refine bodyPost_ret (v := .agg #[.int .i64 (ceilF x0 dx), .int .i64 (ceilF y0 dy), .int .i64 (ceilF x1 dx), .int .i64 (ceilF y1 dy)]) (by simp [results, Try.results48, go_sem, k0, k1, k2, k3, kf, kf1, kf2, kf3]) rfl ⟨rfl, ?_⟩
  exact below_drewN ((((hB.setCell (p := ⟨w.heap.size + 1, 0, none⟩) (by show _ ≤ w.heap.size + 1; omega) _).setCell (p := ⟨w.heap.size + 1, 1, none⟩) (by show _ ≤ w.heap.size + 1; omega) _).setCell (p := ⟨w.heap.size + 1, 2, none⟩) (by show _ ≤ w.heap.size + 1; omega) _).setCell (p := ⟨w.heap.size + 1, 3, none⟩) (by show _ ≤ w.heap.size + 1; omega) _) 1

set_option maxHeartbeats 4000000 in
theorem part_any (x0 y0 x1 y1 dx dy : Int) (w : World) (hdx : 1 ≤ dx ∧ dx ≤ 1000000) (hdy : 1 ≤ dy ∧ dy ≤ 1000000)
    (h0 : 0 ≤ x0 ∧ x0 ≤ 1000000) (h1 : 0 ≤ y0 ∧ y0 ≤ 1000000) (h2 : 0 ≤ x1 ∧ x1 ≤ 1000000) (h3 : 0 ≤ y1 ∧ y1 ≤ 1000000) :
    Calls Try.prog 21 #[.agg #[.int .i64 x0, .int .i64 y0, .int .i64 x1, .int .i64 y1], .int .i64 dx, .int .i64 dy] w fun e w' =>
      e = .returned (.agg #[.int .i64 (ceilF x0 dx), .int .i64 (ceilF y0 dy), .int .i64 (ceilF x1 dx), .int .i64 (ceilF y1 dy)]) ∧ Below w.heap.size w w' := by
  have d1 : decide (dx < 1) = false := by simp; omega
  have d2 : decide (dy < 1) = false := by simp; omega
  go_enter Try.func21, Try.ntmps21
  go_wp2_with fail
  obtain ⟨X, hX⟩ : ∃ X, (((w.alloc (Obj.cells #[.int .i64 x0, .int .i64 y0, .int .i64 x1, .int .i64 y1] 48)).alloc (Obj.cells #[.int .i64 dx] 3)).alloc (Obj.cells #[.int .i64 dy] 3)).alloc (Obj.cells #[.int .i64 0, .int .i64 0, .int .i64 0, .int .i64 0] 48) = X := ⟨_, rfl⟩
  have hB : Below w.heap.size w X := by rw [← hX]; exact ((((Below.refl _ w).alloc (Nat.le_refl _) _).alloc (by simp) _).alloc (by simp; omega) _).alloc (by simp; omega) _
  have hsz : X.heap.size = w.heap.size + 1 + 1 + 1 + 1 := by rw [← hX]; simp
  have gx : X.cell? ⟨w.heap.size + 1, 0, none⟩ = some (.int .i64 dx) := by
    have := ((Boxed.new (w.alloc (Obj.cells #[.int .i64 x0, .int .i64 y0, .int .i64 x1, .int .i64 y1] 48)) 3 (.int .i64 dx)).alloc (Obj.cells #[.int .i64 dy] 3)).alloc (Obj.cells #[.int .i64 0, .int .i64 0, .int .i64 0, .int .i64 0] 48)
    rw [World.size_alloc] at this
    rw [← hX]; exact this.cell
  have gy : X.cell? ⟨w.heap.size + 1 + 1, 0, none⟩ = some (.int .i64 dy) := by
    have := (Boxed.new ((w.alloc (Obj.cells #[.int .i64 x0, .int .i64 y0, .int .i64 x1, .int .i64 y1] 48)).alloc (Obj.cells #[.int .i64 dx] 3)) 3 (.int .i64 dy)).alloc (Obj.cells #[.int .i64 0, .int .i64 0, .int .i64 0, .int .i64 0] 48)
    rw [World.size_alloc, World.size_alloc] at this
    rw [← hX]; exact this.cell
  have b2 : X.heap[w.heap.size + 1 + 1 + 1]? = some (.cells #[.int .i64 0, .int .i64 0, .int .i64 0, .int .i64 0] 48 (0, 0)) := by
    rw [← hX, show w.heap.size + 1 + 1 + 1 = (((w.alloc (Obj.cells #[.int .i64 x0, .int .i64 y0, .int .i64 x1, .int .i64 y1] 48)).alloc (Obj.cells #[.int .i64 dx] 3)).alloc (Obj.cells #[.int .i64 dy] 3)).heap.size by simp]; exact World.alloc_heap_new _ _
  rw [hX]
  clear hX
  refine (each_any x0 y0 x1 y1 dx dy _ _ X gx gy hdx hdy h0 h1 h2 h3).mono ?_
  rintro e Y ⟨rfl, hY⟩
  have b3 : Y.heap[w.heap.size + 1 + 1 + 1]? = some (.cells #[.int .i64 0, .int .i64 0, .int .i64 0, .int .i64 0] 48 (0, 0)) := (hY.block _ (by omega)).trans b2
  have hBY := hB.trans (hY.mono hB.size)
  have k0 : Y.cell? ⟨w.heap.size + 1 + 1 + 1, 0, none⟩ = some (.int .i64 0) := by simp [World.cell?, b3]
  have k1 : Y.cell? ⟨w.heap.size + 1 + 1 + 1, 1, none⟩ = some (.int .i64 0) := by simp [World.cell?, b3]
  have k2 : Y.cell? ⟨w.heap.size + 1 + 1 + 1, 2, none⟩ = some (.int .i64 0) := by simp [World.cell?, b3]
  have k3 : Y.cell? ⟨w.heap.size + 1 + 1 + 1, 3, none⟩ = some (.int .i64 0) := by simp [World.cell?, b3]
  have kf : Y.frozen? ⟨w.heap.size + 1 + 1 + 1, 0, none⟩ = false := by simp [World.frozen?, b3]
  have kf1 : Y.frozen? ⟨w.heap.size + 1 + 1 + 1, 1, none⟩ = false := by simp [World.frozen?, b3]
  have kf2 : Y.frozen? ⟨w.heap.size + 1 + 1 + 1, 2, none⟩ = false := by simp [World.frozen?, b3]
  have kf3 : Y.frozen? ⟨w.heap.size + 1 + 1 + 1, 3, none⟩ = false := by simp [World.frozen?, b3]
  clear b2 b3 gx gy hY hB
  go_wp2
  refine bodyPost_ret (v := .agg #[.int .i64 (ceilF x0 dx), .int .i64 (ceilF y0 dy), .int .i64 (ceilF x1 dx), .int .i64 (ceilF y1 dy)]) (by simp [results, Try.results21, go_sem, k0, k1, k2, k3, kf, kf1, kf2, kf3]) rfl ⟨rfl, ?_⟩
  exact (((hBY.setCell (p := ⟨w.heap.size + 1 + 1 + 1, 0, none⟩) (by show _ ≤ w.heap.size + 1 + 1 + 1; omega) _).setCell (p := ⟨w.heap.size + 1 + 1 + 1, 1, none⟩) (by show _ ≤ w.heap.size + 1 + 1 + 1; omega) _).setCell (p := ⟨w.heap.size + 1 + 1 + 1, 2, none⟩) (by show _ ≤ w.heap.size + 1 + 1 + 1; omega) _).setCell (p := ⟨w.heap.size + 1 + 1 + 1, 3, none⟩) (by show _ ≤ w.heap.size + 1 + 1 + 1; omega) _
end Go.Proofs.Ythcpmonahmogaaa
