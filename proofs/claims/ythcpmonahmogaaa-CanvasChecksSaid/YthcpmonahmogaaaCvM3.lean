/- canvas: power, floor, empty, lattice, Resolution, both ways. -/
import Derived.Test.YthcpmonahmogaaaCvM2
set_option linter.unusedVariables false
set_option linter.unusedSimpArgs false
namespace Go.Proofs.Ythcpmonahmogaaa
open Go.RowKit
set_option maxRecDepth 100000
set_option maxHeartbeats 4000000 in
theorem power_any (n : Nat) (w : World) (hn : n ≤ 16) : Calls Try.prog 52 #[.int .i64 (n : Int)] w fun e w' => e = .returned (.tuple #[.int .i64 ((2 ^ n : Nat) : Int), .bool true]) ∧ w = w' := by
  have hI : inB (n : Int) 0 62 = true := by unfold inB; simp; omega
  have CI := Lib.hid (fun u => within_any (n : Int) 0 62 u)
  rw [hI] at CI
  clear hI
  obtain rfl | rfl | rfl | rfl | rfl | rfl | rfl | rfl | rfl | rfl | rfl | rfl | rfl | rfl | rfl | rfl | rfl : n = 0 ∨ n = 1 ∨ n = 2 ∨ n = 3 ∨ n = 4 ∨ n = 5 ∨ n = 6 ∨ n = 7 ∨ n = 8 ∨ n = 9 ∨ n = 10 ∨ n = 11 ∨ n = 12 ∨ n = 13 ∨ n = 14 ∨ n = 15 ∨ n = 16 := by omega
  all_goals
    go_enter Try.func52, Try.ntmps52
    go_wp2_with fail
    refine (CI.out _).mono ?_
    rintro e w1 ⟨rfl, rfl⟩
    go_wp2
    go_ret2
    exact ⟨rfl, rfl⟩
set_option maxHeartbeats 1000000 in
theorem floor_any (a b : Int) (w : World) (ha : 0 ≤ a ∧ a ≤ 1000000) (hb : 1 ≤ b ∧ b ≤ 1000000) :
    Calls Try.prog 62 #[.int .i64 a, .int .i64 b] w fun e w' => e = .returned (.int .i64 (a / b)) ∧ w' = w := by
  have hb0 : ¬ b = 0 := by omega
  have h2 : a.tdiv b = a / b := Int.tdiv_eq_ediv_of_nonneg (by omega)
  have h3 : 0 ≤ a / b ∧ a / b ≤ a := ⟨Int.ediv_nonneg (by omega) (by omega), Int.ediv_le_self _ (by omega)⟩
  have h4 : a.tmod b = a % b := Int.tmod_eq_emod_of_nonneg (by omega)
  have h5 : ¬ a % b < 0 := by have := Int.emod_nonneg a hb0; omega
  go_enter Try.func62, Try.ntmps62
  go_wp2
  go_ret
  exact ⟨by first | rfl | rw [h2], rfl⟩
set_option maxHeartbeats 1000000 in
theorem empty_any (x0 y0 x1 y1 : Int) (w : World) : Calls Try.prog 55 #[.agg #[.int .i64 x0, .int .i64 y0, .int .i64 x1, .int .i64 y1]] w fun e w' => e = .returned (.bool (decide (x1 ≤ x0 ∨ y1 ≤ y0))) ∧ Below w.heap.size w w' := by
  by_cases h1 : x1 ≤ x0
  · have h1' : decide (x1 ≤ x0 ∨ y1 ≤ y0) = true := by simp [h1]
    rw [h1']
    go_enter Try.func55, Try.ntmps55
    go_wp2
    go_ret
    exact ⟨rfl, (Below.refl _ w).alloc (Nat.le_refl _) _⟩
  · by_cases h2 : y1 ≤ y0
    · have h1' : decide (x1 ≤ x0 ∨ y1 ≤ y0) = true := by simp [h2]
      rw [h1']
      go_enter Try.func55, Try.ntmps55
      go_wp2
      go_ret
      exact ⟨rfl, (Below.refl _ w).alloc (Nat.le_refl _) _⟩
    · have h1' : decide (x1 ≤ x0 ∨ y1 ≤ y0) = false := by simp; omega
      rw [h1']
      go_enter Try.func55, Try.ntmps55
      go_wp2
      go_ret
      exact ⟨rfl, (Below.refl _ w).alloc (Nat.le_refl _) _⟩
set_option maxHeartbeats 4000000 in
theorem lattice_any (x0 y0 x1 y1 dx dy : Int) (w : World) (hdx : 1 ≤ dx ∧ dx ≤ 1000000) (hdy : 1 ≤ dy ∧ dy ≤ 1000000)
    (h0 : 0 ≤ x0 ∧ x0 ≤ 1000000) (h1 : 0 ≤ y0 ∧ y0 ≤ 1000000) (h2 : 0 ≤ x1 ∧ x1 ≤ 1000000) (h3 : 0 ≤ y1 ∧ y1 ≤ 1000000) :
    Calls Try.prog 56 #[.agg #[.int .i64 x0, .int .i64 y0, .int .i64 x1, .int .i64 y1], .int .i64 dx, .int .i64 dy] w fun e w' =>
      e = .returned (.agg #[.int .i64 (x0 / dx), .int .i64 (y0 / dy), .int .i64 (ceilF x1 dx), .int .i64 (ceilF y1 dy)]) ∧ Below w.heap.size w w' := by
  go_enter Try.func56, Try.ntmps56
  go_wp2
  obtain ⟨X, hX⟩ : ∃ X, (w.alloc (Obj.cells #[.int .i64 x0, .int .i64 y0, .int .i64 x1, .int .i64 y1] 48)).alloc (Obj.cells #[.int .i64 0, .int .i64 0, .int .i64 0, .int .i64 0] 48) = X := ⟨_, rfl⟩
  have hB : Below w.heap.size w X := by rw [← hX]; exact ((Below.refl _ w).alloc (Nat.le_refl _) _).alloc (by simp) _
  have hz : (w.alloc (Obj.cells #[.int .i64 x0, .int .i64 y0, .int .i64 x1, .int .i64 y1] 48)).heap.size = w.heap.size + 1 := by simp
  have b1 : X.heap[w.heap.size]? = some (.cells #[.int .i64 x0, .int .i64 y0, .int .i64 x1, .int .i64 y1] 48 (0, 0)) := by
    rw [← hX, Below.heap_alloc _ _ _ (by simp)]; exact World.alloc_heap_new w _
  have b2 : X.heap[w.heap.size + 1]? = some (.cells #[.int .i64 0, .int .i64 0, .int .i64 0, .int .i64 0] 48 (0, 0)) := by
    rw [← hX, ← hz]; exact World.alloc_heap_new _ _
  have g0 : X.cell? ⟨w.heap.size, 0, none⟩ = some (.int .i64 x0) := by simp [World.cell?, b1]
  have g1 : X.cell? ⟨w.heap.size, 1, none⟩ = some (.int .i64 y0) := by simp [World.cell?, b1]
  have g2 : X.cell? ⟨w.heap.size, 2, none⟩ = some (.int .i64 x1) := by simp [World.cell?, b1]
  have g3 : X.cell? ⟨w.heap.size, 3, none⟩ = some (.int .i64 y1) := by simp [World.cell?, b1]
  have k0 : X.cell? ⟨w.heap.size + 1, 0, none⟩ = some (.int .i64 0) := by simp [World.cell?, b2]
  have k1 : X.cell? ⟨w.heap.size + 1, 1, none⟩ = some (.int .i64 0) := by simp [World.cell?, b2]
  have k2 : X.cell? ⟨w.heap.size + 1, 2, none⟩ = some (.int .i64 0) := by simp [World.cell?, b2]
  have k3 : X.cell? ⟨w.heap.size + 1, 3, none⟩ = some (.int .i64 0) := by simp [World.cell?, b2]
  have kf : X.frozen? ⟨w.heap.size + 1, 0, none⟩ = false := by simp [World.frozen?, b2]
  have kf1 : X.frozen? ⟨w.heap.size + 1, 1, none⟩ = false := by simp [World.frozen?, b2]
  have kf2 : X.frozen? ⟨w.heap.size + 1, 2, none⟩ = false := by simp [World.frozen?, b2]
  have kf3 : X.frozen? ⟨w.heap.size + 1, 3, none⟩ = false := by simp [World.frozen?, b2]
  rw [hX]
  clear hX hz b1 b2
  refine wp_region_still_tail 17 (by kernel_rfl) (by kernel_rfl) ?_
  simp only [List.take_succ_cons, List.take_zero, List.drop_succ_cons, List.drop_zero]
  repeat still_step
  still_call (floor_any x0 dx X.drew h0 hdx)
  repeat still_step
  still_call (floor_any y0 dy X.drew h1 hdy)
  repeat still_step
  still_call (ceil_any x1 dx X.drew h2 hdx)
  repeat still_step
  still_call (ceil_any y1 dy X.drew h3 hdy)
  repeat still_step
  refine wpStill_nil ?_
  change wpList _ _ _ _ _ X.drew
  go_wp2
  refine bodyPost_ret (v := .agg #[.int .i64 (x0 / dx), .int .i64 (y0 / dy), .int .i64 (ceilF x1 dx), .int .i64 (ceilF y1 dy)]) (by simp [results, Try.results56, go_sem, k0, k1, k2, k3, kf, kf1, kf2, kf3]) rfl ⟨rfl, ?_⟩
  exact below_drewN ((((hB.setCell (p := ⟨w.heap.size + 1, 0, none⟩) (by show _ ≤ w.heap.size + 1; omega) _).setCell (p := ⟨w.heap.size + 1, 1, none⟩) (by show _ ≤ w.heap.size + 1; omega) _).setCell (p := ⟨w.heap.size + 1, 2, none⟩) (by show _ ≤ w.heap.size + 1; omega) _).setCell (p := ⟨w.heap.size + 1, 3, none⟩) (by show _ ≤ w.heap.size + 1; omega) _) 1
end Go.Proofs.Ythcpmonahmogaaa
