/- canvas: the reference's numbers of chapter 12: ceil, over, Part, Whole, Area, and chapter 11's Bounds. -/
import Derived.Test.YthcpmonahmogaaaCvSa0
set_option linter.unusedVariables false
set_option linter.unusedSimpArgs false
namespace Go.Proofs.Ythcpmonahmogaaa
open Go.RowKit
theorem rceil_is {a b : Int} (hb : 1 ≤ b) : (a + b - 1) / b = ceilF a b := by
  unfold ceilF
  have e1 := Int.mul_ediv_add_emod a b
  have hr0 := Int.emod_nonneg a (show b ≠ 0 by omega)
  have hlt := Int.emod_lt_of_pos a (show 0 < b by omega)
  generalize a / b = q at *
  generalize a % b = r at *
  subst e1
  by_cases c : 0 < r
  · rw [if_pos c, show b * q + r + b - 1 = (r - 1) + b * (q + 1) by rw [Int.mul_add, Int.mul_one]; omega, Int.add_mul_ediv_left _ _ (by omega), Int.ediv_eq_zero_of_lt (by omega) (by omega)]
    omega
  · rw [if_neg c, show b * q + r + b - 1 = (b - 1) + b * q by omega, Int.add_mul_ediv_left _ _ (by omega), Int.ediv_eq_zero_of_lt (by omega) (by omega)]
    omega
set_option maxHeartbeats 1000000 in
theorem rceil_any (a b : Int) (w : World) (ha : 0 ≤ a ∧ a ≤ 1000000) (hb : 1 ≤ b ∧ b ≤ 1000000) :
    Calls Try.prog 47 #[.int .i64 a, .int .i64 b] w fun e w' => e = .returned (.int .i64 (ceilF a b)) ∧ w' = w := by
  have hb0 : ¬ b = 0 := by omega
  have h2 : (a + b - 1).tdiv b = ceilF a b := by rw [Int.tdiv_eq_ediv_of_nonneg (by omega), rceil_is hb.1]
  have h3 := ceil_bd a b ha.1 hb.1
  have h4 : ¬ a < 0 := by omega
  have H5 := Lib.hid (rceil_is (a := a) hb.1)
  go_enter Try.func47, Try.ntmps47
  go_wp2
  go_ret
  exact ⟨by first | rfl | (rw [H5.out]), rfl⟩

set_option maxHeartbeats 4000000 in
theorem rover_any (x0 y0 x1 y1 dx dy : Int) (w : World) (hdx : 1 ≤ dx ∧ dx ≤ 1000000) (hdy : 1 ≤ dy ∧ dy ≤ 1000000)
    (h0 : 0 ≤ x0 ∧ x0 ≤ 1000000) (h1 : 0 ≤ y0 ∧ y0 ≤ 1000000) (h2 : 0 ≤ x1 ∧ x1 ≤ 1000000) (h3 : 0 ≤ y1 ∧ y1 ≤ 1000000) :
    Calls Try.prog 51 #[.agg #[.int .i64 x0, .int .i64 y0, .int .i64 x1, .int .i64 y1], .int .i64 dx, .int .i64 dy, .int .i64 0, .int .i64 0] w fun e w' =>
      e = .returned (.agg #[.int .i64 (ceilF x0 dx), .int .i64 (ceilF y0 dy), .int .i64 (ceilF x1 dx), .int .i64 (ceilF y1 dy)]) ∧ Below w.heap.size w w' := by
  go_enter Try.func51, Try.ntmps51
  go_wp2
  obtain ⟨X, hX⟩ : ∃ X, (w.alloc (Obj.cells #[.int .i64 x0, .int .i64 y0, .int .i64 x1, .int .i64 y1] 48)).alloc (Obj.cells #[.int .i64 0, .int .i64 0, .int .i64 0, .int .i64 0] 48) = X := ⟨_, rfl⟩
  have hB : Below w.heap.size w X := by rw [← hX]; exact ((Below.refl _ w).alloc (Nat.le_refl _) _).alloc (by simp) _
  have hz : (w.alloc (Obj.cells #[.int .i64 x0, .int .i64 y0, .int .i64 x1, .int .i64 y1] 48)).heap.size = w.heap.size + 1 := by simp
  have b1 : X.heap[w.heap.size]? = some (.cells #[.int .i64 x0, .int .i64 y0, .int .i64 x1, .int .i64 y1] 48 (0, 0)) := by
    rw [← hX, Below.heap_alloc _ _ _ (by simp)]; exact World.alloc_heap_new w _
  have b2 : X.heap[w.heap.size + 1]? = some (.cells #[.int .i64 0, .int .i64 0, .int .i64 0, .int .i64 0] 48 (0, 0)) := by
    rw [← hX, ← hz]; exact World.alloc_heap_new _ _
  have g0 : X.cell? ⟨w.heap.size, 0, none⟩ = some (.int .i64 x0) := by simp [World.cell?, b1]
  have g1 : X.cell? ⟨w.heap.size, 1, none⟩ = some (.int .i64 y0) := by simp [World.cell?, b1]
  have g2 : X.cell? ⟨w.heap.size, 2, none⟩ = some (.int .i64 x1) := by simp [World.cell?, b1]
  have g3 : X.cell? ⟨w.heap.size, 3, none⟩ = some (.int .i64 y1) := by simp [World.cell?, b1]
  have k0 : X.cell? ⟨w.heap.size + 1, 0, none⟩ = some (.int .i64 0) := by simp [World.cell?, b2]
  have k1 : X.cell? ⟨w.heap.size + 1, 1, none⟩ = some (.int .i64 0) := by simp [World.cell?, b2]
  have k2 : X.cell? ⟨w.heap.size + 1, 2, none⟩ = some (.int .i64 0) := by simp [World.cell?, b2]
  have k3 : X.cell? ⟨w.heap.size + 1, 3, none⟩ = some (.int .i64 0) := by simp [World.cell?, b2]
  have kf : X.frozen? ⟨w.heap.size + 1, 0, none⟩ = false := by simp [World.frozen?, b2]
  have kf1 : X.frozen? ⟨w.heap.size + 1, 1, none⟩ = false := by simp [World.frozen?, b2]
  have kf2 : X.frozen? ⟨w.heap.size + 1, 2, none⟩ = false := by simp [World.frozen?, b2]
  have kf3 : X.frozen? ⟨w.heap.size + 1, 3, none⟩ = false := by simp [World.frozen?, b2]
  rw [hX]
  clear hX hz b1 b2
  have s0 : IntKind.i64.wrap (x0 - 0) = x0 := by rw [Int.sub_zero]; exact IntWalk.i64_in _ (by omega)
  have s1 : IntKind.i64.wrap (y0 - 0) = y0 := by rw [Int.sub_zero]; exact IntWalk.i64_in _ (by omega)
  have s2 : IntKind.i64.wrap (x1 - 0) = x1 := by rw [Int.sub_zero]; exact IntWalk.i64_in _ (by omega)
  have s3 : IntKind.i64.wrap (y1 - 0) = y1 := by rw [Int.sub_zero]; exact IntWalk.i64_in _ (by omega)
  have t0 : IntKind.i64.wrap x0 = x0 := IntWalk.i64_in _ (by omega)
  have t1 : IntKind.i64.wrap y0 = y0 := IntWalk.i64_in _ (by omega)
  have t2 : IntKind.i64.wrap x1 = x1 := IntWalk.i64_in _ (by omega)
  have t3 : IntKind.i64.wrap y1 = y1 := IntWalk.i64_in _ (by omega)
  refine wp_region_still_tail 25 (by kernel_rfl) (by kernel_rfl) ?_
  simp only [List.take_succ_cons, List.take_zero, List.drop_succ_cons, List.drop_zero]
  repeat still_step
  still_call (rceil_any x0 dx X.drew h0 hdx)
  repeat still_step
  still_call (rceil_any y0 dy X.drew h1 hdy)
  repeat still_step
  still_call (rceil_any x1 dx X.drew h2 hdx)
  repeat still_step
  still_call (rceil_any y1 dy X.drew h3 hdy)
  repeat still_step
  refine wpStill_nil ?_
  change wpList _ _ _ _ _ X.drew
  go_wp2
  refine bodyPost_ret (v := .agg #[.int .i64 (ceilF x0 dx), .int .i64 (ceilF y0 dy), .int .i64 (ceilF x1 dx), .int .i64 (ceilF y1 dy)]) (by simp [results, Try.results51, go_sem, k0, k1, k2, k3, kf, kf1, kf2, kf3]) rfl ⟨rfl, ?_⟩
  exact below_drewN ((((hB.setCell (p := ⟨w.heap.size + 1, 0, none⟩) (by show _ ≤ w.heap.size + 1; omega) _).setCell (p := ⟨w.heap.size + 1, 1, none⟩) (by show _ ≤ w.heap.size + 1; omega) _).setCell (p := ⟨w.heap.size + 1, 2, none⟩) (by show _ ≤ w.heap.size + 1; omega) _).setCell (p := ⟨w.heap.size + 1, 3, none⟩) (by show _ ≤ w.heap.size + 1; omega) _) 1


set_option maxHeartbeats 4000000 in
theorem rpart_any (x0 y0 x1 y1 dx dy : Int) (w : World) (hdx : 1 ≤ dx ∧ dx ≤ 1000000) (hdy : 1 ≤ dy ∧ dy ≤ 1000000)
    (h0 : 0 ≤ x0 ∧ x0 ≤ 1000000) (h1 : 0 ≤ y0 ∧ y0 ≤ 1000000) (h2 : 0 ≤ x1 ∧ x1 ≤ 1000000) (h3 : 0 ≤ y1 ∧ y1 ≤ 1000000) :
    Calls Try.prog 22 #[.agg #[.int .i64 x0, .int .i64 y0, .int .i64 x1, .int .i64 y1], .int .i64 dx, .int .i64 dy] w fun e w' =>
      e = .returned (.agg #[.int .i64 (ceilF x0 dx), .int .i64 (ceilF y0 dy), .int .i64 (ceilF x1 dx), .int .i64 (ceilF y1 dy)]) ∧ Below w.heap.size w w' := by
  go_enter Try.func22, Try.ntmps22
  go_wp2_with fail
  obtain ⟨X, hX⟩ : ∃ X, (w.alloc (Obj.cells #[.int .i64 x0, .int .i64 y0, .int .i64 x1, .int .i64 y1] 48)).alloc (Obj.cells #[.int .i64 0, .int .i64 0, .int .i64 0, .int .i64 0] 48) = X := ⟨_, rfl⟩
  have hB : Below w.heap.size w X := by rw [← hX]; exact ((Below.refl _ w).alloc (Nat.le_refl _) _).alloc (by simp) _
  have b2 : X.heap[w.heap.size + 1]? = some (.cells #[.int .i64 0, .int .i64 0, .int .i64 0, .int .i64 0] 48 (0, 0)) := by
    rw [← hX, show w.heap.size + 1 = (w.alloc (Obj.cells #[.int .i64 x0, .int .i64 y0, .int .i64 x1, .int .i64 y1] 48)).heap.size by simp]; exact World.alloc_heap_new _ _
  rw [hX]
  have hsz : w.heap.size + 1 < X.heap.size := (Array.getElem?_eq_some_iff.1 b2).1
  clear hX
  refine (rover_any x0 y0 x1 y1 dx dy X hdx hdy h0 h1 h2 h3).mono ?_
  rintro e Y ⟨rfl, hY⟩
  have b3 : Y.heap[w.heap.size + 1]? = some (.cells #[.int .i64 0, .int .i64 0, .int .i64 0, .int .i64 0] 48 (0, 0)) := (hY.block _ (by omega)).trans b2
  have hBY := hB.trans (hY.mono hB.size)
  have k0 : Y.cell? ⟨w.heap.size + 1, 0, none⟩ = some (.int .i64 0) := by simp [World.cell?, b3]
  have kf0 : Y.frozen? ⟨w.heap.size + 1, 0, none⟩ = false := by simp [World.frozen?, b3]
  have k1 : Y.cell? ⟨w.heap.size + 1, 1, none⟩ = some (.int .i64 0) := by simp [World.cell?, b3]
  have kf1 : Y.frozen? ⟨w.heap.size + 1, 1, none⟩ = false := by simp [World.frozen?, b3]
  have k2 : Y.cell? ⟨w.heap.size + 1, 2, none⟩ = some (.int .i64 0) := by simp [World.cell?, b3]
  have kf2 : Y.frozen? ⟨w.heap.size + 1, 2, none⟩ = false := by simp [World.frozen?, b3]
  have k3 : Y.cell? ⟨w.heap.size + 1, 3, none⟩ = some (.int .i64 0) := by simp [World.cell?, b3]
  have kf3 : Y.frozen? ⟨w.heap.size + 1, 3, none⟩ = false := by simp [World.frozen?, b3]
  clear b2 b3 hY hB
  go_wp2
  refine bodyPost_ret (v := .agg #[.int .i64 (ceilF x0 dx), .int .i64 (ceilF y0 dy), .int .i64 (ceilF x1 dx), .int .i64 (ceilF y1 dy)]) (by simp [results, Try.results22, go_sem, k0, k1, k2, k3, kf0, kf1, kf2, kf3]) rfl ⟨rfl, ?_⟩
  exact (((hBY.setCell (p := ⟨w.heap.size + 1, 0, none⟩) (by show _ ≤ w.heap.size + 1; omega) _).setCell (p := ⟨w.heap.size + 1, 1, none⟩) (by show _ ≤ w.heap.size + 1; omega) _).setCell (p := ⟨w.heap.size + 1, 2, none⟩) (by show _ ≤ w.heap.size + 1; omega) _).setCell (p := ⟨w.heap.size + 1, 3, none⟩) (by show _ ≤ w.heap.size + 1; omega) _

set_option maxHeartbeats 4000000 in
theorem rwhole_any (x y ox oy : Int) (AC : Option Addr) (n cC : Nat) (w : World) :
    Calls Try.prog 35 #[.agg #[.int .i64 x, .int .i64 y, .int .i64 ox, .int .i64 oy, .slice AC n cC]] w fun e w' => e = .returned (.agg #[.int .i64 ox, .int .i64 oy, .int .i64 x, .int .i64 y]) ∧ Below w.heap.size w w' := by
  go_enter Try.func35, Try.ntmps35
  go_wp2
  obtain ⟨X, hX⟩ : ∃ X, (w.alloc (Obj.cells #[.int .i64 x, .int .i64 y, .int .i64 ox, .int .i64 oy, .slice AC n cC] 24)).alloc (Obj.cells #[.int .i64 ox, .int .i64 oy, .int .i64 x, .int .i64 y] 48) = X := ⟨_, rfl⟩
  have hB : Below w.heap.size w X := by rw [← hX]; exact ((Below.refl _ w).alloc (Nat.le_refl _) _).alloc (by simp) _
  have b2 : X.heap[w.heap.size + 1]? = some (.cells #[.int .i64 ox, .int .i64 oy, .int .i64 x, .int .i64 y] 48 (0, 0)) := by
    rw [← hX, show w.heap.size + 1 = (w.alloc (Obj.cells #[.int .i64 x, .int .i64 y, .int .i64 ox, .int .i64 oy, .slice AC n cC] 24)).heap.size by simp]; exact World.alloc_heap_new _ _
  have k0 : X.cell? ⟨w.heap.size + 1, 0, none⟩ = some (.int .i64 ox) := by simp [World.cell?, b2]
  have kf0 : X.frozen? ⟨w.heap.size + 1, 0, none⟩ = false := by simp [World.frozen?, b2]
  have k1 : X.cell? ⟨w.heap.size + 1, 1, none⟩ = some (.int .i64 oy) := by simp [World.cell?, b2]
  have kf1 : X.frozen? ⟨w.heap.size + 1, 1, none⟩ = false := by simp [World.frozen?, b2]
  have k2 : X.cell? ⟨w.heap.size + 1, 2, none⟩ = some (.int .i64 x) := by simp [World.cell?, b2]
  have kf2 : X.frozen? ⟨w.heap.size + 1, 2, none⟩ = false := by simp [World.frozen?, b2]
  have k3 : X.cell? ⟨w.heap.size + 1, 3, none⟩ = some (.int .i64 y) := by simp [World.cell?, b2]
  have kf3 : X.frozen? ⟨w.heap.size + 1, 3, none⟩ = false := by simp [World.frozen?, b2]
  rw [hX]
  clear hX b2
  exact bodyPost_ret (v := .agg #[.int .i64 ox, .int .i64 oy, .int .i64 x, .int .i64 y]) (by simp [results, Try.results35, go_sem, k0, k1, k2, k3, kf0, kf1, kf2, kf3]) rfl ⟨rfl, hB⟩
set_option maxHeartbeats 2000000 in
theorem rarea_any (x0 y0 x1 y1 : Int) (w : World) (h0 : 0 ≤ x0 ∧ x0 ≤ x1 ∧ x1 ≤ 1000) (h1 : 0 ≤ y0 ∧ y0 ≤ y1 ∧ y1 ≤ 1000) :
    Calls Try.prog 32 #[.agg #[.int .i64 x0, .int .i64 y0, .int .i64 x1, .int .i64 y1]] w fun e w' => e = .returned (.int .i64 ((x1 - x0) * (y1 - y0))) ∧ Below w.heap.size w w' := by
  have p0 : 0 ≤ (x1 - x0) * (y1 - y0) := Int.mul_nonneg (by omega) (by omega)
  have p1 : (x1 - x0) * (y1 - y0) ≤ 1000 * 1000 := Int.mul_le_mul (by omega) (by omega) (by omega) (by omega)
  have m1 : (if x1 - x0 < 0 then (0 : Int) else x1 - x0) = x1 - x0 := if_neg (by omega)
  have m2 : (if y1 - y0 < 0 then (0 : Int) else y1 - y0) = y1 - y0 := if_neg (by omega)
  go_enter Try.func32, Try.ntmps32
  go_wp2
  go_ret
  exact ⟨rfl, (Below.refl _ w).alloc (Nat.le_refl _) _⟩

set_option maxHeartbeats 4000000 in
theorem rbounds_any (d : Nat) (s : Bool) (w : World) (hd : 1 ≤ d ∧ d ≤ 10) : Calls Try.prog 36 #[.int .i64 (d : Int), .bool s] w fun e w' => e = .returned (.tuple #[.int .i64 (leastF d s), .int .i64 (mostF d s)]) ∧ w = w' := by
  obtain rfl | rfl | rfl | rfl | rfl | rfl | rfl | rfl | rfl | rfl : d = 1 ∨ d = 2 ∨ d = 3 ∨ d = 4 ∨ d = 5 ∨ d = 6 ∨ d = 7 ∨ d = 8 ∨ d = 9 ∨ d = 10 := by omega
  all_goals
    cases s
    all_goals
      go_enter Try.func36, Try.ntmps36
      go_wp2
      go_ret2
      exact ⟨rfl, rfl⟩
end Go.Proofs.Ythcpmonahmogaaa
