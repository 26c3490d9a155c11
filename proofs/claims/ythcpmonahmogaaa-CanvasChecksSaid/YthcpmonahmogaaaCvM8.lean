/- canvas: Bands. -/
import Derived.Test.YthcpmonahmogaaaCvM7
set_option linter.unusedVariables false
set_option linter.unusedSimpArgs false
namespace Go.Proofs.Ythcpmonahmogaaa
open Go.RowKit
set_option maxRecDepth 100000
set_option maxHeartbeats 1000000 in
theorem ceil2_any (a b : Int) (w : World) (ha : -1000000 ≤ a ∧ a ≤ 1000000) (hb : 1 ≤ b ∧ b ≤ 1000000) :
    Calls Try.prog 46 #[.int .i64 a, .int .i64 b] w fun e w' => e = .returned (.int .i64 (ceilF a b)) ∧ w' = w := by
  by_cases h : a < 0
  · have hb0 : ¬ b = 0 := by omega
    have h1 : 0 ≤ (-a) / b := Int.ediv_nonneg (by omega) (by omega)
    have h2 : (-a) / b ≤ -a := Int.ediv_le_self _ (by omega)
    have h3 : (-a).tdiv b = (-a) / b := Int.tdiv_eq_ediv_of_nonneg (by omega)
    have h4 : a.tdiv b = -((-a) / b) := by rw [← h3, Int.neg_tdiv]; omega
    have h5 : ¬ 0 < a.tmod b := by
      have e : (-a).tmod b = -(a.tmod b) := Int.neg_tmod a b
      have := Int.tmod_nonneg (a := -a) b (by omega)
      omega
    rw [ceil_neg h hb.1]
    obtain ⟨q, hq⟩ : ∃ q, (-a) / b = q := ⟨_, rfl⟩
    rw [hq] at h1 h2 h3 h4 ⊢
    have s1 : IntKind.i64.wrap (a.tdiv b) = -q := by rw [h4]; exact IntWalk.i64_in _ (by omega)
    have HQ := Lib.hid h4
    have HR : Hid (-1000000 ≤ -q ∧ -q ≤ 1000000) := Lib.hid (by omega)
    clear h3 hq h4
    go_enter Try.func46, Try.ntmps46
    go_wp2
    go_ret
    have e : wrap64 (a.tdiv b) = -q := by rw [HQ.out]; exact w64_in (by have := HR.out; omega)
    exact ⟨by first | rfl | exact congrArg (fun x => Ending.returned (.int .i64 x)) e, rfl⟩
  · exact ceil_any a b w (by omega) hb
theorem even_any (a n : Int) (p : Addr) (w : World) (hc : w.cell? p = some (.int .i64 n)) (ha : 0 ≤ a ∧ a ≤ 1000) (hn : 1 ≤ n ∧ n ≤ 100000) :
    Calls Try.prog 53 #[.int .i64 a, .pointer (some p)] w fun e w' => e = .returned (.int .i64 (ceilF a n)) ∧ w' = w := by
  go_enter Try.func53, Try.ntmps53
  go_wp2_with fail
  refine (ceil_any a n _ (by omega) (by omega)).mono ?_
  rintro e w' ⟨rfl, rfl⟩
  go_wp2
  go_ret
  exact ⟨rfl, rfl⟩
theorem odd_any (a n : Int) (p : Addr) (w : World) (hc : w.cell? p = some (.int .i64 n)) (ha : 0 ≤ a ∧ a ≤ 1000) (hn : 1 ≤ n ∧ n ≤ 100000) :
    Calls Try.prog 54 #[.int .i64 a, .pointer (some p)] w fun e w' => e = .returned (.int .i64 (ceilF (a - n / 2) n)) ∧ w' = w := by
  obtain ⟨nh, hnh⟩ : ∃ nh, n / 2 = nh := ⟨_, rfl⟩
  have hb : 0 ≤ nh ∧ nh ≤ 100000 := by omega
  have s1 : IntKind.i64.wrap (n.tdiv 2) = nh := by rw [Int.tdiv_eq_ediv_of_nonneg (by omega), hnh]; exact IntWalk.i64_in _ (by omega)
  have s2 : IntKind.i64.wrap (a - nh) = a - nh := IntWalk.i64_in _ (by omega)
  have C := Lib.hid (fun u => ceil2_any (a - nh) n u (by omega) (by omega))
  rw [hnh]
  go_enter Try.func54, Try.ntmps54
  go_wp2_with fail
  try rw [hnh]
  refine (C.out _).mono ?_
  rintro e w' ⟨rfl, rfl⟩
  go_wp2
  go_ret
  exact ⟨rfl, rfl⟩
set_option maxHeartbeats 4000000 in
theorem each_oe (x0 y0 x1 y1 n : Int) (px : Addr) (w : World) (hx : w.cell? px = some (.int .i64 n)) (hn : 1 ≤ n ∧ n ≤ 100000)
    (h0 : 0 ≤ x0 ∧ x0 ≤ 1000) (h1 : 0 ≤ y0 ∧ y0 ≤ 1000) (h2 : 0 ≤ x1 ∧ x1 ≤ 1000) (h3 : 0 ≤ y1 ∧ y1 ≤ 1000) :
    Calls Try.prog 48 #[.agg #[.int .i64 x0, .int .i64 y0, .int .i64 x1, .int .i64 y1], .func (.func 54) #[] #[.pointer (some px)], .func (.func 53) #[] #[.pointer (some px)]] w fun e w' =>
      e = .returned (.agg #[.int .i64 (ceilF (x0 - n / 2) n), .int .i64 (ceilF y0 n), .int .i64 (ceilF (x1 - n / 2) n), .int .i64 (ceilF y1 n)]) ∧ Below w.heap.size w w' := by
  go_enter Try.func48, Try.ntmps48
  go_wp2
  obtain ⟨X, hX⟩ : ∃ X, (w.alloc (Obj.cells #[.int .i64 x0, .int .i64 y0, .int .i64 x1, .int .i64 y1] 48)).alloc (Obj.cells #[.int .i64 0, .int .i64 0, .int .i64 0, .int .i64 0] 48) = X := ⟨_, rfl⟩
  have hB : Below w.heap.size w X := by rw [← hX]; exact ((Below.refl _ w).alloc (Nat.le_refl _) _).alloc (by simp) _
  have xB : X.cell? px = some (.int .i64 n) := (hB.cell (World.block_lt_of_cell? w px hx)).trans hx
  have hz : (w.alloc (Obj.cells #[.int .i64 x0, .int .i64 y0, .int .i64 x1, .int .i64 y1] 48)).heap.size = w.heap.size + 1 := by simp
  have b1 : X.heap[w.heap.size]? = some (.cells #[.int .i64 x0, .int .i64 y0, .int .i64 x1, .int .i64 y1] 48 (0, 0)) := by
    rw [← hX, Below.heap_alloc _ _ _ (by simp)]; exact World.alloc_heap_new w _
  have b2 : X.heap[w.heap.size + 1]? = some (.cells #[.int .i64 0, .int .i64 0, .int .i64 0, .int .i64 0] 48 (0, 0)) := by
    rw [← hX, ← hz]; exact World.alloc_heap_new _ _
  have g0 : X.cell? ⟨w.heap.size, 0, none⟩ = some (.int .i64 x0) := by simp [World.cell?, b1]
  have g1 : X.cell? ⟨w.heap.size, 1, none⟩ = some (.int .i64 y0) := by simp [World.cell?, b1]
  have g2 : X.cell? ⟨w.heap.size, 2, none⟩ = some (.int .i64 x1) := by simp [World.cell?, b1]
  have g3 : X.cell? ⟨w.heap.size, 3, none⟩ = some (.int .i64 y1) := by simp [World.cell?, b1]
  have k0 : X.cell? ⟨w.heap.size + 1, 0, none⟩ = some (.int .i64 0) := by simp [World.cell?, b2]
  have k1 : X.cell? ⟨w.heap.size + 1, 1, none⟩ = some (.int .i64 0) := by simp [World.cell?, b2]
  have k2 : X.cell? ⟨w.heap.size + 1, 2, none⟩ = some (.int .i64 0) := by simp [World.cell?, b2]
  have k3 : X.cell? ⟨w.heap.size + 1, 3, none⟩ = some (.int .i64 0) := by simp [World.cell?, b2]
  have kf : X.frozen? ⟨w.heap.size + 1, 0, none⟩ = false := by simp [World.frozen?, b2]
  have kf1 : X.frozen? ⟨w.heap.size + 1, 1, none⟩ = false := by simp [World.frozen?, b2]
  have kf2 : X.frozen? ⟨w.heap.size + 1, 2, none⟩ = false := by simp [World.frozen?, b2]
  have kf3 : X.frozen? ⟨w.heap.size + 1, 3, none⟩ = false := by simp [World.frozen?, b2]
  rw [hX]
  clear hX hz b1 b2 hx
  refine wp_region_still_tail 17 (by kernel_rfl) (by kernel_rfl) ?_
  simp only [List.take_succ_cons, List.take_zero, List.drop_succ_cons, List.drop_zero]
  repeat still_step
  still_call (odd_any x0 n px X.drew xB (by omega) hn)
  repeat still_step
  still_call (even_any y0 n px X.drew xB (by omega) hn)
  repeat still_step
  still_call (odd_any x1 n px X.drew xB (by omega) hn)
  repeat still_step
  still_call (even_any y1 n px X.drew xB (by omega) hn)
  repeat still_step
  refine wpStill_nil ?_
  change wpList _ _ _ _ _ X.drew
  go_wp2
  refine bodyPost_ret (v := .agg #[.int .i64 (ceilF (x0 - n / 2) n), .int .i64 (ceilF y0 n), .int .i64 (ceilF (x1 - n / 2) n), .int .i64 (ceilF y1 n)]) (by simp [results, Try.results48, go_sem, k0, k1, k2, k3, kf, kf1, kf2, kf3]) rfl ⟨rfl, ?_⟩
  exact below_drewN ((((hB.setCell (p := ⟨w.heap.size + 1, 0, none⟩) (by show _ ≤ w.heap.size + 1; omega) _).setCell (p := ⟨w.heap.size + 1, 1, none⟩) (by show _ ≤ w.heap.size + 1; omega) _).setCell (p := ⟨w.heap.size + 1, 2, none⟩) (by show _ ≤ w.heap.size + 1; omega) _).setCell (p := ⟨w.heap.size + 1, 3, none⟩) (by show _ ≤ w.heap.size + 1; omega) _) 1
set_option maxHeartbeats 4000000 in
theorem each_eo (x0 y0 x1 y1 n : Int) (px : Addr) (w : World) (hx : w.cell? px = some (.int .i64 n)) (hn : 1 ≤ n ∧ n ≤ 100000)
    (h0 : 0 ≤ x0 ∧ x0 ≤ 1000) (h1 : 0 ≤ y0 ∧ y0 ≤ 1000) (h2 : 0 ≤ x1 ∧ x1 ≤ 1000) (h3 : 0 ≤ y1 ∧ y1 ≤ 1000) :
    Calls Try.prog 48 #[.agg #[.int .i64 x0, .int .i64 y0, .int .i64 x1, .int .i64 y1], .func (.func 53) #[] #[.pointer (some px)], .func (.func 54) #[] #[.pointer (some px)]] w fun e w' =>
      e = .returned (.agg #[.int .i64 (ceilF x0 n), .int .i64 (ceilF (y0 - n / 2) n), .int .i64 (ceilF x1 n), .int .i64 (ceilF (y1 - n / 2) n)]) ∧ Below w.heap.size w w' := by
  go_enter Try.func48, Try.ntmps48
  go_wp2
  obtain ⟨X, hX⟩ : ∃ X, (w.alloc (Obj.cells #[.int .i64 x0, .int .i64 y0, .int .i64 x1, .int .i64 y1] 48)).alloc (Obj.cells #[.int .i64 0, .int .i64 0, .int .i64 0, .int .i64 0] 48) = X := ⟨_, rfl⟩
  have hB : Below w.heap.size w X := by rw [← hX]; exact ((Below.refl _ w).alloc (Nat.le_refl _) _).alloc (by simp) _
  have xB : X.cell? px = some (.int .i64 n) := (hB.cell (World.block_lt_of_cell? w px hx)).trans hx
  have hz : (w.alloc (Obj.cells #[.int .i64 x0, .int .i64 y0, .int .i64 x1, .int .i64 y1] 48)).heap.size = w.heap.size + 1 := by simp
  have b1 : X.heap[w.heap.size]? = some (.cells #[.int .i64 x0, .int .i64 y0, .int .i64 x1, .int .i64 y1] 48 (0, 0)) := by
    rw [← hX, Below.heap_alloc _ _ _ (by simp)]; exact World.alloc_heap_new w _
  have b2 : X.heap[w.heap.size + 1]? = some (.cells #[.int .i64 0, .int .i64 0, .int .i64 0, .int .i64 0] 48 (0, 0)) := by
    rw [← hX, ← hz]; exact World.alloc_heap_new _ _
  have g0 : X.cell? ⟨w.heap.size, 0, none⟩ = some (.int .i64 x0) := by simp [World.cell?, b1]
  have g1 : X.cell? ⟨w.heap.size, 1, none⟩ = some (.int .i64 y0) := by simp [World.cell?, b1]
  have g2 : X.cell? ⟨w.heap.size, 2, none⟩ = some (.int .i64 x1) := by simp [World.cell?, b1]
  have g3 : X.cell? ⟨w.heap.size, 3, none⟩ = some (.int .i64 y1) := by simp [World.cell?, b1]
  have k0 : X.cell? ⟨w.heap.size + 1, 0, none⟩ = some (.int .i64 0) := by simp [World.cell?, b2]
  have k1 : X.cell? ⟨w.heap.size + 1, 1, none⟩ = some (.int .i64 0) := by simp [World.cell?, b2]
  have k2 : X.cell? ⟨w.heap.size + 1, 2, none⟩ = some (.int .i64 0) := by simp [World.cell?, b2]
  have k3 : X.cell? ⟨w.heap.size + 1, 3, none⟩ = some (.int .i64 0) := by simp [World.cell?, b2]
  have kf : X.frozen? ⟨w.heap.size + 1, 0, none⟩ = false := by simp [World.frozen?, b2]
  have kf1 : X.frozen? ⟨w.heap.size + 1, 1, none⟩ = false := by simp [World.frozen?, b2]
  have kf2 : X.frozen? ⟨w.heap.size + 1, 2, none⟩ = false := by simp [World.frozen?, b2]
  have kf3 : X.frozen? ⟨w.heap.size + 1, 3, none⟩ = false := by simp [World.frozen?, b2]
  rw [hX]
  clear hX hz b1 b2 hx
  refine wp_region_still_tail 17 (by kernel_rfl) (by kernel_rfl) ?_
  simp only [List.take_succ_cons, List.take_zero, List.drop_succ_cons, List.drop_zero]
  repeat still_step
  still_call (even_any x0 n px X.drew xB (by omega) hn)
  repeat still_step
  still_call (odd_any y0 n px X.drew xB (by omega) hn)
  repeat still_step
  still_call (even_any x1 n px X.drew xB (by omega) hn)
  repeat still_step
  still_call (odd_any y1 n px X.drew xB (by omega) hn)
  repeat still_step
  refine wpStill_nil ?_
  change wpList _ _ _ _ _ X.drew
  go_wp2
  refine bodyPost_ret (v := .agg #[.int .i64 (ceilF x0 n), .int .i64 (ceilF (y0 - n / 2) n), .int .i64 (ceilF x1 n), .int .i64 (ceilF (y1 - n / 2) n)]) (by simp [results, Try.results48, go_sem, k0, k1, k2, k3, kf, kf1, kf2, kf3]) rfl ⟨rfl, ?_⟩
  exact below_drewN ((((hB.setCell (p := ⟨w.heap.size + 1, 0, none⟩) (by show _ ≤ w.heap.size + 1; omega) _).setCell (p := ⟨w.heap.size + 1, 1, none⟩) (by show _ ≤ w.heap.size + 1; omega) _).setCell (p := ⟨w.heap.size + 1, 2, none⟩) (by show _ ≤ w.heap.size + 1; omega) _).setCell (p := ⟨w.heap.size + 1, 3, none⟩) (by show _ ≤ w.heap.size + 1; omega) _) 1
set_option maxHeartbeats 4000000 in
theorem each_oo (x0 y0 x1 y1 n : Int) (px : Addr) (w : World) (hx : w.cell? px = some (.int .i64 n)) (hn : 1 ≤ n ∧ n ≤ 100000)
    (h0 : 0 ≤ x0 ∧ x0 ≤ 1000) (h1 : 0 ≤ y0 ∧ y0 ≤ 1000) (h2 : 0 ≤ x1 ∧ x1 ≤ 1000) (h3 : 0 ≤ y1 ∧ y1 ≤ 1000) :
    Calls Try.prog 48 #[.agg #[.int .i64 x0, .int .i64 y0, .int .i64 x1, .int .i64 y1], .func (.func 54) #[] #[.pointer (some px)], .func (.func 54) #[] #[.pointer (some px)]] w fun e w' =>
      e = .returned (.agg #[.int .i64 (ceilF (x0 - n / 2) n), .int .i64 (ceilF (y0 - n / 2) n), .int .i64 (ceilF (x1 - n / 2) n), .int .i64 (ceilF (y1 - n / 2) n)]) ∧ Below w.heap.size w w' := by
  go_enter Try.func48, Try.ntmps48
  go_wp2
  obtain ⟨X, hX⟩ : ∃ X, (w.alloc (Obj.cells #[.int .i64 x0, .int .i64 y0, .int .i64 x1, .int .i64 y1] 48)).alloc (Obj.cells #[.int .i64 0, .int .i64 0, .int .i64 0, .int .i64 0] 48) = X := ⟨_, rfl⟩
  have hB : Below w.heap.size w X := by rw [← hX]; exact ((Below.refl _ w).alloc (Nat.le_refl _) _).alloc (by simp) _
  have xB : X.cell? px = some (.int .i64 n) := (hB.cell (World.block_lt_of_cell? w px hx)).trans hx
  have hz : (w.alloc (Obj.cells #[.int .i64 x0, .int .i64 y0, .int .i64 x1, .int .i64 y1] 48)).heap.size = w.heap.size + 1 := by simp
  have b1 : X.heap[w.heap.size]? = some (.cells #[.int .i64 x0, .int .i64 y0, .int .i64 x1, .int .i64 y1] 48 (0, 0)) := by
    rw [← hX, Below.heap_alloc _ _ _ (by simp)]; exact World.alloc_heap_new w _
  have b2 : X.heap[w.heap.size + 1]? = some (.cells #[.int .i64 0, .int .i64 0, .int .i64 0, .int .i64 0] 48 (0, 0)) := by
    rw [← hX, ← hz]; exact World.alloc_heap_new _ _
  have g0 : X.cell? ⟨w.heap.size, 0, none⟩ = some (.int .i64 x0) := by simp [World.cell?, b1]
  have g1 : X.cell? ⟨w.heap.size, 1, none⟩ = some (.int .i64 y0) := by simp [World.cell?, b1]
  have g2 : X.cell? ⟨w.heap.size, 2, none⟩ = some (.int .i64 x1) := by simp [World.cell?, b1]
  have g3 : X.cell? ⟨w.heap.size, 3, none⟩ = some (.int .i64 y1) := by simp [World.cell?, b1]
  have k0 : X.cell? ⟨w.heap.size + 1, 0, none⟩ = some (.int .i64 0) := by simp [World.cell?, b2]
  have k1 : X.cell? ⟨w.heap.size + 1, 1, none⟩ = some (.int .i64 0) := by simp [World.cell?, b2]
  have k2 : X.cell? ⟨w.heap.size + 1, 2, none⟩ = some (.int .i64 0) := by simp [World.cell?, b2]
  have k3 : X.cell? ⟨w.heap.size + 1, 3, none⟩ = some (.int .i64 0) := by simp [World.cell?, b2]
  have kf : X.frozen? ⟨w.heap.size + 1, 0, none⟩ = false := by simp [World.frozen?, b2]
  have kf1 : X.frozen? ⟨w.heap.size + 1, 1, none⟩ = false := by simp [World.frozen?, b2]
  have kf2 : X.frozen? ⟨w.heap.size + 1, 2, none⟩ = false := by simp [World.frozen?, b2]
  have kf3 : X.frozen? ⟨w.heap.size + 1, 3, none⟩ = false := by simp [World.frozen?, b2]
  rw [hX]
  clear hX hz b1 b2 hx
  refine wp_region_still_tail 17 (by kernel_rfl) (by kernel_rfl) ?_
  simp only [List.take_succ_cons, List.take_zero, List.drop_succ_cons, List.drop_zero]
  repeat still_step
  still_call (odd_any x0 n px X.drew xB (by omega) hn)
  repeat still_step
  still_call (odd_any y0 n px X.drew xB (by omega) hn)
  repeat still_step
  still_call (odd_any x1 n px X.drew xB (by omega) hn)
  repeat still_step
  still_call (odd_any y1 n px X.drew xB (by omega) hn)
  repeat still_step
  refine wpStill_nil ?_
  change wpList _ _ _ _ _ X.drew
  go_wp2
  refine bodyPost_ret (v := .agg #[.int .i64 (ceilF (x0 - n / 2) n), .int .i64 (ceilF (y0 - n / 2) n), .int .i64 (ceilF (x1 - n / 2) n), .int .i64 (ceilF (y1 - n / 2) n)]) (by simp [results, Try.results48, go_sem, k0, k1, k2, k3, kf, kf1, kf2, kf3]) rfl ⟨rfl, ?_⟩
  exact below_drewN ((((hB.setCell (p := ⟨w.heap.size + 1, 0, none⟩) (by show _ ≤ w.heap.size + 1; omega) _).setCell (p := ⟨w.heap.size + 1, 1, none⟩) (by show _ ≤ w.heap.size + 1; omega) _).setCell (p := ⟨w.heap.size + 1, 2, none⟩) (by show _ ≤ w.heap.size + 1; omega) _).setCell (p := ⟨w.heap.size + 1, 3, none⟩) (by show _ ≤ w.heap.size + 1; omega) _) 1
end Go.Proofs.Ythcpmonahmogaaa
