/- canvas: ceil of numbers below 0, both ways; the reference's over, and its Bands. -/
import Derived.Test.YthcpmonahmogaaaCvM5
set_option linter.unusedVariables false
set_option linter.unusedSimpArgs false
namespace Go.Proofs.Ythcpmonahmogaaa
open Go.RowKit
set_option maxRecDepth 100000
theorem ceil_neg {a b : Int} (ha : a < 0) (hb : 1 ≤ b) : ceilF a b = -((-a) / b) := by
  obtain ⟨e, he⟩ : ∃ e, (-a) / b = e := ⟨_, rfl⟩
  obtain ⟨f, hf⟩ : ∃ f, (-a) % b = f := ⟨_, rfl⟩
  have e1 := Int.mul_ediv_add_emod (-a) b
  have f0 := Int.emod_nonneg (-a) (show b ≠ 0 by omega)
  have f1 := Int.emod_lt_of_pos (-a) (show 0 < b by omega)
  rw [he, hf] at e1
  rw [hf] at f0 f1
  rw [he]
  unfold ceilF
  by_cases h0 : f = 0
  · have h := (Int.ediv_emod_unique (a := a) (b := b) (r := 0) (q := -e) (by omega)).2 ⟨by rw [Int.mul_neg]; omega, by omega, by omega⟩
    rw [h.1, h.2, if_neg (by omega)]
  · have h := (Int.ediv_emod_unique (a := a) (b := b) (r := b - f) (q := -e - 1) (by omega)).2 ⟨by rw [Int.mul_sub, Int.mul_neg, Int.mul_one]; omega, by omega, by omega⟩
    rw [h.1, h.2, if_pos (by omega)]
    omega
theorem ceil_rng (a b : Int) (ha : -1000000 ≤ a ∧ a ≤ 1000000) (hb : 1 ≤ b) : -1000000 ≤ ceilF a b ∧ ceilF a b ≤ 1000000 := by
  by_cases h : a < 0
  · rw [ceil_neg h hb]
    have h1 : 0 ≤ (-a) / b := Int.ediv_nonneg (by omega) (by omega)
    have h2 : (-a) / b ≤ -a := Int.ediv_le_self _ (by omega)
    omega
  · have := ceil_bd a b (by omega) hb
    omega
set_option maxHeartbeats 1000000 in
theorem rceil2_any (a b : Int) (w : World) (ha : -1000000 ≤ a ∧ a ≤ 1000000) (hb : 1 ≤ b ∧ b ≤ 1000000) :
    Calls Try.prog 47 #[.int .i64 a, .int .i64 b] w fun e w' => e = .returned (.int .i64 (ceilF a b)) ∧ w' = w := by
  by_cases h : a < 0
  · have hb0 : ¬ b = 0 := by omega
    have h1 : 0 ≤ (-a) / b := Int.ediv_nonneg (by omega) (by omega)
    have h2 : (-a) / b ≤ -a := Int.ediv_le_self _ (by omega)
    have h3 : (-a).tdiv b = (-a) / b := Int.tdiv_eq_ediv_of_nonneg (by omega)
    rw [ceil_neg h hb.1]
    obtain ⟨q, hq⟩ : ∃ q, (-a) / b = q := ⟨_, rfl⟩
    rw [hq] at h1 h2 h3 ⊢
    have HQ := Lib.hid (And.intro h3 (And.intro h1 h2))
    clear h3 hq
    go_enter Try.func47, Try.ntmps47
    go_wp2
    go_ret
    have e : wrap64 (-wrap64 (-(a.tdiv b))) = -q := by
      rw [← Int.neg_tdiv, HQ.out.1, w64_in (x := q) (by omega), w64_in (by omega)]
    exact ⟨by first | rfl | exact congrArg (fun x => Ending.returned (.int .i64 x)) e, rfl⟩
  · exact rceil_any a b w (by omega) hb
set_option maxHeartbeats 4000000 in
theorem rover2_any (x0 y0 x1 y1 dx dy ax ay : Int) (w : World) (hdx : 1 ≤ dx ∧ dx ≤ 1000000) (hdy : 1 ≤ dy ∧ dy ≤ 1000000) (hax : 0 ≤ ax ∧ ax ≤ 100000) (hay : 0 ≤ ay ∧ ay ≤ 100000)
    (h0 : 0 ≤ x0 ∧ x0 ≤ 1000) (h1 : 0 ≤ y0 ∧ y0 ≤ 1000) (h2 : 0 ≤ x1 ∧ x1 ≤ 1000) (h3 : 0 ≤ y1 ∧ y1 ≤ 1000) :
    Calls Try.prog 51 #[.agg #[.int .i64 x0, .int .i64 y0, .int .i64 x1, .int .i64 y1], .int .i64 dx, .int .i64 dy, .int .i64 ax, .int .i64 ay] w fun e w' =>
      e = .returned (.agg #[.int .i64 (ceilF (x0 - ax) dx), .int .i64 (ceilF (y0 - ay) dy), .int .i64 (ceilF (x1 - ax) dx), .int .i64 (ceilF (y1 - ay) dy)]) ∧ Below w.heap.size w w' := by
  go_enter Try.func51, Try.ntmps51
  go_wp2
  obtain ⟨X, hX⟩ : ∃ X, (w.alloc (Obj.cells #[.int .i64 x0, .int .i64 y0, .int .i64 x1, .int .i64 y1] 48)).alloc (Obj.cells #[.int .i64 0, .int .i64 0, .int .i64 0, .int .i64 0] 48) = X := ⟨_, rfl⟩
  have hB : Below w.heap.size w X := by rw [← hX]; exact ((Below.refl _ w).alloc (Nat.le_refl _) _).alloc (by simp) _
  have hz : (w.alloc (Obj.cells #[.int .i64 x0, .int .i64 y0, .int .i64 x1, .int .i64 y1] 48)).heap.size = w.heap.size + 1 := by simp
  have b1 : X.heap[w.heap.size]? = some (.cells #[.int .i64 x0, .int .i64 y0, .int .i64 x1, .int .i64 y1] 48 (0, 0)) := by
    rw [← hX, Below.heap_alloc _ _ _ (by simp)]; exact World.alloc_heap_new w _
  have b2 : X.heap[w.heap.size + 1]? = some (.cells #[.int .i64 0, .int .i64 0, .int .i64 0, .int .i64 0] 48 (0, 0)) := by
    rw [← hX, ← hz]; exact World.alloc_heap_new _ _
  have g0 : X.cell? ⟨w.heap.size, 0, none⟩ = some (.int .i64 x0) := by simp [World.cell?, b1]
  have g1 : X.cell? ⟨w.heap.size, 1, none⟩ = some (.int .i64 y0) := by simp [World.cell?, b1]
  have g2 : X.cell? ⟨w.heap.size, 2, none⟩ = some (.int .i64 x1) := by simp [World.cell?, b1]
  have g3 : X.cell? ⟨w.heap.size, 3, none⟩ = some (.int .i64 y1) := by simp [World.cell?, b1]
  have k0 : X.cell? ⟨w.heap.size + 1, 0, none⟩ = some (.int .i64 0) := by simp [World.cell?, b2]
  have k1 : X.cell? ⟨w.heap.size + 1, 1, none⟩ = some (.int .i64 0) := by simp [World.cell?, b2]
  have k2 : X.cell? ⟨w.heap.size + 1, 2, none⟩ = some (.int .i64 0) := by simp [World.cell?, b2]
  have k3 : X.cell? ⟨w.heap.size + 1, 3, none⟩ = some (.int .i64 0) := by simp [World.cell?, b2]
  have kf : X.frozen? ⟨w.heap.size + 1, 0, none⟩ = false := by simp [World.frozen?, b2]
  have kf1 : X.frozen? ⟨w.heap.size + 1, 1, none⟩ = false := by simp [World.frozen?, b2]
  have kf2 : X.frozen? ⟨w.heap.size + 1, 2, none⟩ = false := by simp [World.frozen?, b2]
  have kf3 : X.frozen? ⟨w.heap.size + 1, 3, none⟩ = false := by simp [World.frozen?, b2]
  rw [hX]
  clear hX hz b1 b2
  have s0 : IntKind.i64.wrap (x0 - ax) = x0 - ax := IntWalk.i64_in _ (by omega)
  have s1 : IntKind.i64.wrap (y0 - ay) = y0 - ay := IntWalk.i64_in _ (by omega)
  have s2 : IntKind.i64.wrap (x1 - ax) = x1 - ax := IntWalk.i64_in _ (by omega)
  have s3 : IntKind.i64.wrap (y1 - ay) = y1 - ay := IntWalk.i64_in _ (by omega)
  refine wp_region_still_tail 25 (by kernel_rfl) (by kernel_rfl) ?_
  simp only [List.take_succ_cons, List.take_zero, List.drop_succ_cons, List.drop_zero]
  repeat still_step
  still_call (rceil2_any (x0 - ax) dx X.drew (by omega) hdx)
  repeat still_step
  still_call (rceil2_any (y0 - ay) dy X.drew (by omega) hdy)
  repeat still_step
  still_call (rceil2_any (x1 - ax) dx X.drew (by omega) hdx)
  repeat still_step
  still_call (rceil2_any (y1 - ay) dy X.drew (by omega) hdy)
  repeat still_step
  refine wpStill_nil ?_
  change wpList _ _ _ _ _ X.drew
  go_wp2
  refine bodyPost_ret (v := .agg #[.int .i64 (ceilF (x0 - ax) dx), .int .i64 (ceilF (y0 - ay) dy), .int .i64 (ceilF (x1 - ax) dx), .int .i64 (ceilF (y1 - ay) dy)]) (by simp [results, Try.results51, go_sem, k0, k1, k2, k3, kf, kf1, kf2, kf3]) rfl ⟨rfl, ?_⟩
  exact below_drewN ((((hB.setCell (p := ⟨w.heap.size + 1, 0, none⟩) (by show _ ≤ w.heap.size + 1; omega) _).setCell (p := ⟨w.heap.size + 1, 1, none⟩) (by show _ ≤ w.heap.size + 1; omega) _).setCell (p := ⟨w.heap.size + 1, 2, none⟩) (by show _ ≤ w.heap.size + 1; omega) _).setCell (p := ⟨w.heap.size + 1, 3, none⟩) (by show _ ≤ w.heap.size + 1; omega) _) 1
end Go.Proofs.Ythcpmonahmogaaa
