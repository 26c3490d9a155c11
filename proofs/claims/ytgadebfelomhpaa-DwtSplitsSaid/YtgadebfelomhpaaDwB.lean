/- up, sides, half, area, allowed, quarter of package dwt, by their contracts. -/
import Derived.Test.YtgadebfelomhpaaDwM
import Derived.StillTailTactics
import Derived.RangeFuncBox
import Derived.RegionTactic
import Derived.ChangeAlike
set_option linter.unusedVariables false
set_option linter.unusedSimpArgs false
namespace Go.Proofs.Ytgadebfelomhpaa
open Go.RowKit

/-- A rectangle as a value. -/
def rectV (g : Geo) : Value := .agg #[.int .i64 (g.x : Int), .int .i64 (g.y : Int), .int .i64 ((g.x + g.w : Nat) : Int), .int .i64 ((g.y + g.h : Nat) : Int)]

theorem wr_two (a b : Nat) (h : a ≤ 1000000) (h' : b ≤ 1000000) : wrap64 ((a : Int) + (b : Int)) = (a : Int) + (b : Int) := IntWalk.wrap64_in _ (by omega)
theorem wr_mul (a b : Nat) (h : a ≤ 4096) (h' : b ≤ 4096) : wrap64 ((a : Int) * (b : Int)) = ((a * b : Nat) : Int) := by
  have := Nat.mul_le_mul h h'
  rw [show (a : Int) * (b : Int) = ((a * b : Nat) : Int) by simp]
  exact IntWalk.wrap64_in _ (by omega)
theorem ret3_i64 {a b c a' b' c' : Int} (h1 : a = a') (h2 : b = b') (h3 : c = c') : Ending.returned (.tuple #[.int .i64 a, .int .i64 b, .int .i64 c]) = .returned (.tuple #[.int .i64 a', .int .i64 b', .int .i64 c']) := by rw [h1, h2, h3]
/-- A rectangle in memory. -/
def RC (w : World) (b : Nat) (g : Geo) : Prop :=
  w.cell? ⟨b, 0, none⟩ = some (.int .i64 (g.x : Int)) ∧ w.cell? ⟨b, 1, none⟩ = some (.int .i64 (g.y : Int)) ∧ w.cell? ⟨b, 2, none⟩ = some (.int .i64 ((g.x + g.w : Nat) : Int)) ∧ w.cell? ⟨b, 3, none⟩ = some (.int .i64 ((g.y + g.h : Nat) : Int))
theorem RC.new (w : World) (g : Geo) : RC (w.alloc (Obj.cells #[.int .i64 (g.x : Int), .int .i64 (g.y : Int), .int .i64 ((g.x + g.w : Nat) : Int), .int .i64 ((g.y + g.h : Nat) : Int)] 23)) w.heap.size g := by
  refine ⟨?_, ?_, ?_, ?_⟩ <;> (rw [World.cell?_alloc_new]; rfl)
theorem RC.block {w : World} {b : Nat} {g : Geo} (h : RC w b g) : b < w.heap.size := World.block_lt_of_cell? w _ h.1
theorem RC.keep {w w' : World} {b B : Nat} {g : Geo} (h : RC w b g) (hb : Below B w w') (hB : b < B) : RC w' b g :=
  ⟨(hb.cell (p := ⟨b, 0, none⟩) hB).trans h.1, (hb.cell (p := ⟨b, 1, none⟩) hB).trans h.2.1, (hb.cell (p := ⟨b, 2, none⟩) hB).trans h.2.2.1, (hb.cell (p := ⟨b, 3, none⟩) hB).trans h.2.2.2⟩

set_option maxHeartbeats 1000000 in
theorem up_any (n : Nat) (w : World) (h : n ≤ 1000000) :
    Calls Try.prog 40 #[.int .i64 (n : Int)] w fun e w' => e = .returned (.int .i64 (((n + 1) / 2 : Nat) : Int)) ∧ w' = w := by
  have h1 : bits .and .i64 (n : Int) 1 = (n : Int) % 2 := and_one _ (by omega)
  go_enter Try.func40, Try.ntmps40
  go_wp2
  go_ret
  exact ⟨ret_i64 (by omega), rfl⟩

set_option maxHeartbeats 1000000 in
theorem sides_any (g : Geo) (w : World) (h : g.w ≤ 100000 ∧ g.h ≤ 100000) (hx : g.x ≤ 100000 ∧ g.y ≤ 100000) :
    Calls Try.prog 34 #[rectV g] w fun e w' => e = .returned (.tuple #[.int .i64 (g.w : Int), .int .i64 (g.h : Int)]) ∧ Below w.heap.size w w' := by
  obtain ⟨x, y, gw, gh⟩ := g
  simp only at h hx
  unfold rectV
  simp only
  have s1 : IntKind.i64.wrap (((x + gw : Nat) : Int) - (x : Int)) = (gw : Int) := by rw [show ((x + gw : Nat) : Int) - (x : Int) = (gw : Int) from by omega]; exact IntWalk.i64_in _ (by omega)
  have s2 : IntKind.i64.wrap (((y + gh : Nat) : Int) - (y : Int)) = (gh : Int) := by rw [show ((y + gh : Nat) : Int) - (y : Int) = (gh : Int) from by omega]; exact IntWalk.i64_in _ (by omega)
  obtain ⟨X1, e1⟩ : ∃ X1, ((x + gw : Nat) : Int) = X1 := ⟨_, rfl⟩
  obtain ⟨Y1, e2⟩ : ∃ Y1, ((y + gh : Nat) : Int) = Y1 := ⟨_, rfl⟩
  rw [e1] at s1 ⊢
  rw [e2] at s2 ⊢
  clear e1 e2
  go_enter Try.func34, Try.ntmps34
  go_wp2
  have hB : Below w.heap.size w (w.alloc (Obj.cells #[.int .i64 (x : Int), .int .i64 (y : Int), .int .i64 X1, .int .i64 Y1] 23)) := (Below.refl _ w).alloc (Nat.le_refl _) _
  go_quiet (fail)
  go_wp2
  go_ret2
  exact ⟨rfl, below_drewN hB _⟩

set_option maxHeartbeats 4000000 in
theorem half_any (g : Geo) (w : World) (h : g.w ≤ 100000 ∧ g.h ≤ 100000) (hx : g.x ≤ 100000 ∧ g.y ≤ 100000) :
    Calls Try.prog 25 #[rectV g] w fun e w' => e = .returned (rectV g.half) ∧ Below w.heap.size w w' := by
  obtain ⟨x, y, gw, gh⟩ := g
  simp only at h hx
  have r1 : (x + gw + 1) / 2 = (x + 1) / 2 + lowN (x % 2) gw := by unfold lowN; omega
  have r2 : (y + gh + 1) / 2 = (y + 1) / 2 + lowN (y % 2) gh := by unfold lowN; omega
  have eV : rectV (Geo.half ⟨x, y, gw, gh⟩) = .agg #[.int .i64 (((x + 1) / 2 : Nat) : Int), .int .i64 (((y + 1) / 2 : Nat) : Int), .int .i64 (((x + gw + 1) / 2 : Nat) : Int), .int .i64 (((y + gh + 1) / 2 : Nat) : Int)] := by
    rw [r1, r2]; rfl
  rw [eV]
  clear r1 r2 eV
  unfold rectV
  simp only
  have u0 := fun W => up_any x W (by omega)
  have u1 := fun W => up_any y W (by omega)
  have u2 := fun W => up_any (x + gw) W (by omega)
  have u3 := fun W => up_any (y + gh) W (by omega)
  obtain ⟨a0, q0⟩ : ∃ a : Int, (x : Int) = a := ⟨_, rfl⟩
  obtain ⟨a1, q1⟩ : ∃ a : Int, (y : Int) = a := ⟨_, rfl⟩
  obtain ⟨a2, q2⟩ : ∃ a : Int, ((x + gw : Nat) : Int) = a := ⟨_, rfl⟩
  obtain ⟨a3, q3⟩ : ∃ a : Int, ((y + gh : Nat) : Int) = a := ⟨_, rfl⟩
  obtain ⟨b0, z0⟩ : ∃ a : Int, (((x + 1) / 2 : Nat) : Int) = a := ⟨_, rfl⟩
  obtain ⟨b1, z1⟩ : ∃ a : Int, (((y + 1) / 2 : Nat) : Int) = a := ⟨_, rfl⟩
  obtain ⟨b2, z2⟩ : ∃ a : Int, (((x + gw + 1) / 2 : Nat) : Int) = a := ⟨_, rfl⟩
  obtain ⟨b3, z3⟩ : ∃ a : Int, (((y + gh + 1) / 2 : Nat) : Int) = a := ⟨_, rfl⟩
  rw [q0, z0] at u0
  rw [q1, z1] at u1
  rw [q2, z2] at u2
  rw [q3, z3] at u3
  rw [q0, q1, q2, q3, z0, z1, z2, z3]
  clear q0 q1 q2 q3 z0 z1 z2 z3
  go_enter Try.func25, Try.ntmps25
  go_wp2
  obtain ⟨X, hX⟩ : ∃ X, (w.alloc (Obj.cells #[.int .i64 a0, .int .i64 a1, .int .i64 a2, .int .i64 a3] 23)).alloc (Obj.cells #[.int .i64 0, .int .i64 0, .int .i64 0, .int .i64 0] 23) = X := ⟨_, rfl⟩
  have hB : Below w.heap.size w X := by rw [← hX]; exact ((Below.refl _ w).alloc (Nat.le_refl _) _).alloc (by simp) _
  have hz : (w.alloc (Obj.cells #[.int .i64 a0, .int .i64 a1, .int .i64 a2, .int .i64 a3] 23)).heap.size = w.heap.size + 1 := by simp
  have b1' : X.heap[w.heap.size]? = some (.cells #[.int .i64 a0, .int .i64 a1, .int .i64 a2, .int .i64 a3] 23 (0, 0)) := by
    rw [← hX, Below.heap_alloc _ _ _ (by simp)]; exact World.alloc_heap_new w _
  have b2' : X.heap[w.heap.size + 1]? = some (.cells #[.int .i64 0, .int .i64 0, .int .i64 0, .int .i64 0] 23 (0, 0)) := by
    rw [← hX, ← hz]; exact World.alloc_heap_new _ _
  have g0 : X.cell? ⟨w.heap.size, 0, none⟩ = some (.int .i64 a0) := by simp [World.cell?, b1']
  have g1 : X.cell? ⟨w.heap.size, 1, none⟩ = some (.int .i64 a1) := by simp [World.cell?, b1']
  have g2 : X.cell? ⟨w.heap.size, 2, none⟩ = some (.int .i64 a2) := by simp [World.cell?, b1']
  have g3 : X.cell? ⟨w.heap.size, 3, none⟩ = some (.int .i64 a3) := by simp [World.cell?, b1']
  have k0 : X.cell? ⟨w.heap.size + 1, 0, none⟩ = some (.int .i64 0) := by simp [World.cell?, b2']
  have k1 : X.cell? ⟨w.heap.size + 1, 1, none⟩ = some (.int .i64 0) := by simp [World.cell?, b2']
  have k2 : X.cell? ⟨w.heap.size + 1, 2, none⟩ = some (.int .i64 0) := by simp [World.cell?, b2']
  have k3 : X.cell? ⟨w.heap.size + 1, 3, none⟩ = some (.int .i64 0) := by simp [World.cell?, b2']
  have kf : X.frozen? ⟨w.heap.size + 1, 0, none⟩ = false := by simp [World.frozen?, b2']
  have kf1 : X.frozen? ⟨w.heap.size + 1, 1, none⟩ = false := by simp [World.frozen?, b2']
  have kf2 : X.frozen? ⟨w.heap.size + 1, 2, none⟩ = false := by simp [World.frozen?, b2']
  have kf3 : X.frozen? ⟨w.heap.size + 1, 3, none⟩ = false := by simp [World.frozen?, b2']
  rw [hX]
  clear hX hz b1' b2'
  refine wp_region_still_tail 13 (by kernel_rfl) (by kernel_rfl) ?_
  simp only [List.take_succ_cons, List.take_zero, List.drop_succ_cons, List.drop_zero]
  repeat still_step
  still_call (u0 X.drew)
  repeat still_step
  still_call (u1 X.drew)
  repeat still_step
  still_call (u2 X.drew)
  repeat still_step
  still_call (u3 X.drew)
  repeat still_step
  refine wpStill_nil ?_
  change wpList _ _ _ _ _ X.drew
  clear u0 u1 u2 u3
  go_wp2
  refine bodyPost_ret (v := .agg #[.int .i64 b0, .int .i64 b1, .int .i64 b2, .int .i64 b3]) (by simp [results, Try.results25, go_sem, k0, k1, k2, k3, kf, kf1, kf2, kf3]) rfl ⟨rfl, ?_⟩
  exact below_drewN ((((hB.setCell (p := ⟨w.heap.size + 1, 0, none⟩) (by show _ ≤ w.heap.size + 1; omega) _).setCell (p := ⟨w.heap.size + 1, 1, none⟩) (by show _ ≤ w.heap.size + 1; omega) _).setCell (p := ⟨w.heap.size + 1, 2, none⟩) (by show _ ≤ w.heap.size + 1; omega) _).setCell (p := ⟨w.heap.size + 1, 3, none⟩) (by show _ ≤ w.heap.size + 1; omega) _) 1

set_option maxHeartbeats 2000000 in
theorem area_any (g : Geo) (w : World) (h : g.w ≤ 4096 ∧ g.h ≤ 4096) (hx : g.x ≤ 100000 ∧ g.y ≤ 100000) :
    Calls Try.prog 22 #[rectV g] w fun e w' => e = .returned (.int .i64 ((g.w * g.h : Nat) : Int)) ∧ Below w.heap.size w w' := by
  have hS := fun W => sides_any g W (by omega) hx
  have hmul : ((g.w * g.h : Nat) : Int) = (g.w : Int) * (g.h : Int) := by simp
  have hbd : g.w * g.h ≤ 16777216 := by have := Nat.mul_le_mul h.1 h.2; omega
  have hwr : IntKind.i64.wrap ((g.w : Int) * (g.h : Int)) = (g.w : Int) * (g.h : Int) := by rw [← hmul]; exact IntWalk.i64_in _ (by omega)
  rw [hmul]
  unfold rectV at hS ⊢
  have HW : Hid (wrap64 ((g.w : Int) * (g.h : Int)) = (g.w : Int) * (g.h : Int)) := Lib.hid (by rw [← hmul]; exact IntWalk.wrap64_in _ (by omega))
  clear hmul hbd hwr
  go_enter Try.func22, Try.ntmps22
  go_wp2_with fail
  refine (hS _).mono ?_
  rintro e w1 ⟨rfl, b1⟩
  have hB : Below w.heap.size w (w.alloc (Obj.cells #[.int .i64 (g.x : Int), .int .i64 (g.y : Int), .int .i64 ((g.x + g.w : Nat) : Int), .int .i64 ((g.y + g.h : Nat) : Int)] 23)) := (Below.refl _ w).alloc (Nat.le_refl _) _
  have b2 := hB.trans (b1.mono hB.size)
  clear hS b1 hB
  go_wp2
  go_ret
  exact ⟨ret_i64 HW.out, b2⟩

set_option maxHeartbeats 2000000 in
theorem allowed_any (g : Geo) (n : Nat) (w : World) (h : g.w ≤ 4096 ∧ g.h ≤ 4096) (hx : g.x ≤ 90000 ∧ g.y ≤ 90000) (hn : n ≤ 5) :
    Calls Try.prog 21 #[rectV g, .int .i64 (n : Int)] w fun e w' => e = .returned (.bool true) ∧ Below w.heap.size w w' := by
  have hS := fun W => sides_any g W (by omega) (by omega)
  unfold rectV at hS ⊢
  obtain ⟨x, y, gw, gh⟩ := g
  simp only at h hx hS ⊢
  have c1 : decide ((x : Int) < 0) = false := by simp
  have c2 : decide (((x + gw : Nat) : Int) < (x : Int)) = false := by simp; omega
  have c3 : decide ((y : Int) < 0) = false := by simp
  have c4 : decide (((y + gh : Nat) : Int) < (y : Int)) = false := by simp; omega
  have c5 : decide ((gw : Int) ≤ 4096) = true := by simp; omega
  have c6 : decide ((gh : Int) ≤ 4096) = true := by simp; omega
  have c7 : decide (0 ≤ (n : Int)) = true := by simp
  have c8 : decide ((n : Int) ≤ 5) = true := by simp; omega
  obtain ⟨X1, e1⟩ : ∃ X1, ((x + gw : Nat) : Int) = X1 := ⟨_, rfl⟩
  obtain ⟨Y1, e2⟩ : ∃ Y1, ((y + gh : Nat) : Int) = Y1 := ⟨_, rfl⟩
  obtain ⟨X0, e3⟩ : ∃ X0, (x : Int) = X0 := ⟨_, rfl⟩
  obtain ⟨Y0, e4⟩ : ∃ Y0, (y : Int) = Y0 := ⟨_, rfl⟩
  obtain ⟨W0, e5⟩ : ∃ W0, (gw : Int) = W0 := ⟨_, rfl⟩
  obtain ⟨H0, e6⟩ : ∃ H0, (gh : Int) = H0 := ⟨_, rfl⟩
  obtain ⟨N0, e7⟩ : ∃ N0, (n : Int) = N0 := ⟨_, rfl⟩
  rw [e3] at c1
  rw [e1, e3] at c2
  rw [e4] at c3
  rw [e2, e4] at c4
  rw [e5] at c5
  rw [e6] at c6
  rw [e7] at c7 c8
  rw [e1, e2, e3, e4, e5, e6] at hS
  rw [e1, e2, e3, e4, e7]
  clear e1 e2 e3 e4 e5 e6 e7 h hx hn
  go_enter Try.func21, Try.ntmps21
  go_wp2_with fail
  refine (hS _).mono ?_
  rintro e w1 ⟨rfl, b1⟩
  have hB : Below w.heap.size w (w.alloc (Obj.cells #[.int .i64 X0, .int .i64 Y0, .int .i64 X1, .int .i64 Y1] 23)) := (Below.refl _ w).alloc (Nat.le_refl _) _
  have b2 := hB.trans (b1.mono hB.size)
  clear hS b1 hB
  go_wp2
  go_ret
  exact ⟨by simp_all, b2⟩

set_option maxHeartbeats 2000000 in
theorem quarter_any (g : Geo) (kind : Nat) (w : World) (h : g.w ≤ 1000 ∧ g.h ≤ 1000) (hx : g.x ≤ 90000 ∧ g.y ≤ 90000) (hk : kind < 4) :
    Calls Try.prog 39 #[rectV g, .int .i64 (kind : Int)] w fun e w' => e = .returned (.tuple #[.int .i64 ((qY g kind * g.w + qX g kind : Nat) : Int), .int .i64 (qW g kind : Int), .int .i64 (qH g kind : Int)]) ∧ Below w.heap.size w w' := by
  have hS := fun W => sides_any g W (by omega) (by omega)
  have hH := fun W => half_any g W (by omega) (by omega)
  have lw := half_w g
  have lh := half_h g
  have hS2 := fun W => sides_any g.half W (by omega) (by simp only [Geo.half]; omega)
  obtain ⟨a, ha⟩ : ∃ a, g.half.w = a := ⟨_, rfl⟩
  obtain ⟨b, hb⟩ : ∃ b, g.half.h = b := ⟨_, rfl⟩
  have hV : ∀ k : Nat, k < 4 → (k = 0 → qY g k * g.w + qX g k = 0 ∧ qW g k = a ∧ qH g k = b) ∧ (k = 1 → qY g k * g.w + qX g k = a ∧ qW g k = g.w - a ∧ qH g k = b) ∧ (k = 2 → qY g k * g.w + qX g k = b * g.w ∧ qW g k = a ∧ qH g k = g.h - b) ∧ (k = 3 → qY g k * g.w + qX g k = b * g.w + a ∧ qW g k = g.w - a ∧ qH g k = g.h - b) := by
    intro k _
    refine ⟨?_, ?_, ?_, ?_⟩ <;> (rintro rfl; simp [qX, qY, qW, qH, ha, hb])
  rw [ha] at hS2 lw
  rw [hb] at hS2 lh
  have hm := Nat.mul_le_mul lh h.1
  have hm1 : b * g.w ≤ 1000000 := by
    have := Nat.mul_le_mul (show b ≤ 1000 by omega) h.1
    omega
  have hwr : wrap64 ((b : Int) * (g.w : Int)) = ((b * g.w : Nat) : Int) := wr_mul _ _ (by omega) (by omega)
  have hwr2 := wr_two (b * g.w) a hm1 (by omega)
  obtain ⟨M, hM⟩ : ∃ M, b * g.w = M := ⟨_, rfl⟩
  rw [hM] at hwr hwr2 hm1
  rw [hM] at hV
  have HV := Lib.hid (hV kind hk)
  clear hV hm ha hb hM
  obtain ⟨R2, hR2⟩ : ∃ R, rectV g.half = R := ⟨_, rfl⟩
  rw [hR2] at hH hS2
  clear hR2
  unfold rectV at hS hH ⊢
  rcases (by omega : kind = 0 ∨ kind = 1 ∨ kind = 2 ∨ kind = 3) with rfl | rfl | rfl | rfl
  · obtain ⟨q1, q2, q3⟩ := HV.out.1 rfl
    rw [q1, q2, q3]
    clear q1 q2 q3 HV
    go_enter Try.func39, Try.ntmps39
    go_wp2_with fail
    refine (hS _).mono ?_
    rintro e w1 ⟨rfl, b1⟩
    have hB : Below w.heap.size w (w.alloc (Obj.cells #[.int .i64 (g.x : Int), .int .i64 (g.y : Int), .int .i64 ((g.x + g.w : Nat) : Int), .int .i64 ((g.y + g.h : Nat) : Int)] 23)) := (Below.refl _ w).alloc (Nat.le_refl _) _
    have b2 := hB.trans (b1.mono hB.size)
    have hz : w.heap.size < (w.alloc (Obj.cells #[.int .i64 (g.x : Int), .int .i64 (g.y : Int), .int .i64 ((g.x + g.w : Nat) : Int), .int .i64 ((g.y + g.h : Nat) : Int)] 23)).heap.size := by simp
    obtain ⟨f0, f1, f2, f3⟩ := (RC.new w g).keep b1 hz
    clear hB b1 hz
    go_wp2_with fail
    refine (hH _).mono ?_
    rintro e w2 ⟨rfl, b3⟩
    have b3 := b2.trans (b3.mono b2.size)
    clear f0 f1 f2 f3 b2
    go_wp2_with fail
    refine (hS2 _).mono ?_
    rintro e w3 ⟨rfl, b4⟩
    have b4 := b3.trans (b4.mono b3.size)
    clear b3 hS hH hS2
    go_wp2
    go_ret3
    exact ⟨ret3_i64 (by first | rfl | omega) (by first | rfl | omega) (by first | rfl | omega), b4⟩
  · obtain ⟨q1, q2, q3⟩ := HV.out.2.1 rfl
    rw [q1, q2, q3]
    clear q1 q2 q3 HV
    go_enter Try.func39, Try.ntmps39
    go_wp2_with fail
    refine (hS _).mono ?_
    rintro e w1 ⟨rfl, b1⟩
    have hB : Below w.heap.size w (w.alloc (Obj.cells #[.int .i64 (g.x : Int), .int .i64 (g.y : Int), .int .i64 ((g.x + g.w : Nat) : Int), .int .i64 ((g.y + g.h : Nat) : Int)] 23)) := (Below.refl _ w).alloc (Nat.le_refl _) _
    have b2 := hB.trans (b1.mono hB.size)
    have hz : w.heap.size < (w.alloc (Obj.cells #[.int .i64 (g.x : Int), .int .i64 (g.y : Int), .int .i64 ((g.x + g.w : Nat) : Int), .int .i64 ((g.y + g.h : Nat) : Int)] 23)).heap.size := by simp
    obtain ⟨f0, f1, f2, f3⟩ := (RC.new w g).keep b1 hz
    clear hB b1 hz
    go_wp2_with fail
    refine (hH _).mono ?_
    rintro e w2 ⟨rfl, b3⟩
    have b3 := b2.trans (b3.mono b2.size)
    clear f0 f1 f2 f3 b2
    go_wp2_with fail
    refine (hS2 _).mono ?_
    rintro e w3 ⟨rfl, b4⟩
    have b4 := b3.trans (b4.mono b3.size)
    clear b3 hS hH hS2
    go_wp2
    go_ret3
    exact ⟨ret3_i64 (by first | rfl | omega) (by first | rfl | omega) (by first | rfl | omega), b4⟩
  · obtain ⟨q1, q2, q3⟩ := HV.out.2.2.1 rfl
    rw [q1, q2, q3]
    clear q1 q2 q3 HV
    go_enter Try.func39, Try.ntmps39
    go_wp2_with fail
    refine (hS _).mono ?_
    rintro e w1 ⟨rfl, b1⟩
    have hB : Below w.heap.size w (w.alloc (Obj.cells #[.int .i64 (g.x : Int), .int .i64 (g.y : Int), .int .i64 ((g.x + g.w : Nat) : Int), .int .i64 ((g.y + g.h : Nat) : Int)] 23)) := (Below.refl _ w).alloc (Nat.le_refl _) _
    have b2 := hB.trans (b1.mono hB.size)
    have hz : w.heap.size < (w.alloc (Obj.cells #[.int .i64 (g.x : Int), .int .i64 (g.y : Int), .int .i64 ((g.x + g.w : Nat) : Int), .int .i64 ((g.y + g.h : Nat) : Int)] 23)).heap.size := by simp
    obtain ⟨f0, f1, f2, f3⟩ := (RC.new w g).keep b1 hz
    clear hB b1 hz
    go_wp2_with fail
    refine (hH _).mono ?_
    rintro e w2 ⟨rfl, b3⟩
    have b3 := b2.trans (b3.mono b2.size)
    clear f0 f1 f2 f3 b2
    go_wp2_with fail
    refine (hS2 _).mono ?_
    rintro e w3 ⟨rfl, b4⟩
    have b4 := b3.trans (b4.mono b3.size)
    clear b3 hS hH hS2
    go_wp2
    go_ret3
    exact ⟨ret3_i64 (by first | rfl | omega) (by first | rfl | omega) (by first | rfl | omega), b4⟩
  · obtain ⟨q1, q2, q3⟩ := HV.out.2.2.2 rfl
    rw [q1, q2, q3]
    clear q1 q2 q3 HV
    go_enter Try.func39, Try.ntmps39
    go_wp2_with fail
    refine (hS _).mono ?_
    rintro e w1 ⟨rfl, b1⟩
    have hB : Below w.heap.size w (w.alloc (Obj.cells #[.int .i64 (g.x : Int), .int .i64 (g.y : Int), .int .i64 ((g.x + g.w : Nat) : Int), .int .i64 ((g.y + g.h : Nat) : Int)] 23)) := (Below.refl _ w).alloc (Nat.le_refl _) _
    have b2 := hB.trans (b1.mono hB.size)
    have hz : w.heap.size < (w.alloc (Obj.cells #[.int .i64 (g.x : Int), .int .i64 (g.y : Int), .int .i64 ((g.x + g.w : Nat) : Int), .int .i64 ((g.y + g.h : Nat) : Int)] 23)).heap.size := by simp
    obtain ⟨f0, f1, f2, f3⟩ := (RC.new w g).keep b1 hz
    clear hB b1 hz
    go_wp2_with fail
    refine (hH _).mono ?_
    rintro e w2 ⟨rfl, b3⟩
    have b3 := b2.trans (b3.mono b2.size)
    clear f0 f1 f2 f3 b2
    go_wp2_with fail
    refine (hS2 _).mono ?_
    rintro e w3 ⟨rfl, b4⟩
    have b4 := b3.trans (b4.mono b3.size)
    clear b3 hS hH hS2
    go_wp2
    go_ret3
    exact ⟨ret3_i64 (by first | rfl | omega) (by first | rfl | omega) (by first | rfl | omega), b4⟩
end Go.Proofs.Ytgadebfelomhpaa
