/- The statements of chapter 6, walked: ScanAt, ScanStripes, ScanNone. -/
import Derived.Test.YtdmahidojconkaaScanRef
import Derived.WalkSmall
set_option linter.unusedVariables false
namespace Go.Proofs.Ytdmahidojconkaa
open Go.RowKit

theorem bd_i64 {a : Int} (h : (Lit.int .i64 a).wf = true) : -9223372036854775808 ≤ a ∧ a ≤ 9223372036854775807 := by
  have hmin : IntKind.i64.min = -9223372036854775808 := rfl
  have hmax : IntKind.i64.max = 9223372036854775807 := rfl
  simp only [Lit.wf, Bool.and_eq_true, decide_eq_true_eq] at h
  omega
theorem at_call (wd h k : Int) (w : World) (b1 : -9223372036854775808 ≤ wd ∧ wd ≤ 9223372036854775807) (b2 : -9223372036854775808 ≤ h ∧ h ≤ 9223372036854775807) (b3 : -9223372036854775808 ≤ k ∧ k ≤ 9223372036854775807) :
    Calls Try.prog 10 #[.int .i64 wd, .int .i64 h, .int .i64 k] w fun e w' => e = .returned (.tuple #[.int .i64 (scanAt wd h k).1, .int .i64 (scanAt wd h k).2]) ∧ Drew w w' :=
  at_any wd h k w b1 b2 b3
theorem ref_call (wd h k : Int) (w : World) (b1 : -9223372036854775808 ≤ wd ∧ wd ≤ 9223372036854775807) (b2 : -9223372036854775808 ≤ h ∧ h ≤ 9223372036854775807) (b3 : -9223372036854775808 ≤ k ∧ k ≤ 9223372036854775807) :
    Calls Try.prog 11 #[.int .i64 wd, .int .i64 h, .int .i64 k] w fun e w' => e = .returned (.tuple #[.int .i64 (scanAt wd h k).1, .int .i64 (scanAt wd h k).2]) ∧ Drew w w' :=
  ref_any wd h k w b1 b2 b3
/-- A call whose answer is known. -/
theorem at_is {wd h k x y : Int} (hs : scanAt wd h k = (x, y)) (w : World) (b1 : -9223372036854775808 ≤ wd ∧ wd ≤ 9223372036854775807) (b2 : -9223372036854775808 ≤ h ∧ h ≤ 9223372036854775807) (b3 : -9223372036854775808 ≤ k ∧ k ≤ 9223372036854775807) :
    Calls Try.prog 10 #[.int .i64 wd, .int .i64 h, .int .i64 k] w fun e w' => e = .returned (.tuple #[.int .i64 x, .int .i64 y]) ∧ Drew w w' :=
  (at_any wd h k w b1 b2 b3).mono fun e w' ⟨he, hw⟩ => ⟨by rw [he, hs]; rfl, hw⟩

set_option maxHeartbeats 400000 in
theorem known6 (w : World) : Calls Try.prog 8 #[] w fun e w' => e = .returned (.bool true) ∧ Drew w w' := by
  have s1 : scanAt 3 5 4 = (1, 0) := by decide
  have s2 : scanAt 3 5 12 = (0, 4) := by decide
  have S1 := Lib.hid s1
  have S2 := Lib.hid s2
  clear s1 s2
  go_enter Try.func8, Try.ntmps8
  go_wp2_with fail
  refine (at_is S1.out _ (by omega) (by omega) (by omega)).mono ?_
  rintro e w' ⟨rfl, n, rfl⟩
  go_wp2_with fail
  refine (at_is S2.out _ (by omega) (by omega) (by omega)).mono ?_
  rintro e w' ⟨rfl, m, rfl⟩
  go_wp2
  go_ret
  exact ⟨rfl, Drew.mk _ _⟩

theorem Drew.below {w w' : World} (h : Drew w w') : Below w.heap.size w w' := by
  obtain ⟨n, rfl⟩ := h
  exact below_drewN (Below.refl _ _) n
theorem within_rng (a n : Int) (hn : 1 ≤ n) : 0 ≤ a % n ∧ a % n < n := ⟨Int.emod_nonneg a (by omega), Int.emod_lt_of_pos a (by omega)⟩

set_option maxHeartbeats 400000 in
theorem walk_scanAt (a0 : Int) (a1 : Int) (a2 : Int) (w : World) (w0 : (Lit.int .i64 a0).wf = true) (w1 : (Lit.int .i64 a1).wf = true) (w2 : (Lit.int .i64 a2).wf = true) :
    Calls Try.prog 3 #[.int .i64 a0, .int .i64 a1, .int .i64 a2] w fun e w' => e = .returned (.bool true) ∧ Below w.heap.size w w' := by
  have b0 := bd_i64 w0
  have b1 := bd_i64 w1
  have b2 := bd_i64 w2
  clear w0 w1 w2
  have r0 := within_rng a0 70 (by omega)
  have r1 := within_rng a1 70 (by omega)
  have r2 := within_rng a2 5000 (by omega)
  go_enter Try.func3, Try.ntmps3
  go_wp2_with (first
    | (go_at_call 8; refine (known6 _).mono ?_; rintro e w' ⟨rfl, n, rfl⟩)
    | (go_at_call 9; refine (within6 _ _ _ (by omega) (by omega)).mono ?_; rintro e w' ⟨rfl, rfl⟩)
    | (go_at_call 10; refine (at_call _ _ _ _ (by omega) (by omega) (by omega)).mono ?_; rintro e w' ⟨rfl, n, rfl⟩)
    | (go_at_call 11; refine (ref_call _ _ _ _ (by omega) (by omega) (by omega)).mono ?_; rintro e w' ⟨rfl, n, rfl⟩))
  go_ret
  exact ⟨rfl, (Drew.mk _ _).below⟩

set_option maxHeartbeats 400000 in
theorem walk_scanNone (a0 : Int) (a1 : Int) (a2 : Int) (w : World) (w0 : (Lit.int .i64 a0).wf = true) (w1 : (Lit.int .i64 a1).wf = true) (w2 : (Lit.int .i64 a2).wf = true) :
    Calls Try.prog 6 #[.int .i64 a0, .int .i64 a1, .int .i64 a2] w fun e w' => e = .returned (.bool true) ∧ Below w.heap.size w w' := by
  have b0 := bd_i64 w0
  have b1 := bd_i64 w1
  have b2 := bd_i64 w2
  clear w0 w1 w2
  have r2 := within_rng a2 100 (by omega)
  have s2 : scanAt 3 3 (9 + a2 % 100) = (-1, -1) := scan_none (by omega)
  have S2 := Lib.hid s2
  clear s2
  by_cases c0 : 0 < a0
  · by_cases c1 : 0 < a1
    · have s1 : scanAt a0 0 a2 = (-1, -1) := scan_none (by omega)
      have S1 := Lib.hid s1
      clear s1
      go_enter Try.func6, Try.ntmps6
      go_wp2_with fail
      refine (known6 _).mono ?_
      rintro e w' ⟨rfl, n, rfl⟩
      go_wp2_with fail
      refine (at_is S1.out _ (by omega) (by omega) (by omega)).mono ?_
      rintro e w' ⟨rfl, m, rfl⟩
      go_wp2_with fail
      refine (within6 _ _ _ (by omega) (by omega)).mono ?_
      rintro e w' ⟨rfl, rfl⟩
      go_wp2_with fail
      refine (at_is S2.out _ (by omega) (by omega) (by omega)).mono ?_
      rintro e w' ⟨rfl, k, rfl⟩
      go_wp2
      go_ret
      exact ⟨rfl, (Drew.mk _ _).below⟩
    · have s1 : scanAt a0 a1 a2 = (-1, -1) := scan_none (by omega)
      have S1 := Lib.hid s1
      clear s1
      go_enter Try.func6, Try.ntmps6
      go_wp2_with fail
      refine (known6 _).mono ?_
      rintro e w' ⟨rfl, n, rfl⟩
      go_wp2_with fail
      refine (at_is S1.out _ (by omega) (by omega) (by omega)).mono ?_
      rintro e w' ⟨rfl, m, rfl⟩
      go_wp2_with fail
      refine (within6 _ _ _ (by omega) (by omega)).mono ?_
      rintro e w' ⟨rfl, rfl⟩
      go_wp2_with fail
      refine (at_is S2.out _ (by omega) (by omega) (by omega)).mono ?_
      rintro e w' ⟨rfl, k, rfl⟩
      go_wp2
      go_ret
      exact ⟨rfl, (Drew.mk _ _).below⟩
  · have s1 : scanAt a0 a1 a2 = (-1, -1) := scan_none (by omega)
    have S1 := Lib.hid s1
    clear s1
    go_enter Try.func6, Try.ntmps6
    go_wp2_with fail
    refine (known6 _).mono ?_
    rintro e w' ⟨rfl, n, rfl⟩
    go_wp2_with fail
    refine (at_is S1.out _ (by omega) (by omega) (by omega)).mono ?_
    rintro e w' ⟨rfl, m, rfl⟩
    go_wp2_with fail
    refine (within6 _ _ _ (by omega) (by omega)).mono ?_
    rintro e w' ⟨rfl, rfl⟩
    go_wp2_with fail
    refine (at_is S2.out _ (by omega) (by omega) (by omega)).mono ?_
    rintro e w' ⟨rfl, k, rfl⟩
    go_wp2
    go_ret
    exact ⟨rfl, (Drew.mk _ _).below⟩

/-- The ends of a stripe: stripe s of a block of wd columns and h rows. -/
theorem scan_first {wd h s : Int} (c1 : 1 ≤ wd ∧ wd ≤ 64) (c2 : 1 ≤ h ∧ h ≤ 64) (c3 : 0 ≤ s) (c4 : 4 * s < h) : scanAt wd h (4 * wd * s) = (0, 4 * s) := by
  have e : 4 * wd * s / wd = 4 * s := by
    rw [show 4 * wd * s = 4 * s * wd from by rw [Int.mul_assoc, Int.mul_comm wd s, ← Int.mul_assoc], Int.mul_ediv_cancel _ (by omega)]
  have e4 : 4 * s / 4 * 4 = 4 * s := by omega
  have ez : 4 * wd * s - 4 * s * wd = 0 := by
    rw [show 4 * wd * s = 4 * s * wd from by rw [Int.mul_assoc, Int.mul_comm wd s, ← Int.mul_assoc]]; omega
  have hk : 0 ≤ 4 * wd * s := Int.mul_nonneg (by omega) c3
  rw [scan_some c1.1 c2.1 hk (by omega) rfl, e, e4, ez]
  simp
theorem scan_last {wd h s r : Int} (c1 : 1 ≤ wd ∧ wd ≤ 64) (c2 : 1 ≤ h ∧ h ≤ 64) (c3 : 0 ≤ s) (c4 : 4 * s < h) (hr : r = min 4 (h - 4 * s)) :
    scanAt wd h (4 * wd * s + r * wd - 1) = (wd - 1, 4 * s + r - 1) := by
  have c5 : 1 ≤ r ∧ r ≤ 4 := by omega
  have e0 : 4 * wd * s = 4 * s * wd := by rw [Int.mul_assoc, Int.mul_comm wd s, ← Int.mul_assoc]
  have hk : 4 * wd * s + r * wd - 1 = (4 * s + r) * wd - 1 := by rw [e0, Int.add_mul]
  have e : ((4 * s + r) * wd - 1) / wd = 4 * s + r - 1 := by
    have : (4 * s + r) * wd - 1 = (wd - 1) + (4 * s + r - 1) * wd := by rw [Int.sub_mul]; omega
    rw [this, Int.add_mul_ediv_right _ _ (by omega), Int.ediv_eq_zero_of_lt (by omega) (by omega)]
    omega
  have e4 : (4 * s + r - 1) / 4 * 4 = 4 * s := by omega
  have hm : 0 ≤ (4 * s + r) * wd - 1 := by
    have : 1 * 1 ≤ (4 * s + r) * wd := Int.mul_le_mul (by omega) (by omega) (by omega) (by omega)
    omega
  have ez : (4 * s + r) * wd - 1 - 4 * s * wd = (r - 1) + (wd - 1) * r := by
    rw [Int.add_mul, Int.sub_mul, Int.mul_comm wd r]; omega
  rw [hk, scan_some c1.1 c2.1 hm (by omega) (m := r) (by omega), e, e4, ez, Int.add_mul_ediv_right _ _ (by omega), Int.add_mul_emod_self_right, Int.ediv_eq_zero_of_lt (by omega) (by omega), Int.emod_eq_of_lt (by omega) (by omega)]
  congr 1 <;> omega
end Go.Proofs.Ytdmahidojconkaa
