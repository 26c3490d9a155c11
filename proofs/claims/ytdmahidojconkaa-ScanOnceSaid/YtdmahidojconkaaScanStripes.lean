/- The statement ScanStripes, walked. -/
import Derived.Test.YtdmahidojconkaaScanLaws
set_option linter.unusedVariables false
namespace Go.Proofs.Ytdmahidojconkaa
open Go.RowKit

theorem within_some (a n : Int) (w : World) (hn : 1 ≤ n) (hm : n ≤ 4611686018427387904) :
    Calls Try.prog 9 #[.int .i64 a, .int .i64 n] w fun e w' => ∃ r, e = .returned (.int .i64 r) ∧ 0 ≤ r ∧ r < n ∧ w = w' :=
  (within6 a n w hn hm).mono fun e w' ⟨he, hw⟩ => ⟨a % n, he, (within_rng a n hn).1, (within_rng a n hn).2, hw⟩

set_option maxHeartbeats 400000 in
theorem walk_scanStripes (a0 : Int) (a1 : Int) (a2 : Int) (w : World) (w0 : (Lit.int .i64 a0).wf = true) (w1 : (Lit.int .i64 a1).wf = true) (w2 : (Lit.int .i64 a2).wf = true) :
    Calls Try.prog 5 #[.int .i64 a0, .int .i64 a1, .int .i64 a2] w fun e w' => e = .returned (.bool true) ∧ Below w.heap.size w w' := by
  clear w0 w1 w2
  go_enter Try.func5, Try.ntmps5
  go_wp2_with fail
  refine (known6 _).mono ?_
  rintro e w' ⟨rfl, n, rfl⟩
  go_wp2_with fail
  refine (within_some _ _ _ (by omega) (by omega)).mono ?_
  rintro e w' ⟨u, rfl, u0, u1, rfl⟩
  go_wp2_with fail
  refine (within_some _ _ _ (by omega) (by omega)).mono ?_
  rintro e w' ⟨v, rfl, v0, v1, rfl⟩
  go_wp2_with fail
  refine (within_some _ _ _ (by omega) (by omega)).mono ?_
  rintro e w' ⟨s, rfl, s0, s1, rfl⟩
  have p0 : 0 ≤ 4 * (1 + u) * s := Int.mul_nonneg (by omega) s0
  have p1 : 4 * (1 + u) * s ≤ 256 * 16 := Int.mul_le_mul (by omega) (by omega) s0 (by omega)
  have k1 := scan_first (wd := 1 + u) (h := 1 + v) (s := s) (by omega) (by omega) s0 (by omega)
  have K1 := Lib.hid k1
  clear k1
  by_cases c : 4 ≤ 1 + v - 4 * s
  · have k2 := scan_last (wd := 1 + u) (h := 1 + v) (s := s) (r := 4) (by omega) (by omega) s0 (by omega) (by omega)
    have K2 := Lib.hid k2
    clear k2
    go_wp2_with fail
    refine (at_is K1.out _ (by omega) (by omega) (by omega)).mono ?_
    rintro e w' ⟨rfl, m, rfl⟩
    go_wp2_with fail
    refine (at_is K2.out _ (by omega) (by omega) (by omega)).mono ?_
    rintro e w' ⟨rfl, k, rfl⟩
    go_wp2
    go_ret
    exact ⟨rfl, (Drew.mk _ _).below⟩
  · have k2 := scan_last (wd := 1 + u) (h := 1 + v) (s := s) (r := 1 + v - 4 * s) (by omega) (by omega) s0 (by omega) (by omega)
    have K2 := Lib.hid k2
    clear k2
    have q0 : 0 ≤ (1 + v - 4 * s) * (1 + u) := Int.mul_nonneg (by omega) (by omega)
    have q1 : (1 + v - 4 * s) * (1 + u) ≤ 4 * 64 := Int.mul_le_mul (by omega) (by omega) (by omega) (by omega)
    go_wp2_with fail
    refine (at_is K1.out _ (by omega) (by omega) (by omega)).mono ?_
    rintro e w' ⟨rfl, m, rfl⟩
    go_wp2_with fail
    refine (at_is K2.out _ (by omega) (by omega) (by omega)).mono ?_
    rintro e w' ⟨rfl, k, rfl⟩
    go_wp2
    go_ret
    exact ⟨rfl, (Drew.mk _ _).below⟩
end Go.Proofs.Ytdmahidojconkaa
