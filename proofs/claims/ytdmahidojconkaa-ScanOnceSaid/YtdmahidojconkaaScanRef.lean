/- The function At of the reference, by its contract. -/
import Derived.Test.YtdmahidojconkaaScanAts
set_option linter.unusedVariables false
namespace Go.Proofs.Ytdmahidojconkaa
open Go.RowKit

theorem wrap_add_mul (x y : Int) : wrap64 (x + 18446744073709551616 * y) = wrap64 x := by unfold wrap64; omega
theorem wrap_is (x : Int) : ∃ t, wrap64 x = x + 18446744073709551616 * t :=
  ⟨-((x + 9223372036854775808) / 18446744073709551616), by unfold wrap64; omega⟩
theorem wrap_mul (a b : Int) : wrap64 (wrap64 a * b) = wrap64 (a * b) := by
  obtain ⟨t, ht⟩ := wrap_is a
  rw [ht, Int.add_mul, Int.mul_assoc, wrap_add_mul]

theorem ref_mul {wd k : Int} (c1 : 1 ≤ wd) (c3 : 0 ≤ k ∧ k ≤ 9223372036854775807) :
    wrap64 (wrap64 (4 * wd) * (k / wd / 4)) = k / wd / 4 * 4 * wd := by
  obtain ⟨f1, f2, f3, f4⟩ := scan_facts c1 c3.1
  have e : 4 * wd * (k / wd / 4) = k / wd / 4 * 4 * wd := by
    rw [Int.mul_comm (4 * wd), ← Int.mul_assoc]
  rw [wrap_mul, e]
  exact IntWalk.wrap64_in _ (by omega)

set_option maxHeartbeats 400000 in
theorem ref_in (wd h k m : Int) (w : World) (b1 : 1 ≤ wd ∧ wd ≤ 9223372036854775807) (b2 : 1 ≤ h ∧ h ≤ 9223372036854775807) (b3 : 0 ≤ k ∧ k ≤ 9223372036854775807)
   (hT : k / wd < h) (hm : 4 ≤ h - k / wd / 4 * 4 ∧ m = 4 ∨ h - k / wd / 4 * 4 < 4 ∧ m = h - k / wd / 4 * 4) :
    Calls Try.prog 11 #[.int .i64 wd, .int .i64 h, .int .i64 k] w fun e w' => e = scanV (scanAt wd h k) ∧ Drew w w' := by
  obtain ⟨f1, f2, f3, f4⟩ := scan_facts b1.1 b3.1
  have hfin := scan_some b1.1 b2.1 b3.1 hT (m := m) (by omega)
  have HF := Lib.hid hfin
  clear hfin
  have g1 : ¬ wd = 0 := by omega
  have e0 := ref_mul b1.1 b3
  have c0 : 4 * (k / wd / 4) = k / wd / 4 * 4 := Int.mul_comm _ _
  rcases hm with ⟨hH, hm⟩ | ⟨hH, hm⟩
  · have HM := Lib.hid hm
    clear hm
    have r0 := Int.emod_nonneg (k - k / wd / 4 * 4 * wd) (show (4 : Int) ≠ 0 by omega)
    have r1 := Int.emod_lt_of_pos (k - k / wd / 4 * 4 * wd) (show (0 : Int) < 4 by omega)
    have e1 : IntKind.i64.wrap ((k - k / wd / 4 * 4 * wd).tdiv 4) = (k - k / wd / 4 * 4 * wd) / 4 := IntWalk.i64_quo _ _ (by omega)
    have e2 : (k - k / wd / 4 * 4 * wd).tmod 4 = (k - k / wd / 4 * 4 * wd) % 4 := IntWalk.rem_in _ _ (by omega)
    have e3 : IntKind.i64.wrap (k / wd / 4 * 4 + (k - k / wd / 4 * 4 * wd) % 4) = k / wd / 4 * 4 + (k - k / wd / 4 * 4 * wd) % 4 := IntWalk.i64_in _ (by omega)
    have e4 : IntKind.i64.wrap (k / wd / 4 * 4) = k / wd / 4 * 4 := IntWalk.i64_in _ (by omega)
    go_enter Try.func11, Try.ntmps11
    go_wp2
    go_quiet (fail)
    go_wp2
    go_ret2
    exact ⟨scanV_eq (by rw [HF.out, HM.out]), Drew.mk _ _⟩
  · have HM := Lib.hid hm
    clear hm
    have r0 := Int.emod_nonneg (k - k / wd / 4 * 4 * wd) (show h - k / wd / 4 * 4 ≠ 0 by omega)
    have r1 := Int.emod_lt_of_pos (k - k / wd / 4 * 4 * wd) (show 0 < h - k / wd / 4 * 4 by omega)
    have e1 : IntKind.i64.wrap ((k - k / wd / 4 * 4 * wd).tdiv (h - k / wd / 4 * 4)) = (k - k / wd / 4 * 4 * wd) / (h - k / wd / 4 * 4) := IntWalk.i64_quo _ _ (by omega)
    have e2 : (k - k / wd / 4 * 4 * wd).tmod (h - k / wd / 4 * 4) = (k - k / wd / 4 * 4 * wd) % (h - k / wd / 4 * 4) := IntWalk.rem_in _ _ (by omega)
    have e3 : IntKind.i64.wrap (k / wd / 4 * 4 + (k - k / wd / 4 * 4 * wd) % (h - k / wd / 4 * 4)) = k / wd / 4 * 4 + (k - k / wd / 4 * 4 * wd) % (h - k / wd / 4 * 4) := IntWalk.i64_in _ (by omega)
    have e4 : IntKind.i64.wrap (k / wd / 4 * 4) = k / wd / 4 * 4 := IntWalk.i64_in _ (by omega)
    have g2 : ¬ h - k / wd / 4 * 4 = 0 := by omega
    go_enter Try.func11, Try.ntmps11
    go_wp2
    go_quiet (fail)
    go_wp2
    go_ret2
    exact ⟨scanV_eq (by rw [HF.out, HM.out]), Drew.mk _ _⟩

set_option maxHeartbeats 400000 in
theorem ref_any (wd h k : Int) (w : World) (b1 : -9223372036854775808 ≤ wd ∧ wd ≤ 9223372036854775807) (b2 : -9223372036854775808 ≤ h ∧ h ≤ 9223372036854775807) (b3 : -9223372036854775808 ≤ k ∧ k ≤ 9223372036854775807) :
    Calls Try.prog 11 #[.int .i64 wd, .int .i64 h, .int .i64 k] w fun e w' => e = scanV (scanAt wd h k) ∧ Drew w w' := by
  by_cases c1 : wd < 1
  · have hfin := scan_none (k := k) (h := h) (wd := wd) (by omega)
    have HF := Lib.hid hfin
    clear hfin
    go_enter Try.func11, Try.ntmps11
    go_wp2
    go_ret2
    exact ⟨scanV_eq HF.out, Drew.refl _⟩
  by_cases c2 : h < 1
  · have hfin := scan_none (k := k) (h := h) (wd := wd) (by omega)
    have HF := Lib.hid hfin
    clear hfin
    go_enter Try.func11, Try.ntmps11
    go_wp2
    go_ret2
    exact ⟨scanV_eq HF.out, Drew.refl _⟩
  by_cases c3 : k < 0
  · have hfin := scan_none (k := k) (h := h) (wd := wd) (by omega)
    have HF := Lib.hid hfin
    clear hfin
    go_enter Try.func11, Try.ntmps11
    go_wp2
    go_ret2
    exact ⟨scanV_eq HF.out, Drew.refl _⟩
  by_cases c4 : h ≤ k / wd
  · obtain ⟨f1, f2, f3, f4⟩ := scan_facts (wd := wd) (k := k) (by omega) (by omega)
    have hfin := scan_none (k := k) (h := h) (wd := wd) (by omega)
    have HF := Lib.hid hfin
    clear hfin
    have g1 : ¬ wd = 0 := by omega
    go_enter Try.func11, Try.ntmps11
    go_wp2
    go_ret2
    exact ⟨scanV_eq HF.out, Drew.refl _⟩
  · exact ref_in wd h k (min 4 (h - k / wd / 4 * 4)) w (by omega) (by omega) (by omega) (by omega) (by omega)
end Go.Proofs.Ytdmahidojconkaa
