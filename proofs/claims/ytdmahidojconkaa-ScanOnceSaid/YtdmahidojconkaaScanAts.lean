/- The functions At of package scan and of the reference, by their contracts: both come to scanAt, for all numbers. -/
import Derived.Test.YtdmahidojconkaaScanBase
import Derived.BigQuiet
import Derived.Deep.QuietTactic
set_option linter.unusedVariables false
namespace Go.Proofs.Ytdmahidojconkaa
open Go.RowKit

def scanAt (wd h k : Int) : Int × Int :=
  if wd < 1 ∨ h < 1 ∨ k < 0 ∨ h ≤ k / wd then (-1, -1) else
  ((k - k / wd / 4 * 4 * wd) / min 4 (h - k / wd / 4 * 4), k / wd / 4 * 4 + (k - k / wd / 4 * 4 * wd) % min 4 (h - k / wd / 4 * 4))

theorem scan_none {wd h k : Int} (c : wd < 1 ∨ h < 1 ∨ k < 0 ∨ h ≤ k / wd) : scanAt wd h k = (-1, -1) := if_pos c
theorem scan_some {wd h k m : Int} (c1 : 1 ≤ wd) (c2 : 1 ≤ h) (c3 : 0 ≤ k) (c4 : k / wd < h) (hm : m = min 4 (h - k / wd / 4 * 4)) :
    scanAt wd h k = ((k - k / wd / 4 * 4 * wd) / m, k / wd / 4 * 4 + (k - k / wd / 4 * 4 * wd) % m) := by
  subst hm
  exact if_neg (by omega)

/-- What the numbers on the way are. -/
theorem scan_facts {wd k : Int} (c1 : 1 ≤ wd) (c3 : 0 ≤ k) :
    0 ≤ k / wd ∧ k / wd ≤ k ∧ 0 ≤ (k / wd / 4 * 4) * wd ∧ (k / wd / 4 * 4) * wd ≤ k := by
  have q0 : 0 ≤ k / wd := Int.ediv_nonneg c3 (by omega)
  have q1 : k / wd ≤ k := Int.ediv_le_self _ c3
  have m0 : 0 ≤ (k / wd / 4 * 4) * wd := Int.mul_nonneg (by omega) (by omega)
  have m1 : (k / wd / 4 * 4) * wd ≤ (k / wd) * wd := Int.mul_le_mul_of_nonneg_right (by omega) (by omega)
  have m2 : (k / wd) * wd ≤ k := Int.ediv_mul_le _ (by omega)
  exact ⟨q0, q1, m0, by omega⟩
theorem scan_col {wd k m : Int} (c1 : 1 ≤ wd) (hm : 1 ≤ m) : (k - k / wd / 4 * 4 * wd) / m < wd ↔ k / wd < k / wd / 4 * 4 + m := by
  rw [Int.ediv_lt_iff_lt_mul (by omega), Int.ediv_lt_iff_lt_mul (by omega), Int.add_mul, Int.mul_comm wd m]
  omega

def Drew (w w' : World) : Prop := ∃ n, w' = w.drewN n
theorem Drew.refl (w : World) : Drew w w := ⟨0, rfl⟩
theorem Drew.mk (w : World) (n : Nat) : Drew w (w.drewN n) := ⟨n, rfl⟩

def scanV (p : Int × Int) : Ending := .returned (.tuple #[.int .i64 p.1, .int .i64 p.2])
theorem scanV_eq {a b : Int} {p : Int × Int} (h : p = (a, b)) : Ending.returned (.tuple #[.int .i64 a, .int .i64 b]) = scanV p := by rw [h]; rfl

set_option maxHeartbeats 400000 in
/-- A block of at least one column. -/
theorem at_in (wd h k m : Int) (w : World) (b1 : 1 ≤ wd ∧ wd ≤ 9223372036854775807) (b2 : 1 ≤ h ∧ h ≤ 9223372036854775807) (b3 : 0 ≤ k ∧ k ≤ 9223372036854775807)
   (hT : k / wd / 4 * 4 < h) (hm : 4 ≤ h - k / wd / 4 * 4 ∧ m = 4 ∨ h - k / wd / 4 * 4 < 4 ∧ m = h - k / wd / 4 * 4) :
    Calls Try.prog 10 #[.int .i64 wd, .int .i64 h, .int .i64 k] w fun e w' => e = scanV (scanAt wd h k) ∧ Drew w w' := by
  obtain ⟨f1, f2, f3, f4⟩ := scan_facts b1.1 b3.1
  have hfin : ∀ a b, a = (k - k / wd / 4 * 4 * wd) / m → b = k / wd / 4 * 4 + (k - k / wd / 4 * 4 * wd) % m → a < wd → scanAt wd h k = (a, b) := by
    intro a b ha hb hc
    have hcol := (scan_col (k := k) (m := m) b1.1 (by omega)).1 (by omega)
    rw [scan_some b1.1 b2.1 b3.1 (by omega) (m := m) (by omega), ha, hb]
  have hout : wd ≤ (k - k / wd / 4 * 4 * wd) / m → scanAt wd h k = (-1, -1) := by
    intro hc
    have hcol := mt (scan_col (k := k) (m := m) b1.1 (by omega)).2 (by omega)
    exact scan_none (by omega)
  have HF := Lib.hid hfin
  have HO := Lib.hid hout
  clear hfin hout
  have g1 : ¬ wd = 0 := by omega
  rcases hm with ⟨hH, hm⟩ | ⟨hH, hm⟩
  · have HM := Lib.hid hm
    clear hm
    have r0 := Int.emod_nonneg (k - k / wd / 4 * 4 * wd) (show (4 : Int) ≠ 0 by omega)
    have r1 := Int.emod_lt_of_pos (k - k / wd / 4 * 4 * wd) (show (0 : Int) < 4 by omega)
    have e1 : IntKind.i64.wrap ((k - k / wd / 4 * 4 * wd).tdiv 4) = (k - k / wd / 4 * 4 * wd) / 4 := IntWalk.i64_quo _ _ (by omega)
    have e2 : (k - k / wd / 4 * 4 * wd).tmod 4 = (k - k / wd / 4 * 4 * wd) % 4 := IntWalk.rem_in _ _ (by omega)
    have e3 : IntKind.i64.wrap (k / wd / 4 * 4 + (k - k / wd / 4 * 4 * wd) % 4) = k / wd / 4 * 4 + (k - k / wd / 4 * 4 * wd) % 4 := IntWalk.i64_in _ (by omega)
    go_enter Try.func10, Try.ntmps10
    go_wp2
    go_quiet (fail)
    go_wp2
    · go_ret2
      exact ⟨scanV_eq (HO.out (by rw [HM.out]; omega)), Drew.mk _ _⟩
    · go_ret2
      exact ⟨scanV_eq (HF.out _ _ (by rw [HM.out]) (by rw [HM.out]) (by omega)), Drew.mk _ _⟩
  · have HM := Lib.hid hm
    clear hm
    have r0 := Int.emod_nonneg (k - k / wd / 4 * 4 * wd) (show h - k / wd / 4 * 4 ≠ 0 by omega)
    have r1 := Int.emod_lt_of_pos (k - k / wd / 4 * 4 * wd) (show 0 < h - k / wd / 4 * 4 by omega)
    have e1 : IntKind.i64.wrap ((k - k / wd / 4 * 4 * wd).tdiv (h - k / wd / 4 * 4)) = (k - k / wd / 4 * 4 * wd) / (h - k / wd / 4 * 4) := IntWalk.i64_quo _ _ (by omega)
    have e2 : (k - k / wd / 4 * 4 * wd).tmod (h - k / wd / 4 * 4) = (k - k / wd / 4 * 4 * wd) % (h - k / wd / 4 * 4) := IntWalk.rem_in _ _ (by omega)
    have e3 : IntKind.i64.wrap (k / wd / 4 * 4 + (k - k / wd / 4 * 4 * wd) % (h - k / wd / 4 * 4)) = k / wd / 4 * 4 + (k - k / wd / 4 * 4 * wd) % (h - k / wd / 4 * 4) := IntWalk.i64_in _ (by omega)
    have g2 : ¬ h - k / wd / 4 * 4 = 0 := by omega
    go_enter Try.func10, Try.ntmps10
    go_wp2
    go_quiet (fail)
    go_wp2
    · go_ret2
      exact ⟨scanV_eq (HO.out (by rw [HM.out]; omega)), Drew.mk _ _⟩
    · go_ret2
      exact ⟨scanV_eq (HF.out _ _ (by rw [HM.out]) (by rw [HM.out]) (by omega)), Drew.mk _ _⟩

set_option maxHeartbeats 400000 in
theorem at_any (wd h k : Int) (w : World) (b1 : -9223372036854775808 ≤ wd ∧ wd ≤ 9223372036854775807) (b2 : -9223372036854775808 ≤ h ∧ h ≤ 9223372036854775807) (b3 : -9223372036854775808 ≤ k ∧ k ≤ 9223372036854775807) :
    Calls Try.prog 10 #[.int .i64 wd, .int .i64 h, .int .i64 k] w fun e w' => e = scanV (scanAt wd h k) ∧ Drew w w' := by
  by_cases c1 : wd < 1
  · have hfin := scan_none (k := k) (h := h) (wd := wd) (by omega)
    have HF := Lib.hid hfin
    clear hfin
    go_enter Try.func10, Try.ntmps10
    go_wp2
    go_ret2
    exact ⟨scanV_eq HF.out, Drew.refl _⟩
  by_cases c2 : h < 1
  · have hfin := scan_none (k := k) (h := h) (wd := wd) (by omega)
    have HF := Lib.hid hfin
    clear hfin
    go_enter Try.func10, Try.ntmps10
    go_wp2
    go_ret2
    exact ⟨scanV_eq HF.out, Drew.refl _⟩
  by_cases c3 : k < 0
  · have hfin := scan_none (k := k) (h := h) (wd := wd) (by omega)
    have HF := Lib.hid hfin
    clear hfin
    go_enter Try.func10, Try.ntmps10
    go_wp2
    go_ret2
    exact ⟨scanV_eq HF.out, Drew.refl _⟩
  by_cases c4 : h ≤ k / wd / 4 * 4
  · obtain ⟨f1, f2, f3, f4⟩ := scan_facts (wd := wd) (k := k) (by omega) (by omega)
    have hfin := scan_none (k := k) (h := h) (wd := wd) (by omega)
    have HF := Lib.hid hfin
    clear hfin
    have g1 : ¬ wd = 0 := by omega
    go_enter Try.func10, Try.ntmps10
    go_wp2
    go_ret2
    exact ⟨scanV_eq HF.out, Drew.refl _⟩
  · exact at_in wd h k (min 4 (h - k / wd / 4 * 4)) w (by omega) (by omega) (by omega) (by omega) (by omega)
end Go.Proofs.Ytdmahidojconkaa
