/- Part of package canvas, by its contract. -/
import Derived.Test.YtlbfjaifemnkpaaCvA
import Derived.StillTailTactics
import Derived.RangeFuncBox
set_option linter.unusedVariables false
set_option linter.unusedSimpArgs false
namespace Go.Proofs.Ytlbfjaifemnkpaa
set_option maxRecDepth 100000
open Go.RowKit

theorem ceil_mono {a a' b : Int} (h : a ≤ a') (hb : 1 ≤ b) : ceilF a b ≤ ceilF a' b := by
  have h1 : ∀ x : Int, ceilF x b = -((-x) / b) := by
    intro x
    unfold ceilF
    have e1 := Int.mul_ediv_add_emod x b
    have hr0 := Int.emod_nonneg x (show b ≠ 0 by omega)
    have hlt := Int.emod_lt_of_pos x (show 0 < b by omega)
    generalize x / b = q at *
    generalize x % b = r at *
    subst e1
    by_cases c : 0 < r
    · rw [if_pos c]
      have e2 : -(b * q + r) = (b - r) + b * (-q - 1) := by
        rw [Int.mul_sub, Int.mul_neg, Int.mul_one]; omega
      rw [e2, Int.add_mul_ediv_left _ _ (by omega), Int.ediv_eq_zero_of_lt (by omega) (by omega)]
      omega
    · rw [if_neg c]
      have e2 : -(b * q + r) = b * (-q) := by rw [Int.mul_neg]; omega
      rw [e2, Int.mul_ediv_cancel_left _ (by omega)]
      omega
  rw [h1, h1]
  have := Int.ediv_le_ediv (show 0 < b by omega) (show -a' ≤ -a by omega)
  omega
end Go.Proofs.Ytlbfjaifemnkpaa
