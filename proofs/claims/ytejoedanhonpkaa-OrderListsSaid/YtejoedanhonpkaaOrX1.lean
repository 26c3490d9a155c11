/- Packets in order: with one precinct a resolution: counted. -/
import Derived.Test.YtejoedanhonpkaaOrG
set_option linter.unusedVariables false
set_option linter.unusedSimpArgs false
namespace Go.Proofs.Ytejoedanhonpkaa
open Go.RowKit
set_option maxRecDepth 100000
theorem ceil_small {a : Int} (h : 1 ≤ a ∧ a ≤ 255) : ceilF a 32768 = 1 := by unfold ceilF; split <;> omega
theorem wh_one {z : Int × Int × Int × Int} (h : inN z 255) (ho : Ord4 z) : (pcF z ((2 ^ 15 : Nat) : Int)).1.toNat * (pcF z ((2 ^ 15 : Nat) : Int)).2.toNat = if 0 < (z.2.2.1 - z.1) * (z.2.2.2 - z.2.1) then 1 else 0 := by
  obtain ⟨z0, z1, z2, z3⟩ := z
  obtain ⟨h0, h1, h2, h3⟩ := h
  simp only [Ord4] at h0 h1 h2 h3 ho
  rw [show ((2 ^ 15 : Nat) : Int) = 32768 from rfl]
  unfold pcF
  simp only
  by_cases hc : z2 ≤ z0 ∨ z3 ≤ z1
  · rw [if_pos hc, if_neg]
    · rfl
    · rcases hc with h | h
      · rw [show z2 - z0 = 0 by omega, Int.zero_mul]; omega
      · rw [show z3 - z1 = 0 by omega, Int.mul_zero]; omega
  · rw [if_neg hc, if_pos (Int.mul_pos (by omega) (by omega)), ceil_small (by omega), ceil_small (by omega)]
    rw [show z0 / 32768 = 0 by omega, show z1 / 32768 = 0 by omega]
    rfl
def cntR (G : GE) (c r : Nat) : Nat := ((List.range r).map (G.wh c)).sum
def cntC (G : GE) (c : Nat) : Nat := ((List.range c).map fun c => cntR G c (G.lv + 1)).sum
theorem cntR_succ (G : GE) (c r : Nat) : cntR G c (r + 1) = cntR G c r + G.wh c r := by simp [cntR, List.range_succ]
theorem cntC_succ (G : GE) (c : Nat) : cntC G (c + 1) = cntC G c + cntR G c (G.lv + 1) := by simp [cntC, List.range_succ]
theorem cntC_all (G : GE) : G.spots.length = cntC G G.nc := G.spots_len
theorem cntR_le (G : GE) (c : Nat) (h : ∀ r, G.wh c r ≤ 1) : ∀ r, cntR G c r ≤ r
  | 0 => by simp [cntR]
  | r + 1 => by rw [cntR_succ]; have := cntR_le G c h r; have := h r; omega
theorem cntC_le (G : GE) (hl : G.lv ≤ 5) : ∀ c, (∀ c' r, c' < c → G.wh c' r ≤ 1) → cntC G c ≤ c * 6
  | 0, _ => by simp [cntC]
  | c + 1, h => by
    rw [cntC_succ]
    have h1 := cntC_le G hl c (fun c' r hc => h c' r (by omega))
    have h2 := cntR_le G c (fun r => h c r (by omega)) (G.lv + 1)
    omega
end Go.Proofs.Ytejoedanhonpkaa
