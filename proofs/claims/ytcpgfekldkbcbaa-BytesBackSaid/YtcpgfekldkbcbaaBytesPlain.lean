/- Plain arithmetic for BytesBack: what was put is got. -/
import Derived.Test.YtcpgfekldkbcbaaBytesGet
set_option linter.unusedVariables false
namespace Go.Proofs.Ytcpgfekldkbcbaa
open Go.RowKit

theorem mask_nat (x j : Nat) : x &&& (2 ^ j - 1) = x % 2 ^ j := Nat.and_two_pow_sub_one_eq_mod x j
/-- A number of whatever sign, under a mask of ones. -/
theorem and_mask (m : Int) (j : Nat) (hj : j ≤ 62) : bits .and .i64 m (2 ^ j - 1) = m % 2 ^ j := by
  have hp : (2 : Nat) ^ j ≤ 2 ^ 62 := Nat.pow_le_pow_right (by decide) hj
  have hp1 : 1 ≤ (2 : Nat) ^ j := Nat.one_le_two_pow
  have e1 : ((2 : Int) ^ j - 1) = ((2 ^ j - 1 : Nat) : Int) := by
    rw [Int.ofNat_sub hp1]; simp
  show IntKind.i64.wrap ((BitVec.ofInt 64 m &&& BitVec.ofInt 64 ((2 : Int) ^ j - 1)).toNat : Int) = _
  have hb : (BitVec.ofInt 64 ((2 : Int) ^ j - 1)).toNat = 2 ^ j - 1 := by
    rw [e1, BitVec.ofInt_natCast, BitVec.toNat_ofNat]
    exact Nat.mod_eq_of_lt (by have : (2 : Nat) ^ 62 < 2 ^ 64 := by decide
                               omega)
  rw [BitVec.toNat_and, hb, mask_nat, BitVec.toNat_ofInt]
  have h64 : ((m % 2 ^ 64).toNat : Int) = m % 2 ^ 64 := Int.toNat_of_nonneg (Int.emod_nonneg _ (by decide))
  have hd : ((2 : Int) ^ j) ∣ 2 ^ 64 := ⟨2 ^ (64 - j), by rw [← Int.pow_add]; congr 1; omega⟩
  have e2 : (((m % ((2 ^ 64 : Nat) : Int)).toNat % 2 ^ j : Nat) : Int) = m % 2 ^ j := by
    rw [Int.natCast_emod, show (((2 ^ 64 : Nat)) : Int) = (2 : Int) ^ 64 from by decide, h64]
    rw [show ((2 ^ j : Nat) : Int) = (2 : Int) ^ j from by simp]
    exact Int.emod_emod_of_dvd m hd
  rw [e2]
  have p0 : (0 : Int) < 2 ^ j := by
    have : ((2 ^ j : Nat) : Int) = (2 : Int) ^ j := by simp
    omega
  have p1 : (2 : Int) ^ j ≤ 2 ^ 62 := by
    have : ((2 ^ j : Nat) : Int) = (2 : Int) ^ j := by simp
    have h2 : ((2 ^ 62 : Nat) : Int) = (2 : Int) ^ 62 := by decide
    omega
  have r0 := Int.emod_nonneg m (show (2 : Int) ^ j ≠ 0 by omega)
  have r1 := Int.emod_lt_of_pos m p0
  exact IntWalk.i64_in _ (by have : (2 : Int) ^ 62 = 4611686018427387904 := by decide
                             omega)

theorem put_rng (m : Int) (k : Nat) : ∀ x ∈ putL m k, 0 ≤ x ∧ x ≤ 255 := by
  induction k with
  | zero => simp [putL]
  | succ k ih =>
    intro x hx
    simp only [putL, List.mem_cons] at hx
    rcases hx with rfl | hx
    · omega
    · exact ih x hx

theorem emod_step (m P : Int) (hP : 1 ≤ P) : m / P % 256 * P + m % P = m % (P * 256) := by
  have d1 := Int.mul_ediv_add_emod m P
  have d2 := Int.mul_ediv_add_emod (m / P) 256
  have d3 := Int.mul_ediv_add_emod m (P * 256)
  have d4 : m / P / 256 = m / (P * 256) := Int.ediv_ediv_of_nonneg (by omega)
  rw [d4] at d2
  have e1 : m / P % 256 * P = P * (m / P) - P * 256 * (m / (P * 256)) := by
    rw [show m / P % 256 = m / P - 256 * (m / (P * 256)) from by omega, Int.sub_mul, Int.mul_comm (m / P) P, Int.mul_comm (256 * _) P, ← Int.mul_assoc]
  omega

theorem num_step (m : Int) : ∀ (k : Nat) (a : Int), 0 ≤ a → (a + 1) * 2 ^ (8 * k) ≤ 18446744073709551616 → numL a (putL m k) = a * 2 ^ (8 * k) + m % 2 ^ (8 * k) := by
  intro k
  induction k with
  | zero => intro a ha _; simp [putL, numL]
  | succ k ih =>
    intro a ha hb
    have hp : (1 : Int) ≤ 2 ^ (8 * k) := by
      have : ((2 ^ (8 * k) : Nat) : Int) = (2 : Int) ^ (8 * k) := by simp
      have := Nat.one_le_two_pow (n := 8 * k)
      omega
    have e8 : (2 : Int) ^ (8 * (k + 1)) = 2 ^ (8 * k) * 256 := by
      rw [show 8 * (k + 1) = 8 * k + 8 from by omega, Int.pow_add]; rfl
    rw [e8] at hb ⊢
    have hb' : (a + 1) * 256 * 2 ^ (8 * k) ≤ 18446744073709551616 := by
      rw [Int.mul_assoc, Int.mul_comm 256]; exact hb
    have ha2 : (a + 1) * 256 ≤ (a + 1) * 256 * 2 ^ (8 * k) := by
      have := Int.mul_le_mul_of_nonneg_left hp (show 0 ≤ (a + 1) * 256 by omega)
      omega
    have r0 := Int.emod_nonneg (m / 2 ^ (8 * k)) (show (256 : Int) ≠ 0 by omega)
    have r1 := Int.emod_lt_of_pos (m / 2 ^ (8 * k)) (show (0 : Int) < 256 by omega)
    have e0 : a * 256 % 18446744073709551616 = a * 256 := Int.emod_eq_of_lt (by omega) (by omega)
    show numL (a * 256 % 18446744073709551616 + m / 2 ^ (8 * k) % 256) (putL m k) = _
    rw [e0, ih _ (by omega) (by
      have := Int.mul_le_mul_of_nonneg_right (show a * 256 + m / 2 ^ (8 * k) % 256 + 1 ≤ (a + 1) * 256 by omega) (show (0 : Int) ≤ 2 ^ (8 * k) by omega)
      omega)]
    rw [Int.add_mul, Int.add_assoc, emod_step m _ hp, Int.mul_assoc, Int.mul_comm 256]
/-- What Get reads of what Put wrote. -/
theorem num_put (m : Int) (k : Nat) (h : k ≤ 8) : numL 0 (putL m k) = m % 2 ^ (8 * k) := by
  have hp : ((0 : Int) + 1) * 2 ^ (8 * k) ≤ 18446744073709551616 := by
    have h1 : ((2 ^ (8 * k) : Nat) : Int) = (2 : Int) ^ (8 * k) := by simp
    have h2 : (2 : Nat) ^ (8 * k) ≤ 2 ^ 64 := Nat.pow_le_pow_right (by decide) (by omega)
    have h3 : (2 : Nat) ^ 64 = 18446744073709551616 := by decide
    omega
  rw [num_step m k 0 (by omega) hp]
  omega
/-- As a number of 64 bits with a sign. -/
theorem got (m : Int) (k : Nat) (hk : 1 ≤ k ∧ k ≤ 8) (hm : -9223372036854775808 ≤ m ∧ m ≤ 9223372036854775807) :
    wrap64 (numL 0 (putL m k)) = if k < 8 then bits .and .i64 m (2 ^ (8 * k) - 1) else m := by
  rw [num_put m k hk.2]
  split
  · rw [and_mask m (8 * k) (by omega)]
    have h1 : ((2 ^ (8 * k) : Nat) : Int) = (2 : Int) ^ (8 * k) := by simp
    have h2 : (2 : Nat) ^ (8 * k) ≤ 2 ^ 56 := Nat.pow_le_pow_right (by decide) (by omega)
    have h3 : (2 : Nat) ^ 56 = 72057594037927936 := by decide
    have h4 := Nat.one_le_two_pow (n := 8 * k)
    have r0 := Int.emod_nonneg m (show (2 : Int) ^ (8 * k) ≠ 0 by omega)
    have r1 := Int.emod_lt_of_pos m (show (0 : Int) < 2 ^ (8 * k) by omega)
    exact IntWalk.wrap64_in _ (by omega)
  · obtain rfl : k = 8 := by omega
    rw [show (2 : Int) ^ (8 * 8) = 18446744073709551616 from rfl]
    unfold wrap64
    omega
end Go.Proofs.Ytcpgfekldkbcbaa
