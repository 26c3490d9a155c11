/- The reference's sample and what its Draw refuses. -/
import Derived.Test.YtjmkkjgchgcleaaSkRows
import Derived.Test.YtjmkkjgchgcleaaSkChk
set_option linter.unusedVariables false
namespace Go.Proofs.Ytjmkkjgchgcleaa
open Go.RowKit

set_option maxHeartbeats 4000000 in
theorem rsample_any (kind i j c d : Int) (w : World) (hk : 0 ≤ kind) (hd : 1 ≤ d ∧ d ≤ 16) (hc : 0 ≤ c ∧ c ≤ 3) (hi : 0 ≤ i ∧ i ≤ 64) (hj : 0 ≤ j ∧ j ≤ 64) :
    Calls Try.prog 21 #[.int .i64 kind, .int .i64 i, .int .i64 j, .int .i64 c, .int .i64 d] w fun e w' => e = .returned (.int .i64 (smpF kind ((2 : Int) ^ d.toNat) c i j)) ∧ w' = w := by
  have hpd := pow_bd d (by omega) (by omega)
  have hsh : IntKind.i64.wrap ((2 : Int) ^ min (IntKind.u64.wrap d).toNat 64) = 2 ^ d.toNat := by
    rw [IntWalk.u64_in _ (by omega), show min d.toNat 64 = d.toNat from by omega]
    exact IntWalk.i64_in _ (by omega)
  have hsh2 : IntKind.i64.wrap ((2 : Int) ^ min d.toNat 64) = 2 ^ d.toNat := by
    rw [show min d.toNat 64 = d.toNat from by omega]
    exact IntWalk.i64_in _ (by omega)
  have hud : IntKind.u64.wrap d = d := IntWalk.u64_in _ (by omega)
  have hrb := raw_bd (m := (2 : Int) ^ d.toNat) (c := c) (i := i) (j := j) hk hpd hc hi hj
  obtain ⟨m, hm⟩ : ∃ m, (2 : Int) ^ d.toNat = m := ⟨_, rfl⟩
  rw [hm] at hpd hsh hsh2 hrb ⊢
  have hm0 : ¬ m = 0 := by omega
  have hw := wr_a hm hpd.1 hpd.2
  clear hm
  by_cases c0 : kind = 0
  · subst c0
    have E := Lib.hid (show rawF 0 m c i j = 7 + c from rfl)
    go_enter Try.func21, Try.ntmps21
    go_wp2
    go_ret
    exact ⟨ret_i64 (by unfold smpF; rw [E.out]), rfl⟩
  have b0 : (kind == 0) = false := by simpa using c0
  by_cases c1 : kind = 1
  · subst c1
    have E := Lib.hid (show rawF 1 m c i j = i + 2 * j + 3 * c from rfl)
    go_enter Try.func21, Try.ntmps21
    go_wp2
    go_ret
    exact ⟨ret_i64 (by unfold smpF; rw [E.out]), rfl⟩
  have b1 : (kind == 1) = false := by simpa using c1
  by_cases c2 : kind = 2
  · subst c2
    have E : Hid (rawF 2 m c i j = (m - 1) * ((i + j + c) % 2)) := Lib.hid rfl
    have h2 : 0 ≤ (i + j + c) % 2 ∧ (i + j + c) % 2 ≤ 1 := by omega
    have h3 : 0 ≤ (m - 1) * ((i + j + c) % 2) := Int.mul_nonneg (by omega) (by omega)
    have h4 : (m - 1) * ((i + j + c) % 2) ≤ 65536 * 1 := Int.mul_le_mul (by omega) (by omega) (by omega) (by omega)
    go_enter Try.func21, Try.ntmps21
    go_wp2
    go_ret
    exact ⟨ret_i64 (by unfold smpF; rw [E.out]), rfl⟩
  have b2 : (kind == 2) = false := by simpa using c2
  have E : Hid (rawF kind m c i j = bits .and .i64 ((1103515245 * (i + 64 * j + 4096 * c) + 12345) / 65536) 65535) := Lib.hid (by
    unfold rawF; rw [if_neg (by omega), if_neg (by omega), if_neg (by omega)])
  have hA := and_u16 ((1103515245 * (i + 64 * j + 4096 * c) + 12345) / 65536) (by omega) (by omega)
  go_enter Try.func21, Try.ntmps21
  go_wp2
  go_ret
  exact ⟨ret_i64 (by unfold smpF; rw [E.out]), rfl⟩
end Go.Proofs.Ytjmkkjgchgcleaa
