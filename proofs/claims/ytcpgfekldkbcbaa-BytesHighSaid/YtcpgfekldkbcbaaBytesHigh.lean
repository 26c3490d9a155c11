/- The statement BytesHigh of chapter 1, walked. -/
import Derived.Test.YtcpgfekldkbcbaaBytesPut
set_option linter.unusedVariables false
namespace Go.Proofs.Ytcpgfekldkbcbaa
open Go.RowKit

set_option maxHeartbeats 1000000 in
theorem walk_bytesHigh (a0 : Int) (a1 : Int) (w : World) (w0 : (Lit.int .i64 a0).wf = true) (w1 : (Lit.int .i64 a1).wf = true) :
    Calls Try.prog 7 #[.int .i64 a0, .int .i64 a1] w fun e w' => e = .returned (.bool true) ∧ Below w.heap.size w w' := by
  have b0 := bd_i64 w0
  clear w0 w1
  go_enter Try.func7, Try.ntmps7
  go_wp2_with fail
  refine (known1 _).mono ?_
  rintro e w1 ⟨rfl, h1⟩
  go_wp2_with fail
  refine (some1 _ _ _ (by omega) (by omega)).mono ?_
  rintro e w' ⟨u, rfl, u0, u1, rfl⟩
  go_wp2_with fail
  refine (put_some none 0 0 [] _ (1 + u) a0 rfl (by simp) Lst.nil (by simp) (by omega) (by omega)).mono ?_
  rintro e w2 ⟨g, cap, rfl, hown, hb⟩
  have h2 : Below w.heap.size w w2 := h1.trans (hb.mono h1.size)
  clear h1 hb
  obtain ⟨s, hs⟩ : ∃ s : Nat, (s : Int) = 1 + u := ⟨(1 + u).toNat, by omega⟩
  rw [show (0 + (1 + u).toNat) = s from by omega, show (1 + u).toNat = s from by omega, List.nil_append] at hown
  have HS := Lib.hid hs
  have s0 : 1 ≤ s ∧ s ≤ 8 := by omega
  rw [← hs]
  clear hs
  go_wp2_with fail
  go_loop [6] (fun i => ∃ k : Nat, k ≤ s ∧ i = .int .i64 k) (fun i => s - (intOf i).toNat)
  case atStart => exact ⟨0, by omega, rfl⟩
  case round =>
    obtain ⟨k, k0, rfl⟩ := hrel
    by_cases hk : k < s
    · have hc : w2.cell? ⟨g, s - 1 - k, none⟩ = some (.int .u8 (a0 / 2 ^ (8 * k) % 256)) := by
        rw [hown.cellAt _ (by omega), List.getElem?_map, putL_get _ _ _ (by omega), show s - 1 - (s - 1 - k) = k from by omega]
        rfl
      have HO := Lib.hid hown
      clear hown
      have hq : (a0 / 2 ^ (8 * k) % 256 != IntKind.u64.wrap a0 / 2 ^ (8 * k) % 256) = false := by
        have e : IntKind.u64.wrap a0 = a0 % 18446744073709551616 := by simp [IntKind.wrap, IntKind.bits, IntKind.signed]
        rw [e, u64_byte a0 k (by omega)]
        simp
      go_wp2
      go_round
      case rel => exact ⟨k + 1, by omega, by go_num⟩
      case measure => simp [intOf]; omega
    · obtain rfl : k = s := by omega
      go_wp2
      go_ret
      exact ⟨rfl, h2⟩
end Go.Proofs.Ytcpgfekldkbcbaa
