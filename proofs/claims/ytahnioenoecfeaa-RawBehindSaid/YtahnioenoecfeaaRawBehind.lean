/- RawBehind, walked. -/
import Derived.Test.YtahnioenoecfeaaRawKnown
set_option linter.unusedVariables false
namespace Go.Proofs.Ytahnioenoecfeaa
open Go.RowKit

set_option maxHeartbeats 4000000 in
theorem walk_rawBehind (a0 : Option Addr) (len0 cap0 : Nat) (z0 : List Int) (a1 : Int) (w : World) (w0 : IsRow .u8 w a0 len0 cap0 z0) (w1 : (Lit.int .i64 a1).wf = true) :
    Calls Try.prog 9 #[.slice a0 len0 cap0, .int .i64 a1] w fun e w' => e = .returned (.bool true) ∧ Below w.heap.size w w' := by
  have hl := lst_of_row w0
  obtain ⟨hlen, hlc, hcm, hnil⟩ := row_len w0
  have hb8 := row_u8 w0
  clear w0 w1
  generalize hz : z0.take len0 = l at *
  clear hz
  have HL := Lib.hid hl
  have HLen := Lib.hid hlen
  have HNil := Lib.hid hnil
  have HB8 := Lib.hid (byteAt_rng hb8)
  clear hl hlen hnil hb8
  by_cases c : len0 ≤ 50
  · go_enter Try.func9, Try.ntmps9
    go_wp2_with fail
    refine (known5 _).mono ?_
    rintro e w1 ⟨rfl, h1⟩
    have s1 := h1.size
    go_wp2_with fail
    refine (rnew_any HLen.out HNil.out ((HL.out.below h1).more s1) (by omega)).mono ?_
    rintro e w2 ⟨p, rfl, hp, hb2⟩
    have h2 : Below w.heap.size w w2 := h1.trans (hb2.mono s1)
    have HP := Lib.hid hp
    clear hb2 h1 hp
    go_wp2
    go_loopw [6] (fun i wr => ∃ (k : Nat) (r : Nat × Nat), k ≤ 8 * len0 ∧ i = .int .i64 (k : Int) ∧ Rr wr w1.heap.size p l r ∧ r.2 ≤ 8 ∧ r.1 ≤ k ∧ k + r.2 ≤ 8 * (r.1 + 1) ∧ Below w.heap.size w wr) (fun i _ => 8 * len0 - (intOf i).toNat)
    case atStart => exact ⟨0, (0, 8), by omega, rfl, HP.out, by simp, by simp, by simp, h2⟩
    case round =>
      obtain ⟨k, r, k8, rfl, hr, r2, r1, rk, hb⟩ := hrel
      clear h2 HP
      by_cases c1 : k < 8 * len0
      · have c2 : (k : Int) < 8 * (len0 : Int) := by omega
        have RU := Lib.hid (rstep_use (F := l) r2)
        have HR := Lib.hid hr
        clear hr
        go_wp2_with fail
        refine (rbit_any HR.out (by rw [HLen.out]; omega) (by omega) r2 HB8.out).mono ?_
        rintro e w3 ⟨rfl, h3, b3⟩
        have hb3 := hb.trans (b3.mono s1)
        have H3 := Lib.hid h3
        clear HR h3 b3 hb
        go_wp2
        go_roundw
        case rel => exact ⟨k + 1, rstep l r, by omega, by go_num, H3.out, by have := RU.out.1; omega, by have := RU.out.2.1; omega, by have := RU.out.2.2.1; omega, hb3⟩
        case measure => simp [intOf] <;> omega
      · obtain rfl : k = 8 * len0 := by omega
        have HR0 := Lib.hid hr
        clear hr
        have r1b : r.1 ≤ 400 := by omega
        by_cases m1 : a1 < 0
        · go_wp2
          go_loopw [7] (fun i wr2 => ∃ (j : Nat) (r : Nat × Nat), j ≤ 100 ∧ i = .int .i64 (j : Int) ∧ Rr wr2 w1.heap.size p l r ∧ r.2 ≤ 8 ∧ r.1 ≤ 400 + j ∧ 8 * len0 + r.2 ≤ 8 * (r.1 + 1) ∧ Below w.heap.size w wr2) (fun i _ => 100 - (intOf i).toNat)
          case atStart => exact ⟨0, r, by omega, rfl, HR0.out, r2, by omega, by omega, hb⟩
          case round =>
            obtain ⟨j, q, j1, rfl, hq, q2, q1, qk, hbq⟩ := hrel
            clear HR0 hb r2 r1b rk
            by_cases c3 : (j : Int) < 0
            · exact absurd c3 (by omega)
            · go_wp2
              go_ret
              exact ⟨rfl, hbq⟩
        · have m3 : (0 : Int) ≤ a1 := by omega
          by_cases m2 : 100 < a1
          · go_wp2
            go_loopw [7] (fun i wr2 => ∃ (j : Nat) (r : Nat × Nat), j ≤ 100 ∧ i = .int .i64 (j : Int) ∧ Rr wr2 w1.heap.size p l r ∧ r.2 ≤ 8 ∧ r.1 ≤ 400 + j ∧ 8 * len0 + r.2 ≤ 8 * (r.1 + 1) ∧ Below w.heap.size w wr2) (fun i _ => 100 - (intOf i).toNat)
            case atStart => exact ⟨0, r, by omega, rfl, HR0.out, r2, by omega, by omega, hb⟩
            case round =>
              obtain ⟨j, q, j1, rfl, hq, q2, q1, qk, hbq⟩ := hrel
              clear HR0 hb r2 r1b rk
              by_cases c3 : (j : Int) < 100
              · have j2 : j < 100 := by omega
                have RU := Lib.hid (rstep_use (F := l) q2)
                have OB := Lib.hid (ones_behind (F := l) q2 (by rw [HLen.out]; exact qk))
                have HQ := Lib.hid hq
                clear hq
                go_wp2_with fail
                refine (rbit_any HQ.out (by rw [HLen.out]; omega) (by omega) q2 HB8.out).mono ?_
                rintro e w3 ⟨rfl, h3, b3⟩
                rw [OB.out]
                have hb3 := hbq.trans (b3.mono s1)
                have H3 := Lib.hid h3
                clear HQ h3 b3 hbq
                go_wp2
                go_roundw
                case rel => exact ⟨j + 1, rstep l q, by omega, by go_num, H3.out, by have := RU.out.1; omega, by have := RU.out.2.1; omega, by have := RU.out.2.2.1; omega, hb3⟩
                case measure => simp [intOf] <;> omega
              · go_wp2
                go_ret
                exact ⟨rfl, hbq⟩
          · have m4 : a1 ≤ 100 := by omega
            go_wp2
            go_loopw [7] (fun i wr2 => ∃ (j : Nat) (r : Nat × Nat), j ≤ 100 ∧ i = .int .i64 (j : Int) ∧ Rr wr2 w1.heap.size p l r ∧ r.2 ≤ 8 ∧ r.1 ≤ 400 + j ∧ 8 * len0 + r.2 ≤ 8 * (r.1 + 1) ∧ Below w.heap.size w wr2) (fun i _ => 100 - (intOf i).toNat)
            case atStart => exact ⟨0, r, by omega, rfl, HR0.out, r2, by omega, by omega, hb⟩
            case round =>
              obtain ⟨j, q, j1, rfl, hq, q2, q1, qk, hbq⟩ := hrel
              clear HR0 hb r2 r1b rk
              by_cases c3 : (j : Int) < a1
              · have j2 : j < 100 := by omega
                have RU := Lib.hid (rstep_use (F := l) q2)
                have OB := Lib.hid (ones_behind (F := l) q2 (by rw [HLen.out]; exact qk))
                have HQ := Lib.hid hq
                clear hq
                go_wp2_with fail
                refine (rbit_any HQ.out (by rw [HLen.out]; omega) (by omega) q2 HB8.out).mono ?_
                rintro e w3 ⟨rfl, h3, b3⟩
                rw [OB.out]
                have hb3 := hbq.trans (b3.mono s1)
                have H3 := Lib.hid h3
                clear HQ h3 b3 hbq
                go_wp2
                go_roundw
                case rel => exact ⟨j + 1, rstep l q, by omega, by go_num, H3.out, by have := RU.out.1; omega, by have := RU.out.2.1; omega, by have := RU.out.2.2.1; omega, hb3⟩
                case measure => simp [intOf] <;> omega
              · go_wp2
                go_ret
                exact ⟨rfl, hbq⟩
  · go_enter Try.func9, Try.ntmps9
    go_wp2_with fail
    refine (known5 _).mono ?_
    rintro e w1 ⟨rfl, h1⟩
    go_wp2
    go_ret
    exact ⟨rfl, h1⟩
end Go.Proofs.Ytahnioenoecfeaa
