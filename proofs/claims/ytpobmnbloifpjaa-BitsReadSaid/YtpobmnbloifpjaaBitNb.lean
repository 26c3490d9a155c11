/- The reference's Reader of chapter 2: Bit, Bits, End, NewReader. -/
import Derived.Test.YtpobmnbloifpjaaBitN
set_option linter.unusedVariables false
namespace Go.Proofs.Ytpobmnbloifpjaa
open Go.RowKit

theorem rsnext_zero (F : List Int) (n : Nat) (bad : Bool) : ∃ t : Nat, (t = 6 ∨ t = 7) ∧ rsnext F ⟨n, 0, bad⟩ = ⟨n + 1, t, (xnext F ⟨n, 0, bad⟩).bad⟩ ∧ (xnext F ⟨n, 0, bad⟩).l = t + 1 := by
  unfold rsnext pstep xnext
  simp only [if_true, curF_next]
  by_cases h : curF F n = 255
  · exact ⟨6, Or.inl rfl, by simp [h], by simp [h]⟩
  · exact ⟨7, Or.inr rfl, by simp [h], by simp [h]⟩
theorem rsnext_more (F : List Int) (n l : Nat) (bad : Bool) : rsnext F ⟨n, l + 1, bad⟩ = ⟨n, l, bad⟩ := by
  unfold rsnext pstep
  simp

set_option maxHeartbeats 4000000 in
theorem qb_bit {w : World} {q B : Nat} {a0 : Option Addr} {cap0 : Nat} {F : List Int} {s : RS} (h : Qr w q a0 cap0 F s) (hL : Lst w B a0 (F.map (Value.int .u8))) (hB : B ≤ q) (hl : F.length ≤ 100000) (hn : s.n ≤ 90000) (hl8 : s.l ≤ 8) (hF : ∀ x ∈ F, 0 ≤ x ∧ x ≤ 255) :
    Calls Try.prog 23 #[.pointer (some ⟨q, 0, none⟩)] w fun e w' => e = .returned (.int .i64 (rsbit F s)) ∧ Qr w' q a0 cap0 F (rsnext F s) ∧ Only (· = q) w w' := by
  obtain ⟨n, l, bad⟩ := s
  simp only at hn hl8
  rcases l with _ | l
  · obtain ⟨l1, ht, hs, hx⟩ := rsnext_zero F n bad
    have hxr := curF_rng hF (n + 1)
    unfold rsbit
    rw [hs]
    have NX := Lib.hid (qnext_any h hL hB hl (by simp only; omega) (by simp only; omega) hF)
    have c3 := blk_cell h 3
    simp at c3
    unfold Qr at h ⊢
    simp only at h ⊢
    have HX := Lib.hid hx
    have hl1 : l1 ≤ 7 := by omega
    clear hs ht hx h hL hF
    have key : ∀ (x : Int) (n1 : Nat) (bad1 : Bool), x = curF F (n + 1) → n1 = n + 1 → bad1 = (xnext F ⟨n, 0, bad⟩).bad → Calls Try.prog 23 #[.pointer (some ⟨q, 0, none⟩)] w fun e w' => e = .returned (.int .i64 (x / 2 ^ l1 % 2)) ∧ w'.heap[q]? = some (.cells #[.slice a0 F.length cap0, .int .i64 (n1 : Int), .int .i64 x, .int .i64 (l1 : Int), .bool (decide (F.length < n1)), .bool bad1] 65 (0, 0)) ∧ Only (· = q) w w' := by
      intro x n1 bad1 hxe hn1e hbe
      rw [← hxe] at hxr
      have HXE := Lib.hid hxe
      have HNE := Lib.hid hn1e
      have HBE := Lib.hid hbe
      clear hxe hn1e hbe
      go_enter Try.func23, Try.ntmps23
      go_wp2_with fail
      refine NX.out.mono ?_
      rintro e w1 ⟨rfl, h1, B1⟩
      unfold Qr at h1
      have hb1 : w1.heap[q]? = some (.cells #[.slice a0 F.length cap0, .int .i64 (n1 : Int), .int .i64 x, .int .i64 ((l1 : Int) + 1), .bool (decide (F.length < n1)), .bool bad1] 65 (0, 0)) := by
        rw [h1, HX.out, show (xnext F ⟨n, 0, bad⟩).n = n + 1 from rfl, HXE.out, HNE.out, HBE.out]
        simp
      have HB1 := Lib.hid hb1
      clear h1 hb1 NX c3
      have hand := and_bit (x / 2 ^ l1)
      have HND := Lib.hid hand
      clear hand
      have c2 := blk_cell HB1.out 2
      have c3 := blk_cell HB1.out 3
      have z3 := blk_frozen HB1.out 3
      simp at c2 c3
      have hb2 := blk_set HB1.out 3 (.int .i64 (l1 : Int))
      have B2 := B1.setCell (p := ⟨q, 3, none⟩) (show q = q from rfl) (.int .i64 (l1 : Int))
      generalize hW2 : w1.setCell ⟨q, 3, none⟩ (.int .i64 (l1 : Int)) = W2 at *
      have hb2' : W2.heap[q]? = some (.cells #[.slice a0 F.length cap0, .int .i64 (n1 : Int), .int .i64 x, .int .i64 (l1 : Int), .bool (decide (F.length < n1)), .bool bad1] 65 (0, 0)) := hb2
      have t2 : W2.cell? ⟨q, 2, none⟩ = some (.int .i64 x) := blk_cell hb2' 2
      have t3 : W2.cell? ⟨q, 3, none⟩ = some (.int .i64 (l1 : Int)) := blk_cell hb2' 3
      have HB2 := Lib.hid hb2'
      clear hb2 hb2' HB1 B1
      go_wp2
      go_quiet (fail)
      go_wp2
      go_ret
      refine ⟨ret_i64 ?_, HB2.out, only_drewN B2 nq⟩
      exact HND.out
    exact key _ _ _ rfl rfl rfl
  · have hxr := curF_rng hF n
    unfold rsbit
    rw [rsnext_more]
    unfold Qr at h ⊢
    simp only at h ⊢
    generalize curF F n = x at *
    have HB1 : Hid (w.heap[q]? = some (.cells #[.slice a0 F.length cap0, .int .i64 (n : Int), .int .i64 x, .int .i64 ((l : Int) + 1), .bool (decide (F.length < n)), .bool bad] 65 (0, 0))) := Lib.hid (by rw [h]; simp)
    have B1 : Only (· = q) w w := Only.refl _ _
    have hne : ((l : Int) + 1 == 0) = false := by simp; omega
    have c3 := blk_cell HB1.out 3
    simp at c3
    clear h hL hF
    have hand := and_bit (x / 2 ^ l)
    have HND := Lib.hid hand
    clear hand
    go_enter Try.func23, Try.ntmps23
    have c2 := blk_cell HB1.out 2
    have c3 := blk_cell HB1.out 3
    have z3 := blk_frozen HB1.out 3
    simp at c2 c3
    have hb2 := blk_set HB1.out 3 (.int .i64 (l : Int))
    have B2 := B1.setCell (p := ⟨q, 3, none⟩) (show q = q from rfl) (.int .i64 (l : Int))
    generalize hW2 : w.setCell ⟨q, 3, none⟩ (.int .i64 (l : Int)) = W2 at *
    have hb2' : W2.heap[q]? = some (.cells #[.slice a0 F.length cap0, .int .i64 (n : Int), .int .i64 x, .int .i64 (l : Int), .bool (decide (F.length < n)), .bool bad] 65 (0, 0)) := hb2
    have t2 : W2.cell? ⟨q, 2, none⟩ = some (.int .i64 x) := blk_cell hb2' 2
    have t3 : W2.cell? ⟨q, 3, none⟩ = some (.int .i64 (l : Int)) := blk_cell hb2' 3
    have HB2 := Lib.hid hb2'
    clear hb2 hb2' HB1 B1
    go_wp2
    go_quiet (fail)
    go_wp2
    go_ret
    refine ⟨ret_i64 ?_, HB2.out, only_drewN B2 nq⟩
    exact HND.out

set_option maxHeartbeats 4000000 in
theorem qb_bits {w : World} {q B : Nat} {a0 : Option Addr} {cap0 : Nat} {F : List Int} {s : RS} {size : Nat} (h : Qr w q a0 cap0 F s) (hL : Lst w B a0 (F.map (Value.int .u8))) (hB : B ≤ q) (hl : F.length ≤ 100000) (h1 : s.n ≤ 80000) (h2 : s.l ≤ 8) (hF : ∀ x ∈ F, 0 ≤ x ∧ x ≤ 255) (hs1 : 1 ≤ size) (hs2 : size ≤ 32) :
    Calls Try.prog 25 #[.pointer (some ⟨q, 0, none⟩), .int .i64 (size : Int)] w fun e w' => e = .returned (.int .i64 (rbgo F s size).2) ∧ Qr w' q a0 cap0 F (rbgo F s size).1 ∧ Only (· = q) w w' := by
  have H := Lib.hid h
  have HF := Lib.hid hF
  have HL := Lib.hid hL
  clear h hF hL
  have z1 : ¬ (size : Int) < 1 := by omega
  have z2 : ¬ (32 : Int) < (size : Int) := by omega
  go_enter Try.func25, Try.ntmps25
  go_wp2
  go_loopw [5, 6] (fun v i wr => ∃ k : Nat, k ≤ size ∧ i = .int .i64 (k : Int) ∧ v = .int .i64 (rbgo F s k).2 ∧ Qr wr q a0 cap0 F (rbgo F s k).1 ∧ Only (· = q) w wr) (fun _ i _ => size - (intOf i).toNat)
  case atStart => exact ⟨0, by omega, rfl, rfl, H.out, Only.refl _ _⟩
  case round =>
    obtain ⟨k, hk, rfl, rfl, hr, ho⟩ := hrel
    clear H
    have hrg := rbgo_rng F s h2 k
    have hbr := rsbit_rng F (rbgo F s k).1
    by_cases c : k < size
    · have ci : (k : Int) < (size : Int) := by omega
      have hv : (rbgo F s k).2 < 4294967296 := by
        have := pow_le' (m := k) (n := 32) (by omega)
        have e : (2 : Int) ^ 32 = 4294967296 := by decide
        omega
      have hstep : Hid (rbgo F s (k + 1) = (rsnext F (rbgo F s k).1, 2 * (rbgo F s k).2 + rsbit F (rbgo F s k).1)) := rfl
      generalize rbgo F s k = r at *
      obtain ⟨t, v⟩ := r
      simp only at hr hrg hbr hv hstep
      have HR := Lib.hid hr
      have w2v : IntKind.i64.wrap (v * 2) = v * 2 := IntWalk.i64_in _ (by omega)
      have hor := or_bit v (rsbit F t) hrg.2.2.1 (by omega) hbr.1 hbr.2
      have hL2 : Hid (Lst wr B a0 (F.map (Value.int .u8))) := Lib.hid (HL.out.keep fun p hp => ho.cell (by omega))
      clear hr
      go_wp2_with fail
      refine (qb_bit HR.out hL2.out hB hl (by omega) hrg.1 HF.out).mono ?_
      rintro e w3 ⟨rfl, h3, o3⟩
      have H3 := Lib.hid h3
      have o4 := ho.trans o3
      clear h3 o3 HR hL2
      generalize rsbit F t = b at *
      go_wp2
      go_roundw
      case rel => exact ⟨k + 1, by omega, by go_num, by rw [hstep.out, ← hor], by rw [hstep.out]; exact H3.out, o4⟩
      case measure => simp [intOf] <;> omega
    · obtain rfl : k = size := by omega
      have HR := Lib.hid hr
      clear hr
      go_wp2
      go_ret
      exact ⟨rfl, HR.out, ho⟩
set_option maxHeartbeats 1000000 in
theorem qb_none {w : World} {p : Nat} {size : Int} (h : size < 1 ∨ 32 < size) :
    Calls Try.prog 25 #[.pointer (some ⟨p, 0, none⟩), .int .i64 size] w fun e w' => e = .returned (.int .i64 0) ∧ w = w' := by
  rcases h with h | h
  · go_enter Try.func25, Try.ntmps25
    go_wp2
    go_ret
    exact ⟨rfl, rfl⟩
  · have h' : ¬ size < 1 := by omega
    go_enter Try.func25, Try.ntmps25
    go_wp2
    go_ret
    exact ⟨rfl, rfl⟩
set_option maxHeartbeats 1000000 in
theorem qbnew_any {A : Option Addr} {c : Nat} {F : List Int} {w : World} :
    Calls Try.prog 21 #[.slice A F.length c] w fun e w' => ∃ q, e = .returned (.pointer (some ⟨q, 0, none⟩)) ∧ w.heap.size ≤ q ∧ Qr w' q A c F ⟨0, 0, false⟩ ∧ Below w.heap.size w w' := by
  go_enter Try.func21, Try.ntmps21
  go_wp2
  go_ret
  exact ⟨_, rfl, Nat.le_refl _, heap_alloc_new w _, (Below.refl _ _).alloc (Nat.le_refl _) _⟩
end Go.Proofs.Ytpobmnbloifpjaa
