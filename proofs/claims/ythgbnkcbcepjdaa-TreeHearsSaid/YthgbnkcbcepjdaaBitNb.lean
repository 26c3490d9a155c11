/- The reference's Reader of chapter 2: Bit, Bits, End, NewReader. -/
import Derived.Test.YthgbnkcbcepjdaaBitN
set_option linter.unusedVariables false
namespace Go.Proofs.Ythgbnkcbcepjdaa
open Go.RowKit

theorem rsnext_zero (F : List Int) (n : Nat) (bad : Bool) : ∃ t : Nat, (t = 6 ∨ t = 7) ∧ rsnext F ⟨n, 0, bad⟩ = ⟨n + 1, t, (xnext F ⟨n, 0, bad⟩).bad⟩ ∧ (xnext F ⟨n, 0, bad⟩).l = t + 1 := by
  unfold rsnext pstep xnext
  simp only [if_true, curF_next]
  by_cases h : curF F n = 255
  · exact ⟨6, Or.inl rfl, by simp [h], by simp [h]⟩
  · exact ⟨7, Or.inr rfl, by simp [h], by simp [h]⟩
theorem rsnext_more (F : List Int) (n l : Nat) (bad : Bool) : rsnext F ⟨n, l + 1, bad⟩ = ⟨n, l, bad⟩ := by
  unfold rsnext pstep
  simp

set_option maxHeartbeats 4000000 in
theorem qb_bit {w : World} {q B : Nat} {a0 : Option Addr} {cap0 : Nat} {F : List Int} {s : RS} (h : Qr w q a0 cap0 F s) (hL : Lst w B a0 (F.map (Value.int .u8))) (hB : B ≤ q) (hl : F.length ≤ 100000) (hn : s.n ≤ 90000) (hl8 : s.l ≤ 8) (hF : ∀ x ∈ F, 0 ≤ x ∧ x ≤ 255) :
    Calls Try.prog 30 #[.pointer (some ⟨q, 0, none⟩)] w fun e w' => e = .returned (.int .i64 (rsbit F s)) ∧ Qr w' q a0 cap0 F (rsnext F s) ∧ Only (· = q) w w' := by
  obtain ⟨n, l, bad⟩ := s
  simp only at hn hl8
  rcases l with _ | l
  · obtain ⟨l1, ht, hs, hx⟩ := rsnext_zero F n bad
    have hxr := curF_rng hF (n + 1)
    unfold rsbit
    rw [hs]
    have NX := Lib.hid (qnext_any h hL hB hl (by simp only; omega) (by simp only; omega) hF)
    have c3 := blk_cell h 3
    simp at c3
    unfold Qr at h ⊢
    simp only at h ⊢
    have HX := Lib.hid hx
    have hl1 : l1 ≤ 7 := by omega
    clear hs ht hx h hL hF
    have key : ∀ (x : Int) (n1 : Nat) (bad1 : Bool), x = curF F (n + 1) → n1 = n + 1 → bad1 = (xnext F ⟨n, 0, bad⟩).bad → Calls Try.prog 30 #[.pointer (some ⟨q, 0, none⟩)] w fun e w' => e = .returned (.int .i64 (x / 2 ^ l1 % 2)) ∧ w'.heap[q]? = some (.cells #[.slice a0 F.length cap0, .int .i64 (n1 : Int), .int .i64 x, .int .i64 (l1 : Int), .bool (decide (F.length < n1)), .bool bad1] 75 (0, 0)) ∧ Only (· = q) w w' := by
      intro x n1 bad1 hxe hn1e hbe
      rw [← hxe] at hxr
      have HXE := Lib.hid hxe
      have HNE := Lib.hid hn1e
      have HBE := Lib.hid hbe
      clear hxe hn1e hbe
      go_enter Try.func30, Try.ntmps30
      go_wp2_with fail
      refine NX.out.mono ?_
      rintro e w1 ⟨rfl, h1, B1⟩
      unfold Qr at h1
      have hb1 : w1.heap[q]? = some (.cells #[.slice a0 F.length cap0, .int .i64 (n1 : Int), .int .i64 x, .int .i64 ((l1 : Int) + 1), .bool (decide (F.length < n1)), .bool bad1] 75 (0, 0)) := by
        rw [h1, HX.out, show (xnext F ⟨n, 0, bad⟩).n = n + 1 from rfl, HXE.out, HNE.out, HBE.out]
        simp
      have HB1 := Lib.hid hb1
      clear h1 hb1 NX c3
      have hand := and_bit (x / 2 ^ l1)
      have HND := Lib.hid hand
      clear hand
      have c2 := blk_cell HB1.out 2
      have c3 := blk_cell HB1.out 3
      have z3 := blk_frozen HB1.out 3
      simp at c2 c3
      have hb2 := blk_set HB1.out 3 (.int .i64 (l1 : Int))
      have B2 := B1.setCell (p := ⟨q, 3, none⟩) (show q = q from rfl) (.int .i64 (l1 : Int))
      generalize hW2 : w1.setCell ⟨q, 3, none⟩ (.int .i64 (l1 : Int)) = W2 at *
      have hb2' : W2.heap[q]? = some (.cells #[.slice a0 F.length cap0, .int .i64 (n1 : Int), .int .i64 x, .int .i64 (l1 : Int), .bool (decide (F.length < n1)), .bool bad1] 75 (0, 0)) := hb2
      have t2 : W2.cell? ⟨q, 2, none⟩ = some (.int .i64 x) := blk_cell hb2' 2
      have t3 : W2.cell? ⟨q, 3, none⟩ = some (.int .i64 (l1 : Int)) := blk_cell hb2' 3
      have HB2 := Lib.hid hb2'
      clear hb2 hb2' HB1 B1
      go_wp2
      go_quiet (fail)
      go_wp2
      go_ret
      refine ⟨ret_i64 ?_, HB2.out, only_drewN B2 nq⟩
      exact HND.out
    exact key _ _ _ rfl rfl rfl
  · have hxr := curF_rng hF n
    unfold rsbit
    rw [rsnext_more]
    unfold Qr at h ⊢
    simp only at h ⊢
    generalize curF F n = x at *
    have HB1 : Hid (w.heap[q]? = some (.cells #[.slice a0 F.length cap0, .int .i64 (n : Int), .int .i64 x, .int .i64 ((l : Int) + 1), .bool (decide (F.length < n)), .bool bad] 75 (0, 0))) := Lib.hid (by rw [h]; simp)
    have B1 : Only (· = q) w w := Only.refl _ _
    have hne : ((l : Int) + 1 == 0) = false := by simp; omega
    have c3 := blk_cell HB1.out 3
    simp at c3
    clear h hL hF
    have hand := and_bit (x / 2 ^ l)
    have HND := Lib.hid hand
    clear hand
    go_enter Try.func30, Try.ntmps30
    have c2 := blk_cell HB1.out 2
    have c3 := blk_cell HB1.out 3
    have z3 := blk_frozen HB1.out 3
    simp at c2 c3
    have hb2 := blk_set HB1.out 3 (.int .i64 (l : Int))
    have B2 := B1.setCell (p := ⟨q, 3, none⟩) (show q = q from rfl) (.int .i64 (l : Int))
    generalize hW2 : w.setCell ⟨q, 3, none⟩ (.int .i64 (l : Int)) = W2 at *
    have hb2' : W2.heap[q]? = some (.cells #[.slice a0 F.length cap0, .int .i64 (n : Int), .int .i64 x, .int .i64 (l : Int), .bool (decide (F.length < n)), .bool bad] 75 (0, 0)) := hb2
    have t2 : W2.cell? ⟨q, 2, none⟩ = some (.int .i64 x) := blk_cell hb2' 2
    have t3 : W2.cell? ⟨q, 3, none⟩ = some (.int .i64 (l : Int)) := blk_cell hb2' 3
    have HB2 := Lib.hid hb2'
    clear hb2 hb2' HB1 B1
    go_wp2
    go_quiet (fail)
    go_wp2
    go_ret
    refine ⟨ret_i64 ?_, HB2.out, only_drewN B2 nq⟩
    exact HND.out

set_option maxHeartbeats 1000000 in
theorem qbnew_any {A : Option Addr} {c : Nat} {F : List Int} {w : World} :
    Calls Try.prog 13 #[.slice A F.length c] w fun e w' => ∃ q, e = .returned (.pointer (some ⟨q, 0, none⟩)) ∧ w.heap.size ≤ q ∧ Qr w' q A c F ⟨0, 0, false⟩ ∧ Below w.heap.size w w' := by
  go_enter Try.func13, Try.ntmps13
  go_wp2
  go_ret
  exact ⟨_, rfl, Nat.le_refl _, heap_alloc_new w _, (Below.refl _ _).alloc (Nat.le_refl _) _⟩
end Go.Proofs.Ythgbnkcbcepjdaa
