/- The reference's Reader of chapter 2, by its contracts. -/
import Derived.Test.YthgbnkcbcepjdaaBitQ
import Derived.Test.YthgbnkcbcepjdaaBitStuf
set_option linter.unusedVariables false
namespace Go.Proofs.Ythgbnkcbcepjdaa
open Go.RowKit

/-- Block q is such a Reader of the bytes F, which lie where they lay. -/
def Qr (w : World) (q : Nat) (a0 : Option Addr) (cap0 : Nat) (F : List Int) (s : RS) : Prop :=
  w.heap[q]? = some (.cells #[.slice a0 F.length cap0, .int .i64 (s.n : Int), .int .i64 (curF F s.n), .int .i64 (s.l : Int), .bool (decide (F.length < s.n)), .bool s.bad] 75 (0, 0))
theorem Qr.drew {w : World} {q : Nat} {a0 : Option Addr} {cap0 : Nat} {F : List Int} {s : RS} (h : Qr w q a0 cap0 F s) (n : Nat) : Qr (w.drewN n) q a0 cap0 F s := h
theorem curF_next (F : List Int) (n : Nat) : curF F (n + 1) = F.getD n 0 := by
  unfold curF; rw [if_neg (by omega)]; rfl
/-- A byte is begun. -/
def xnext (F : List Int) (s : RS) : RS := ⟨s.n + 1, if curF F s.n = 255 then 7 else 8, s.bad || (decide (curF F s.n = 255) && decide (128 ≤ F.getD s.n 0))⟩

set_option maxHeartbeats 4000000 in
theorem qnext_any {w : World} {q B : Nat} {a0 : Option Addr} {cap0 : Nat} {F : List Int} {s : RS} (h : Qr w q a0 cap0 F s) (hL : Lst w B a0 (F.map (Value.int .u8))) (hB : B ≤ q) (hl : F.length ≤ 100000) (hn : s.n ≤ 100000) (hl8 : s.l ≤ 8) (hF : ∀ x ∈ F, 0 ≤ x ∧ x ≤ 255) :
    Calls Try.prog 36 #[.pointer (some ⟨q, 0, none⟩)] w fun e w' => e = .returned (.tuple #[]) ∧ Qr w' q a0 cap0 F (xnext F s) ∧ Only (· = q) w w' := by
  obtain ⟨n, l, bad⟩ := s
  unfold Qr xnext at *
  simp only at h hn hl8 ⊢
  rw [curF_next]
  by_cases hlen : n < F.length
  · obtain ⟨b, o, rfl, hbb, f1⟩ := lst_at hL (k := n) hlen
    have hbq : b < q := by omega
    have hyr := hF (F.getD n 0) (by rw [List.getD_eq_getElem?_getD, List.getElem?_eq_getElem hlen]; exact List.getElem_mem _)
    generalize F.getD n 0 = y at *
    have hli : (n : Int) < (F.length : Int) := by omega
    have e1 : decide (F.length < n + 1) = false := decide_eq_false (by omega)
    have e2 : decide (F.length < n) = false := decide_eq_false (by omega)
    rw [e1]
    rw [e2] at h
    clear e1 e2 hF hL
    by_cases h255 : curF F n = 255
    · rw [h255] at h
      have hn0 : (0 : Int) < (n : Int) := by
        rcases Nat.eq_zero_or_pos n with e | e
        · subst e; exact absurd h255 (by rw [show curF F 0 = 0 from rfl]; decide)
        · omega
      rw [if_pos h255, h255]
      clear h255
      cases bad
      · have K : ∀ b', b' = decide (128 ≤ y) → Calls Try.prog 36 #[.pointer (some ⟨q, 0, none⟩)] w fun e w' => e = .returned (.tuple #[]) ∧ w'.heap[q]? = some (.cells #[.slice (some ⟨b, o, none⟩) F.length cap0, .int .i64 ((n + 1 : Nat) : Int), .int .i64 y, .int .i64 ((7 : Nat) : Int), .bool false, .bool b'] 75 (0, 0)) ∧ Only (· = q) w w' := by
          rintro _ rfl
          have HB := Lib.hid h
          clear h
          have HB0 : Hid (w.heap[q]? = some (.cells #[.slice (some ⟨b, o, none⟩) F.length cap0, .int .i64 (n : Int), .int .i64 255, .int .i64 (l : Int), .bool false, .bool false] 75 (0, 0))) := HB
          have B0 : Only (· = q) w w := Only.refl _ _
          have q1 := blk_cell HB0.out 1
          have q2 := blk_cell HB0.out 2
          simp at q1 q2
          clear HB
          have e0c := blk_cell HB0.out 2
          have e0z := blk_frozen HB0.out 2
          simp at e0c
          have e0b := blk_set HB0.out 2 (.int .i64 0)
          have B1 := B0.setCell (p := ⟨q, 2, none⟩) (show q = q from rfl) (.int .i64 0)
          generalize e0w : w.setCell ⟨q, 2, none⟩ (.int .i64 0) = W1 at *
          have HB1 : Hid (W1.heap[q]? = some (.cells #[.slice (some ⟨b, o, none⟩) F.length cap0, .int .i64 (n : Int), .int .i64 0, .int .i64 (l : Int), .bool false, .bool false] 75 (0, 0))) := e0b
          clear e0b HB0 B0
          have e1c := blk_cell HB1.out 3
          have e1z := blk_frozen HB1.out 3
          simp at e1c
          have e1b := blk_set HB1.out 3 (.int .i64 8)
          have B2 := B1.setCell (p := ⟨q, 3, none⟩) (show q = q from rfl) (.int .i64 8)
          generalize e1w : W1.setCell ⟨q, 3, none⟩ (.int .i64 8) = W2 at *
          have HB2 : Hid (W2.heap[q]? = some (.cells #[.slice (some ⟨b, o, none⟩) F.length cap0, .int .i64 (n : Int), .int .i64 0, .int .i64 8, .bool false, .bool false] 75 (0, 0))) := e1b
          clear e1b HB1 B1
          have r0 := blk_cell HB2.out 0
          have r1 := blk_cell HB2.out 1
          simp at r0 r1
          go_enter Try.func36, Try.ntmps36
          go_wp2
          go_quiet (fail)
          obtain ⟨W3, hW3⟩ : ∃ W3, W2.drewN nq = W3 := ⟨_, rfl⟩
          have HB3 : Hid (W3.heap[q]? = some (.cells #[.slice (some ⟨b, o, none⟩) F.length cap0, .int .i64 (n : Int), .int .i64 0, .int .i64 8, .bool false, .bool false] 75 (0, 0))) := by rw [← hW3]; exact HB2.out
          have B3 : Only (· = q) w W3 := by rw [← hW3]; exact only_drewN B2 nq
          rw [hW3]
          clear hW3 HB2 B2 r0 r1
          have r0 := blk_cell HB3.out 0
          have r1 := blk_cell HB3.out 1
          simp at r0 r1
          have f3 : W3.cell? ⟨b, o + n, none⟩ = some (.int .u8 y) := (B3.cell (p := ⟨b, o + n, none⟩) (by show ¬ b = q; omega)).trans f1
          go_wp2
          refine wp_region_still_tail 14 (by kernel_rfl) (by kernel_rfl) ?_
          simp only [List.take_succ_cons, List.take_zero, List.drop_succ_cons, List.drop_zero]
          repeat still_step
          refine wpStill_nil ?_
          change wpList _ _ _ _ _ W3.drew
          have HB4 : Hid (W3.drew.heap[q]? = some (.cells #[.slice (some ⟨b, o, none⟩) F.length cap0, .int .i64 (n : Int), .int .i64 0, .int .i64 8, .bool false, .bool false] 75 (0, 0))) := HB3.out
          have B4 : Only (· = q) w W3.drew := only_drewN B3 1
          clear HB3 B3 r0 r1 f3
          generalize W3.drew = W4 at *
          have e4c := blk_cell HB4.out 2
          have e4z := blk_frozen HB4.out 2
          simp at e4c
          have e4b := blk_set HB4.out 2 (.int .i64 y)
          have B5 := B4.setCell (p := ⟨q, 2, none⟩) (show q = q from rfl) (.int .i64 y)
          generalize e4w : W4.setCell ⟨q, 2, none⟩ (.int .i64 y) = W5 at *
          have HB5 : Hid (W5.heap[q]? = some (.cells #[.slice (some ⟨b, o, none⟩) F.length cap0, .int .i64 (n : Int), .int .i64 y, .int .i64 8, .bool false, .bool false] 75 (0, 0))) := e4b
          clear e4b HB4 B4
          have p1 := blk_cell HB5.out 1
          simp at p1
          have e5c := blk_cell HB5.out 1
          have e5z := blk_frozen HB5.out 1
          simp at e5c
          have e5b := blk_set HB5.out 1 (.int .i64 ((n : Int) + 1))
          have B6 := B5.setCell (p := ⟨q, 1, none⟩) (show q = q from rfl) (.int .i64 ((n : Int) + 1))
          generalize e5w : W5.setCell ⟨q, 1, none⟩ (.int .i64 ((n : Int) + 1)) = W6 at *
          have HB6 : Hid (W6.heap[q]? = some (.cells #[.slice (some ⟨b, o, none⟩) F.length cap0, .int .i64 ((n : Int) + 1), .int .i64 y, .int .i64 8, .bool false, .bool false] 75 (0, 0))) := e5b
          clear e5b HB5 B5
          have e6c := blk_cell HB6.out 3
          have e6z := blk_frozen HB6.out 3
          simp at e6c
          have e6b := blk_set HB6.out 3 (.int .i64 7)
          have B7 := B6.setCell (p := ⟨q, 3, none⟩) (show q = q from rfl) (.int .i64 7)
          generalize e6w : W6.setCell ⟨q, 3, none⟩ (.int .i64 7) = W7 at *
          have HB7 : Hid (W7.heap[q]? = some (.cells #[.slice (some ⟨b, o, none⟩) F.length cap0, .int .i64 ((n : Int) + 1), .int .i64 y, .int .i64 7, .bool false, .bool false] 75 (0, 0))) := e6b
          clear e6b HB6 B6
          have t5 := blk_cell HB7.out 5
          have t2 := blk_cell HB7.out 2
          simp at t5 t2
          have e7c := blk_cell HB7.out 5
          have e7z := blk_frozen HB7.out 5
          simp at e7c
          have e7b := blk_set HB7.out 5 (.bool (decide (128 ≤ y)))
          have B8 := B7.setCell (p := ⟨q, 5, none⟩) (show q = q from rfl) (.bool (decide (128 ≤ y)))
          generalize e7w : W7.setCell ⟨q, 5, none⟩ (.bool (decide (128 ≤ y))) = W8 at *
          have HB8 : Hid (W8.heap[q]? = some (.cells #[.slice (some ⟨b, o, none⟩) F.length cap0, .int .i64 ((n : Int) + 1), .int .i64 y, .int .i64 7, .bool false, .bool (decide (128 ≤ y))] 75 (0, 0))) := e7b
          clear e7b HB7 B7
          go_wp2
          go_end0
          exact ⟨rfl, HB8.out, B8⟩
        exact K _ (by simp)
      · have K : ∀ b', b' = true → Calls Try.prog 36 #[.pointer (some ⟨q, 0, none⟩)] w fun e w' => e = .returned (.tuple #[]) ∧ w'.heap[q]? = some (.cells #[.slice (some ⟨b, o, none⟩) F.length cap0, .int .i64 ((n + 1 : Nat) : Int), .int .i64 y, .int .i64 ((7 : Nat) : Int), .bool false, .bool b'] 75 (0, 0)) ∧ Only (· = q) w w' := by
          rintro _ rfl
          have HB := Lib.hid h
          clear h
          have HB0 : Hid (w.heap[q]? = some (.cells #[.slice (some ⟨b, o, none⟩) F.length cap0, .int .i64 (n : Int), .int .i64 255, .int .i64 (l : Int), .bool false, .bool true] 75 (0, 0))) := HB
          have B0 : Only (· = q) w w := Only.refl _ _
          have q1 := blk_cell HB0.out 1
          have q2 := blk_cell HB0.out 2
          simp at q1 q2
          clear HB
          have e0c := blk_cell HB0.out 2
          have e0z := blk_frozen HB0.out 2
          simp at e0c
          have e0b := blk_set HB0.out 2 (.int .i64 0)
          have B1 := B0.setCell (p := ⟨q, 2, none⟩) (show q = q from rfl) (.int .i64 0)
          generalize e0w : w.setCell ⟨q, 2, none⟩ (.int .i64 0) = W1 at *
          have HB1 : Hid (W1.heap[q]? = some (.cells #[.slice (some ⟨b, o, none⟩) F.length cap0, .int .i64 (n : Int), .int .i64 0, .int .i64 (l : Int), .bool false, .bool true] 75 (0, 0))) := e0b
          clear e0b HB0 B0
          have e1c := blk_cell HB1.out 3
          have e1z := blk_frozen HB1.out 3
          simp at e1c
          have e1b := blk_set HB1.out 3 (.int .i64 8)
          have B2 := B1.setCell (p := ⟨q, 3, none⟩) (show q = q from rfl) (.int .i64 8)
          generalize e1w : W1.setCell ⟨q, 3, none⟩ (.int .i64 8) = W2 at *
          have HB2 : Hid (W2.heap[q]? = some (.cells #[.slice (some ⟨b, o, none⟩) F.length cap0, .int .i64 (n : Int), .int .i64 0, .int .i64 8, .bool false, .bool true] 75 (0, 0))) := e1b
          clear e1b HB1 B1
          have r0 := blk_cell HB2.out 0
          have r1 := blk_cell HB2.out 1
          simp at r0 r1
          go_enter Try.func36, Try.ntmps36
          go_wp2
          go_quiet (fail)
          obtain ⟨W3, hW3⟩ : ∃ W3, W2.drewN nq = W3 := ⟨_, rfl⟩
          have HB3 : Hid (W3.heap[q]? = some (.cells #[.slice (some ⟨b, o, none⟩) F.length cap0, .int .i64 (n : Int), .int .i64 0, .int .i64 8, .bool false, .bool true] 75 (0, 0))) := by rw [← hW3]; exact HB2.out
          have B3 : Only (· = q) w W3 := by rw [← hW3]; exact only_drewN B2 nq
          rw [hW3]
          clear hW3 HB2 B2 r0 r1
          have r0 := blk_cell HB3.out 0
          have r1 := blk_cell HB3.out 1
          simp at r0 r1
          have f3 : W3.cell? ⟨b, o + n, none⟩ = some (.int .u8 y) := (B3.cell (p := ⟨b, o + n, none⟩) (by show ¬ b = q; omega)).trans f1
          go_wp2
          refine wp_region_still_tail 14 (by kernel_rfl) (by kernel_rfl) ?_
          simp only [List.take_succ_cons, List.take_zero, List.drop_succ_cons, List.drop_zero]
          repeat still_step
          refine wpStill_nil ?_
          change wpList _ _ _ _ _ W3.drew
          have HB4 : Hid (W3.drew.heap[q]? = some (.cells #[.slice (some ⟨b, o, none⟩) F.length cap0, .int .i64 (n : Int), .int .i64 0, .int .i64 8, .bool false, .bool true] 75 (0, 0))) := HB3.out
          have B4 : Only (· = q) w W3.drew := only_drewN B3 1
          clear HB3 B3 r0 r1 f3
          generalize W3.drew = W4 at *
          have e4c := blk_cell HB4.out 2
          have e4z := blk_frozen HB4.out 2
          simp at e4c
          have e4b := blk_set HB4.out 2 (.int .i64 y)
          have B5 := B4.setCell (p := ⟨q, 2, none⟩) (show q = q from rfl) (.int .i64 y)
          generalize e4w : W4.setCell ⟨q, 2, none⟩ (.int .i64 y) = W5 at *
          have HB5 : Hid (W5.heap[q]? = some (.cells #[.slice (some ⟨b, o, none⟩) F.length cap0, .int .i64 (n : Int), .int .i64 y, .int .i64 8, .bool false, .bool true] 75 (0, 0))) := e4b
          clear e4b HB4 B4
          have p1 := blk_cell HB5.out 1
          simp at p1
          have e5c := blk_cell HB5.out 1
          have e5z := blk_frozen HB5.out 1
          simp at e5c
          have e5b := blk_set HB5.out 1 (.int .i64 ((n : Int) + 1))
          have B6 := B5.setCell (p := ⟨q, 1, none⟩) (show q = q from rfl) (.int .i64 ((n : Int) + 1))
          generalize e5w : W5.setCell ⟨q, 1, none⟩ (.int .i64 ((n : Int) + 1)) = W6 at *
          have HB6 : Hid (W6.heap[q]? = some (.cells #[.slice (some ⟨b, o, none⟩) F.length cap0, .int .i64 ((n : Int) + 1), .int .i64 y, .int .i64 8, .bool false, .bool true] 75 (0, 0))) := e5b
          clear e5b HB5 B5
          have e6c := blk_cell HB6.out 3
          have e6z := blk_frozen HB6.out 3
          simp at e6c
          have e6b := blk_set HB6.out 3 (.int .i64 7)
          have B7 := B6.setCell (p := ⟨q, 3, none⟩) (show q = q from rfl) (.int .i64 7)
          generalize e6w : W6.setCell ⟨q, 3, none⟩ (.int .i64 7) = W7 at *
          have HB7 : Hid (W7.heap[q]? = some (.cells #[.slice (some ⟨b, o, none⟩) F.length cap0, .int .i64 ((n : Int) + 1), .int .i64 y, .int .i64 7, .bool false, .bool true] 75 (0, 0))) := e6b
          clear e6b HB6 B6
          have t5 := blk_cell HB7.out 5
          have t2 := blk_cell HB7.out 2
          simp at t5 t2
          have e7c := blk_cell HB7.out 5
          have e7z := blk_frozen HB7.out 5
          simp at e7c
          have e7b := blk_set HB7.out 5 (.bool true)
          have B8 := B7.setCell (p := ⟨q, 5, none⟩) (show q = q from rfl) (.bool true)
          generalize e7w : W7.setCell ⟨q, 5, none⟩ (.bool true) = W8 at *
          have HB8 : Hid (W8.heap[q]? = some (.cells #[.slice (some ⟨b, o, none⟩) F.length cap0, .int .i64 ((n : Int) + 1), .int .i64 y, .int .i64 7, .bool false, .bool true] 75 (0, 0))) := e7b
          clear e7b HB7 B7
          go_wp2
          go_end0
          exact ⟨rfl, HB8.out, B8⟩
        exact K _ (by simp)
    · rw [if_neg h255, decide_eq_false h255]
      have K : ∀ b', b' = bad → Calls Try.prog 36 #[.pointer (some ⟨q, 0, none⟩)] w fun e w' => e = .returned (.tuple #[]) ∧ w'.heap[q]? = some (.cells #[.slice (some ⟨b, o, none⟩) F.length cap0, .int .i64 ((n + 1 : Nat) : Int), .int .i64 y, .int .i64 ((8 : Nat) : Int), .bool false, .bool b'] 75 (0, 0)) ∧ Only (· = q) w w' := by
        rintro b' hb'
        obtain rfl : bad = b' := hb'.symm
        have hcb : (curF F n == 255) = false := by simpa using h255
        generalize curF F n = cc at *
        clear h255
        rcases Nat.eq_zero_or_pos n with hz | hz
        · subst hz
          have HB := Lib.hid h
          clear h
          have HB0 : Hid (w.heap[q]? = some (.cells #[.slice (some ⟨b, o, none⟩) F.length cap0, .int .i64 0, .int .i64 cc, .int .i64 (l : Int), .bool false, .bool bad] 75 (0, 0))) := HB
          have B0 : Only (· = q) w w := Only.refl _ _
          have q1 := blk_cell HB0.out 1
          have q2 := blk_cell HB0.out 2
          simp at q1 q2
          clear HB
          have e0c := blk_cell HB0.out 2
          have e0z := blk_frozen HB0.out 2
          simp at e0c
          have e0b := blk_set HB0.out 2 (.int .i64 0)
          have B1 := B0.setCell (p := ⟨q, 2, none⟩) (show q = q from rfl) (.int .i64 0)
          generalize e0w : w.setCell ⟨q, 2, none⟩ (.int .i64 0) = W1 at *
          have HB1 : Hid (W1.heap[q]? = some (.cells #[.slice (some ⟨b, o, none⟩) F.length cap0, .int .i64 0, .int .i64 0, .int .i64 (l : Int), .bool false, .bool bad] 75 (0, 0))) := e0b
          clear e0b HB0 B0
          have e1c := blk_cell HB1.out 3
          have e1z := blk_frozen HB1.out 3
          simp at e1c
          have e1b := blk_set HB1.out 3 (.int .i64 8)
          have B2 := B1.setCell (p := ⟨q, 3, none⟩) (show q = q from rfl) (.int .i64 8)
          generalize e1w : W1.setCell ⟨q, 3, none⟩ (.int .i64 8) = W2 at *
          have HB2 : Hid (W2.heap[q]? = some (.cells #[.slice (some ⟨b, o, none⟩) F.length cap0, .int .i64 0, .int .i64 0, .int .i64 8, .bool false, .bool bad] 75 (0, 0))) := e1b
          clear e1b HB1 B1
          have r0 := blk_cell HB2.out 0
          have r1 := blk_cell HB2.out 1
          simp at r0 r1
          go_enter Try.func36, Try.ntmps36
          go_wp2
          go_quiet (fail)
          obtain ⟨W3, hW3⟩ : ∃ W3, W2.drewN nq = W3 := ⟨_, rfl⟩
          have HB3 : Hid (W3.heap[q]? = some (.cells #[.slice (some ⟨b, o, none⟩) F.length cap0, .int .i64 0, .int .i64 0, .int .i64 8, .bool false, .bool bad] 75 (0, 0))) := by rw [← hW3]; exact HB2.out
          have B3 : Only (· = q) w W3 := by rw [← hW3]; exact only_drewN B2 nq
          rw [hW3]
          clear hW3 HB2 B2 r0 r1
          have r0 := blk_cell HB3.out 0
          have r1 := blk_cell HB3.out 1
          simp at r0 r1
          have f3 : W3.cell? ⟨b, o, none⟩ = some (.int .u8 y) := (B3.cell (p := ⟨b, o, none⟩) (by show ¬ b = q; omega)).trans f1
          go_wp2
          refine wp_region_still_tail 14 (by kernel_rfl) (by kernel_rfl) ?_
          simp only [List.take_succ_cons, List.take_zero, List.drop_succ_cons, List.drop_zero]
          repeat still_step
          refine wpStill_nil ?_
          change wpList _ _ _ _ _ W3.drew
          have HB4 : Hid (W3.drew.heap[q]? = some (.cells #[.slice (some ⟨b, o, none⟩) F.length cap0, .int .i64 0, .int .i64 0, .int .i64 8, .bool false, .bool bad] 75 (0, 0))) := HB3.out
          have B4 : Only (· = q) w W3.drew := only_drewN B3 1
          clear HB3 B3 r0 r1 f3
          generalize W3.drew = W4 at *
          have e4c := blk_cell HB4.out 2
          have e4z := blk_frozen HB4.out 2
          simp at e4c
          have e4b := blk_set HB4.out 2 (.int .i64 y)
          have B5 := B4.setCell (p := ⟨q, 2, none⟩) (show q = q from rfl) (.int .i64 y)
          generalize e4w : W4.setCell ⟨q, 2, none⟩ (.int .i64 y) = W5 at *
          have HB5 : Hid (W5.heap[q]? = some (.cells #[.slice (some ⟨b, o, none⟩) F.length cap0, .int .i64 0, .int .i64 y, .int .i64 8, .bool false, .bool bad] 75 (0, 0))) := e4b
          clear e4b HB4 B4
          have p1 := blk_cell HB5.out 1
          simp at p1
          have e5c := blk_cell HB5.out 1
          have e5z := blk_frozen HB5.out 1
          simp at e5c
          have e5b := blk_set HB5.out 1 (.int .i64 1)
          have B6 := B5.setCell (p := ⟨q, 1, none⟩) (show q = q from rfl) (.int .i64 1)
          generalize e5w : W5.setCell ⟨q, 1, none⟩ (.int .i64 1) = W6 at *
          have HB6 : Hid (W6.heap[q]? = some (.cells #[.slice (some ⟨b, o, none⟩) F.length cap0, .int .i64 1, .int .i64 y, .int .i64 8, .bool false, .bool bad] 75 (0, 0))) := e5b
          clear e5b HB5 B5
          go_wp2
          go_end0
          exact ⟨rfl, HB6.out, B6⟩
        · have hn0 : (0 : Int) < (n : Int) := by omega
          have HB := Lib.hid h
          clear h
          have HB0 : Hid (w.heap[q]? = some (.cells #[.slice (some ⟨b, o, none⟩) F.length cap0, .int .i64 (n : Int), .int .i64 cc, .int .i64 (l : Int), .bool false, .bool bad] 75 (0, 0))) := HB
          have B0 : Only (· = q) w w := Only.refl _ _
          have q1 := blk_cell HB0.out 1
          have q2 := blk_cell HB0.out 2
          simp at q1 q2
          clear HB
          have e0c := blk_cell HB0.out 2
          have e0z := blk_frozen HB0.out 2
          simp at e0c
          have e0b := blk_set HB0.out 2 (.int .i64 0)
          have B1 := B0.setCell (p := ⟨q, 2, none⟩) (show q = q from rfl) (.int .i64 0)
          generalize e0w : w.setCell ⟨q, 2, none⟩ (.int .i64 0) = W1 at *
          have HB1 : Hid (W1.heap[q]? = some (.cells #[.slice (some ⟨b, o, none⟩) F.length cap0, .int .i64 (n : Int), .int .i64 0, .int .i64 (l : Int), .bool false, .bool bad] 75 (0, 0))) := e0b
          clear e0b HB0 B0
          have e1c := blk_cell HB1.out 3
          have e1z := blk_frozen HB1.out 3
          simp at e1c
          have e1b := blk_set HB1.out 3 (.int .i64 8)
          have B2 := B1.setCell (p := ⟨q, 3, none⟩) (show q = q from rfl) (.int .i64 8)
          generalize e1w : W1.setCell ⟨q, 3, none⟩ (.int .i64 8) = W2 at *
          have HB2 : Hid (W2.heap[q]? = some (.cells #[.slice (some ⟨b, o, none⟩) F.length cap0, .int .i64 (n : Int), .int .i64 0, .int .i64 8, .bool false, .bool bad] 75 (0, 0))) := e1b
          clear e1b HB1 B1
          have r0 := blk_cell HB2.out 0
          have r1 := blk_cell HB2.out 1
          simp at r0 r1
          go_enter Try.func36, Try.ntmps36
          go_wp2
          go_quiet (fail)
          obtain ⟨W3, hW3⟩ : ∃ W3, W2.drewN nq = W3 := ⟨_, rfl⟩
          have HB3 : Hid (W3.heap[q]? = some (.cells #[.slice (some ⟨b, o, none⟩) F.length cap0, .int .i64 (n : Int), .int .i64 0, .int .i64 8, .bool false, .bool bad] 75 (0, 0))) := by rw [← hW3]; exact HB2.out
          have B3 : Only (· = q) w W3 := by rw [← hW3]; exact only_drewN B2 nq
          rw [hW3]
          clear hW3 HB2 B2 r0 r1
          have r0 := blk_cell HB3.out 0
          have r1 := blk_cell HB3.out 1
          simp at r0 r1
          have f3 : W3.cell? ⟨b, o + n, none⟩ = some (.int .u8 y) := (B3.cell (p := ⟨b, o + n, none⟩) (by show ¬ b = q; omega)).trans f1
          go_wp2
          refine wp_region_still_tail 14 (by kernel_rfl) (by kernel_rfl) ?_
          simp only [List.take_succ_cons, List.take_zero, List.drop_succ_cons, List.drop_zero]
          repeat still_step
          refine wpStill_nil ?_
          change wpList _ _ _ _ _ W3.drew
          have HB4 : Hid (W3.drew.heap[q]? = some (.cells #[.slice (some ⟨b, o, none⟩) F.length cap0, .int .i64 (n : Int), .int .i64 0, .int .i64 8, .bool false, .bool bad] 75 (0, 0))) := HB3.out
          have B4 : Only (· = q) w W3.drew := only_drewN B3 1
          clear HB3 B3 r0 r1 f3
          generalize W3.drew = W4 at *
          have e4c := blk_cell HB4.out 2
          have e4z := blk_frozen HB4.out 2
          simp at e4c
          have e4b := blk_set HB4.out 2 (.int .i64 y)
          have B5 := B4.setCell (p := ⟨q, 2, none⟩) (show q = q from rfl) (.int .i64 y)
          generalize e4w : W4.setCell ⟨q, 2, none⟩ (.int .i64 y) = W5 at *
          have HB5 : Hid (W5.heap[q]? = some (.cells #[.slice (some ⟨b, o, none⟩) F.length cap0, .int .i64 (n : Int), .int .i64 y, .int .i64 8, .bool false, .bool bad] 75 (0, 0))) := e4b
          clear e4b HB4 B4
          have p1 := blk_cell HB5.out 1
          simp at p1
          have e5c := blk_cell HB5.out 1
          have e5z := blk_frozen HB5.out 1
          simp at e5c
          have e5b := blk_set HB5.out 1 (.int .i64 ((n : Int) + 1))
          have B6 := B5.setCell (p := ⟨q, 1, none⟩) (show q = q from rfl) (.int .i64 ((n : Int) + 1))
          generalize e5w : W5.setCell ⟨q, 1, none⟩ (.int .i64 ((n : Int) + 1)) = W6 at *
          have HB6 : Hid (W6.heap[q]? = some (.cells #[.slice (some ⟨b, o, none⟩) F.length cap0, .int .i64 ((n : Int) + 1), .int .i64 y, .int .i64 8, .bool false, .bool bad] 75 (0, 0))) := e5b
          clear e5b HB5 B5
          go_wp2
          go_end0
          exact ⟨rfl, HB6.out, B6⟩
      exact K _ (by simp)
  · have y0 : F.getD n 0 = 0 := by rw [List.getD_eq_getElem?_getD, List.getElem?_eq_none (by omega)]; rfl
    rw [y0]
    have hli : ¬ (n : Int) < (F.length : Int) := by omega
    have e1 : decide (F.length < n + 1) = true := decide_eq_true (by omega)
    rw [e1]
    clear e1 hF hL y0
    generalize decide (F.length < n) = cut at *
    by_cases h255 : curF F n = 255
    · rw [h255] at h
      have hn0 : (0 : Int) < (n : Int) := by
        rcases Nat.eq_zero_or_pos n with e | e
        · subst e; exact absurd h255 (by rw [show curF F 0 = 0 from rfl]; decide)
        · omega
      rw [if_pos h255, h255]
      clear h255
      cases bad
      · have K : ∀ b', b' = false → Calls Try.prog 36 #[.pointer (some ⟨q, 0, none⟩)] w fun e w' => e = .returned (.tuple #[]) ∧ w'.heap[q]? = some (.cells #[.slice a0 F.length cap0, .int .i64 ((n + 1 : Nat) : Int), .int .i64 0, .int .i64 ((7 : Nat) : Int), .bool true, .bool b'] 75 (0, 0)) ∧ Only (· = q) w w' := by
          rintro _ rfl
          have HB := Lib.hid h
          clear h
          have HB0 : Hid (w.heap[q]? = some (.cells #[.slice a0 F.length cap0, .int .i64 (n : Int), .int .i64 255, .int .i64 (l : Int), .bool cut, .bool false] 75 (0, 0))) := HB
          have B0 : Only (· = q) w w := Only.refl _ _
          have q1 := blk_cell HB0.out 1
          have q2 := blk_cell HB0.out 2
          simp at q1 q2
          clear HB
          have e0c := blk_cell HB0.out 2
          have e0z := blk_frozen HB0.out 2
          simp at e0c
          have e0b := blk_set HB0.out 2 (.int .i64 0)
          have B1 := B0.setCell (p := ⟨q, 2, none⟩) (show q = q from rfl) (.int .i64 0)
          generalize e0w : w.setCell ⟨q, 2, none⟩ (.int .i64 0) = W1 at *
          have HB1 : Hid (W1.heap[q]? = some (.cells #[.slice a0 F.length cap0, .int .i64 (n : Int), .int .i64 0, .int .i64 (l : Int), .bool cut, .bool false] 75 (0, 0))) := e0b
          clear e0b HB0 B0
          have e1c := blk_cell HB1.out 3
          have e1z := blk_frozen HB1.out 3
          simp at e1c
          have e1b := blk_set HB1.out 3 (.int .i64 8)
          have B2 := B1.setCell (p := ⟨q, 3, none⟩) (show q = q from rfl) (.int .i64 8)
          generalize e1w : W1.setCell ⟨q, 3, none⟩ (.int .i64 8) = W2 at *
          have HB2 : Hid (W2.heap[q]? = some (.cells #[.slice a0 F.length cap0, .int .i64 (n : Int), .int .i64 0, .int .i64 8, .bool cut, .bool false] 75 (0, 0))) := e1b
          clear e1b HB1 B1
          have r0 := blk_cell HB2.out 0
          have r1 := blk_cell HB2.out 1
          simp at r0 r1
          go_enter Try.func36, Try.ntmps36
          go_wp2
          go_quiet (fail)
          obtain ⟨W3, hW3⟩ : ∃ W3, W2.drewN nq = W3 := ⟨_, rfl⟩
          have HB3 : Hid (W3.heap[q]? = some (.cells #[.slice a0 F.length cap0, .int .i64 (n : Int), .int .i64 0, .int .i64 8, .bool cut, .bool false] 75 (0, 0))) := by rw [← hW3]; exact HB2.out
          have B3 : Only (· = q) w W3 := by rw [← hW3]; exact only_drewN B2 nq
          rw [hW3]
          clear hW3 HB2 B2 r0 r1
          have e4c := blk_cell HB3.out 4
          have e4z := blk_frozen HB3.out 4
          simp at e4c
          have e4b := blk_set HB3.out 4 (.bool true)
          have B4 := B3.setCell (p := ⟨q, 4, none⟩) (show q = q from rfl) (.bool true)
          generalize e4w : W3.setCell ⟨q, 4, none⟩ (.bool true) = W5 at *
          have HB4 : Hid (W5.heap[q]? = some (.cells #[.slice a0 F.length cap0, .int .i64 (n : Int), .int .i64 0, .int .i64 8, .bool true, .bool false] 75 (0, 0))) := e4b
          clear e4b HB3 B3
          have p1 := blk_cell HB4.out 1
          simp at p1
          have e4c := blk_cell HB4.out 1
          have e4z := blk_frozen HB4.out 1
          simp at e4c
          have e4b := blk_set HB4.out 1 (.int .i64 ((n : Int) + 1))
          have B5 := B4.setCell (p := ⟨q, 1, none⟩) (show q = q from rfl) (.int .i64 ((n : Int) + 1))
          generalize e4w : W5.setCell ⟨q, 1, none⟩ (.int .i64 ((n : Int) + 1)) = W6 at *
          have HB5 : Hid (W6.heap[q]? = some (.cells #[.slice a0 F.length cap0, .int .i64 ((n : Int) + 1), .int .i64 0, .int .i64 8, .bool true, .bool false] 75 (0, 0))) := e4b
          clear e4b HB4 B4
          have e5c := blk_cell HB5.out 3
          have e5z := blk_frozen HB5.out 3
          simp at e5c
          have e5b := blk_set HB5.out 3 (.int .i64 7)
          have B6 := B5.setCell (p := ⟨q, 3, none⟩) (show q = q from rfl) (.int .i64 7)
          generalize e5w : W6.setCell ⟨q, 3, none⟩ (.int .i64 7) = W7 at *
          have HB6 : Hid (W7.heap[q]? = some (.cells #[.slice a0 F.length cap0, .int .i64 ((n : Int) + 1), .int .i64 0, .int .i64 7, .bool true, .bool false] 75 (0, 0))) := e5b
          clear e5b HB5 B5
          have t5 := blk_cell HB6.out 5
          have t2 := blk_cell HB6.out 2
          simp at t5 t2
          have e6c := blk_cell HB6.out 5
          have e6z := blk_frozen HB6.out 5
          simp at e6c
          have e6b := blk_set HB6.out 5 (.bool false)
          have B7 := B6.setCell (p := ⟨q, 5, none⟩) (show q = q from rfl) (.bool false)
          generalize e6w : W7.setCell ⟨q, 5, none⟩ (.bool false) = W8 at *
          have HB7 : Hid (W8.heap[q]? = some (.cells #[.slice a0 F.length cap0, .int .i64 ((n : Int) + 1), .int .i64 0, .int .i64 7, .bool true, .bool false] 75 (0, 0))) := e6b
          clear e6b HB6 B6
          go_wp2
          go_end0
          exact ⟨rfl, HB7.out, B7⟩
        exact K _ (by simp)
      · have K : ∀ b', b' = true → Calls Try.prog 36 #[.pointer (some ⟨q, 0, none⟩)] w fun e w' => e = .returned (.tuple #[]) ∧ w'.heap[q]? = some (.cells #[.slice a0 F.length cap0, .int .i64 ((n + 1 : Nat) : Int), .int .i64 0, .int .i64 ((7 : Nat) : Int), .bool true, .bool b'] 75 (0, 0)) ∧ Only (· = q) w w' := by
          rintro _ rfl
          have HB := Lib.hid h
          clear h
          have HB0 : Hid (w.heap[q]? = some (.cells #[.slice a0 F.length cap0, .int .i64 (n : Int), .int .i64 255, .int .i64 (l : Int), .bool cut, .bool true] 75 (0, 0))) := HB
          have B0 : Only (· = q) w w := Only.refl _ _
          have q1 := blk_cell HB0.out 1
          have q2 := blk_cell HB0.out 2
          simp at q1 q2
          clear HB
          have e0c := blk_cell HB0.out 2
          have e0z := blk_frozen HB0.out 2
          simp at e0c
          have e0b := blk_set HB0.out 2 (.int .i64 0)
          have B1 := B0.setCell (p := ⟨q, 2, none⟩) (show q = q from rfl) (.int .i64 0)
          generalize e0w : w.setCell ⟨q, 2, none⟩ (.int .i64 0) = W1 at *
          have HB1 : Hid (W1.heap[q]? = some (.cells #[.slice a0 F.length cap0, .int .i64 (n : Int), .int .i64 0, .int .i64 (l : Int), .bool cut, .bool true] 75 (0, 0))) := e0b
          clear e0b HB0 B0
          have e1c := blk_cell HB1.out 3
          have e1z := blk_frozen HB1.out 3
          simp at e1c
          have e1b := blk_set HB1.out 3 (.int .i64 8)
          have B2 := B1.setCell (p := ⟨q, 3, none⟩) (show q = q from rfl) (.int .i64 8)
          generalize e1w : W1.setCell ⟨q, 3, none⟩ (.int .i64 8) = W2 at *
          have HB2 : Hid (W2.heap[q]? = some (.cells #[.slice a0 F.length cap0, .int .i64 (n : Int), .int .i64 0, .int .i64 8, .bool cut, .bool true] 75 (0, 0))) := e1b
          clear e1b HB1 B1
          have r0 := blk_cell HB2.out 0
          have r1 := blk_cell HB2.out 1
          simp at r0 r1
          go_enter Try.func36, Try.ntmps36
          go_wp2
          go_quiet (fail)
          obtain ⟨W3, hW3⟩ : ∃ W3, W2.drewN nq = W3 := ⟨_, rfl⟩
          have HB3 : Hid (W3.heap[q]? = some (.cells #[.slice a0 F.length cap0, .int .i64 (n : Int), .int .i64 0, .int .i64 8, .bool cut, .bool true] 75 (0, 0))) := by rw [← hW3]; exact HB2.out
          have B3 : Only (· = q) w W3 := by rw [← hW3]; exact only_drewN B2 nq
          rw [hW3]
          clear hW3 HB2 B2 r0 r1
          have e4c := blk_cell HB3.out 4
          have e4z := blk_frozen HB3.out 4
          simp at e4c
          have e4b := blk_set HB3.out 4 (.bool true)
          have B4 := B3.setCell (p := ⟨q, 4, none⟩) (show q = q from rfl) (.bool true)
          generalize e4w : W3.setCell ⟨q, 4, none⟩ (.bool true) = W5 at *
          have HB4 : Hid (W5.heap[q]? = some (.cells #[.slice a0 F.length cap0, .int .i64 (n : Int), .int .i64 0, .int .i64 8, .bool true, .bool true] 75 (0, 0))) := e4b
          clear e4b HB3 B3
          have p1 := blk_cell HB4.out 1
          simp at p1
          have e4c := blk_cell HB4.out 1
          have e4z := blk_frozen HB4.out 1
          simp at e4c
          have e4b := blk_set HB4.out 1 (.int .i64 ((n : Int) + 1))
          have B5 := B4.setCell (p := ⟨q, 1, none⟩) (show q = q from rfl) (.int .i64 ((n : Int) + 1))
          generalize e4w : W5.setCell ⟨q, 1, none⟩ (.int .i64 ((n : Int) + 1)) = W6 at *
          have HB5 : Hid (W6.heap[q]? = some (.cells #[.slice a0 F.length cap0, .int .i64 ((n : Int) + 1), .int .i64 0, .int .i64 8, .bool true, .bool true] 75 (0, 0))) := e4b
          clear e4b HB4 B4
          have e5c := blk_cell HB5.out 3
          have e5z := blk_frozen HB5.out 3
          simp at e5c
          have e5b := blk_set HB5.out 3 (.int .i64 7)
          have B6 := B5.setCell (p := ⟨q, 3, none⟩) (show q = q from rfl) (.int .i64 7)
          generalize e5w : W6.setCell ⟨q, 3, none⟩ (.int .i64 7) = W7 at *
          have HB6 : Hid (W7.heap[q]? = some (.cells #[.slice a0 F.length cap0, .int .i64 ((n : Int) + 1), .int .i64 0, .int .i64 7, .bool true, .bool true] 75 (0, 0))) := e5b
          clear e5b HB5 B5
          have t5 := blk_cell HB6.out 5
          have t2 := blk_cell HB6.out 2
          simp at t5 t2
          have e6c := blk_cell HB6.out 5
          have e6z := blk_frozen HB6.out 5
          simp at e6c
          have e6b := blk_set HB6.out 5 (.bool true)
          have B7 := B6.setCell (p := ⟨q, 5, none⟩) (show q = q from rfl) (.bool true)
          generalize e6w : W7.setCell ⟨q, 5, none⟩ (.bool true) = W8 at *
          have HB7 : Hid (W8.heap[q]? = some (.cells #[.slice a0 F.length cap0, .int .i64 ((n : Int) + 1), .int .i64 0, .int .i64 7, .bool true, .bool true] 75 (0, 0))) := e6b
          clear e6b HB6 B6
          go_wp2
          go_end0
          exact ⟨rfl, HB7.out, B7⟩
        exact K _ (by simp)
    · rw [if_neg h255, decide_eq_false h255]
      have K : ∀ b', b' = bad → Calls Try.prog 36 #[.pointer (some ⟨q, 0, none⟩)] w fun e w' => e = .returned (.tuple #[]) ∧ w'.heap[q]? = some (.cells #[.slice a0 F.length cap0, .int .i64 ((n + 1 : Nat) : Int), .int .i64 0, .int .i64 ((8 : Nat) : Int), .bool true, .bool b'] 75 (0, 0)) ∧ Only (· = q) w w' := by
        rintro b' hb'
        obtain rfl : bad = b' := hb'.symm
        have hcb : (curF F n == 255) = false := by simpa using h255
        generalize curF F n = cc at *
        clear h255
        rcases Nat.eq_zero_or_pos n with hz | hz
        · subst hz
          have HB := Lib.hid h
          clear h
          have HB0 : Hid (w.heap[q]? = some (.cells #[.slice a0 F.length cap0, .int .i64 0, .int .i64 cc, .int .i64 (l : Int), .bool cut, .bool bad] 75 (0, 0))) := HB
          have B0 : Only (· = q) w w := Only.refl _ _
          have q1 := blk_cell HB0.out 1
          have q2 := blk_cell HB0.out 2
          simp at q1 q2
          clear HB
          have e0c := blk_cell HB0.out 2
          have e0z := blk_frozen HB0.out 2
          simp at e0c
          have e0b := blk_set HB0.out 2 (.int .i64 0)
          have B1 := B0.setCell (p := ⟨q, 2, none⟩) (show q = q from rfl) (.int .i64 0)
          generalize e0w : w.setCell ⟨q, 2, none⟩ (.int .i64 0) = W1 at *
          have HB1 : Hid (W1.heap[q]? = some (.cells #[.slice a0 F.length cap0, .int .i64 0, .int .i64 0, .int .i64 (l : Int), .bool cut, .bool bad] 75 (0, 0))) := e0b
          clear e0b HB0 B0
          have e1c := blk_cell HB1.out 3
          have e1z := blk_frozen HB1.out 3
          simp at e1c
          have e1b := blk_set HB1.out 3 (.int .i64 8)
          have B2 := B1.setCell (p := ⟨q, 3, none⟩) (show q = q from rfl) (.int .i64 8)
          generalize e1w : W1.setCell ⟨q, 3, none⟩ (.int .i64 8) = W2 at *
          have HB2 : Hid (W2.heap[q]? = some (.cells #[.slice a0 F.length cap0, .int .i64 0, .int .i64 0, .int .i64 8, .bool cut, .bool bad] 75 (0, 0))) := e1b
          clear e1b HB1 B1
          have r0 := blk_cell HB2.out 0
          have r1 := blk_cell HB2.out 1
          simp at r0 r1
          go_enter Try.func36, Try.ntmps36
          go_wp2
          go_quiet (fail)
          obtain ⟨W3, hW3⟩ : ∃ W3, W2.drewN nq = W3 := ⟨_, rfl⟩
          have HB3 : Hid (W3.heap[q]? = some (.cells #[.slice a0 F.length cap0, .int .i64 0, .int .i64 0, .int .i64 8, .bool cut, .bool bad] 75 (0, 0))) := by rw [← hW3]; exact HB2.out
          have B3 : Only (· = q) w W3 := by rw [← hW3]; exact only_drewN B2 nq
          rw [hW3]
          clear hW3 HB2 B2 r0 r1
          have e4c := blk_cell HB3.out 4
          have e4z := blk_frozen HB3.out 4
          simp at e4c
          have e4b := blk_set HB3.out 4 (.bool true)
          have B4 := B3.setCell (p := ⟨q, 4, none⟩) (show q = q from rfl) (.bool true)
          generalize e4w : W3.setCell ⟨q, 4, none⟩ (.bool true) = W5 at *
          have HB4 : Hid (W5.heap[q]? = some (.cells #[.slice a0 F.length cap0, .int .i64 0, .int .i64 0, .int .i64 8, .bool true, .bool bad] 75 (0, 0))) := e4b
          clear e4b HB3 B3
          have p1 := blk_cell HB4.out 1
          simp at p1
          have e4c := blk_cell HB4.out 1
          have e4z := blk_frozen HB4.out 1
          simp at e4c
          have e4b := blk_set HB4.out 1 (.int .i64 1)
          have B5 := B4.setCell (p := ⟨q, 1, none⟩) (show q = q from rfl) (.int .i64 1)
          generalize e4w : W5.setCell ⟨q, 1, none⟩ (.int .i64 1) = W6 at *
          have HB5 : Hid (W6.heap[q]? = some (.cells #[.slice a0 F.length cap0, .int .i64 1, .int .i64 0, .int .i64 8, .bool true, .bool bad] 75 (0, 0))) := e4b
          clear e4b HB4 B4
          go_wp2
          go_end0
          exact ⟨rfl, HB5.out, B5⟩
        · have hn0 : (0 : Int) < (n : Int) := by omega
          have HB := Lib.hid h
          clear h
          have HB0 : Hid (w.heap[q]? = some (.cells #[.slice a0 F.length cap0, .int .i64 (n : Int), .int .i64 cc, .int .i64 (l : Int), .bool cut, .bool bad] 75 (0, 0))) := HB
          have B0 : Only (· = q) w w := Only.refl _ _
          have q1 := blk_cell HB0.out 1
          have q2 := blk_cell HB0.out 2
          simp at q1 q2
          clear HB
          have e0c := blk_cell HB0.out 2
          have e0z := blk_frozen HB0.out 2
          simp at e0c
          have e0b := blk_set HB0.out 2 (.int .i64 0)
          have B1 := B0.setCell (p := ⟨q, 2, none⟩) (show q = q from rfl) (.int .i64 0)
          generalize e0w : w.setCell ⟨q, 2, none⟩ (.int .i64 0) = W1 at *
          have HB1 : Hid (W1.heap[q]? = some (.cells #[.slice a0 F.length cap0, .int .i64 (n : Int), .int .i64 0, .int .i64 (l : Int), .bool cut, .bool bad] 75 (0, 0))) := e0b
          clear e0b HB0 B0
          have e1c := blk_cell HB1.out 3
          have e1z := blk_frozen HB1.out 3
          simp at e1c
          have e1b := blk_set HB1.out 3 (.int .i64 8)
          have B2 := B1.setCell (p := ⟨q, 3, none⟩) (show q = q from rfl) (.int .i64 8)
          generalize e1w : W1.setCell ⟨q, 3, none⟩ (.int .i64 8) = W2 at *
          have HB2 : Hid (W2.heap[q]? = some (.cells #[.slice a0 F.length cap0, .int .i64 (n : Int), .int .i64 0, .int .i64 8, .bool cut, .bool bad] 75 (0, 0))) := e1b
          clear e1b HB1 B1
          have r0 := blk_cell HB2.out 0
          have r1 := blk_cell HB2.out 1
          simp at r0 r1
          go_enter Try.func36, Try.ntmps36
          go_wp2
          go_quiet (fail)
          obtain ⟨W3, hW3⟩ : ∃ W3, W2.drewN nq = W3 := ⟨_, rfl⟩
          have HB3 : Hid (W3.heap[q]? = some (.cells #[.slice a0 F.length cap0, .int .i64 (n : Int), .int .i64 0, .int .i64 8, .bool cut, .bool bad] 75 (0, 0))) := by rw [← hW3]; exact HB2.out
          have B3 : Only (· = q) w W3 := by rw [← hW3]; exact only_drewN B2 nq
          rw [hW3]
          clear hW3 HB2 B2 r0 r1
          have e4c := blk_cell HB3.out 4
          have e4z := blk_frozen HB3.out 4
          simp at e4c
          have e4b := blk_set HB3.out 4 (.bool true)
          have B4 := B3.setCell (p := ⟨q, 4, none⟩) (show q = q from rfl) (.bool true)
          generalize e4w : W3.setCell ⟨q, 4, none⟩ (.bool true) = W5 at *
          have HB4 : Hid (W5.heap[q]? = some (.cells #[.slice a0 F.length cap0, .int .i64 (n : Int), .int .i64 0, .int .i64 8, .bool true, .bool bad] 75 (0, 0))) := e4b
          clear e4b HB3 B3
          have p1 := blk_cell HB4.out 1
          simp at p1
          have e4c := blk_cell HB4.out 1
          have e4z := blk_frozen HB4.out 1
          simp at e4c
          have e4b := blk_set HB4.out 1 (.int .i64 ((n : Int) + 1))
          have B5 := B4.setCell (p := ⟨q, 1, none⟩) (show q = q from rfl) (.int .i64 ((n : Int) + 1))
          generalize e4w : W5.setCell ⟨q, 1, none⟩ (.int .i64 ((n : Int) + 1)) = W6 at *
          have HB5 : Hid (W6.heap[q]? = some (.cells #[.slice a0 F.length cap0, .int .i64 ((n : Int) + 1), .int .i64 0, .int .i64 8, .bool true, .bool bad] 75 (0, 0))) := e4b
          clear e4b HB4 B4
          go_wp2
          go_end0
          exact ⟨rfl, HB5.out, B5⟩
      exact K _ (by simp)
end Go.Proofs.Ythgbnkcbcepjdaa
