/- The reference's Reader of chapter 1: the other methods. -/
import Derived.Test.YtfjkfajhfnmjjaaRget
set_option linter.unusedVariables false
namespace Go.Proofs.Ytfjkfajhfnmjjaa
open Go.RowKit

theorem mayE_err {ok : Bool} {m : Int} {len : Nat} {err : Int} (h : err ≠ 0) : mayE ok m len err = err := by
  unfold mayE failE
  rw [if_neg h, if_neg h]
  split
  · rfl
  · split <;> rfl
theorem mayE_no {m : Int} {len : Nat} : mayE false m len 0 = 1 := rfl
theorem mayE_cut {m : Int} {len : Nat} (h : (len : Int) < m) : mayE true m len 0 = 8 := by unfold mayE failE; rw [if_neg (by simp), if_pos h, if_pos rfl]

set_option maxHeartbeats 4000000 in
theorem qtake_no {w : World} {q c0 n P : Nat} {a0 : Option Addr} {err m : Int} (h : Qr w q a0 c0 n P err) (hn2 : n ≤ 1000) (hP : P ≤ n) (hno : m < 0 ∨ ((n : Int) - P) < m ∨ err ≠ 0) :
    Calls Try.prog 26 #[.pointer (some ⟨q, 0, none⟩), .int .i64 m] w fun e w' => e = .returned (.slice none 0 0) ∧ Qr w' q a0 c0 n P (mayE (decide (0 ≤ m)) m (n - P) err) ∧ Only (· = q) w w' := by
  unfold Qr at *
  by_cases he : err = 0
  · subst he
    by_cases hm : m < 0
    · rw [decide_eq_false (show ¬ 0 ≤ m by omega), mayE_no]
      have HB0 : Hid (w.heap[q]? = some (.cells #[.slice a0 n c0, .int .i64 ((P : Int)), .int .i64 0] 63 (0, 0))) := Lib.hid h
      have B0 : Only (· = q) w w := Only.refl _ _
      have d0 := blk_cell h 0
      have d1 := blk_cell h 1
      have d2 := blk_cell h 2
      have z2 := blk_frozen h 2
      simp at d0 d1 d2
      clear h
      have hb1 := blk_set HB0.out 2 (.int .i64 1)
      have B1 := B0.setCell (p := ⟨q, 2, none⟩) (show q = q from rfl) (.int .i64 1)
      generalize hW1 : w.setCell ⟨q, 2, none⟩ (.int .i64 1) = W1 at *
      have HB1 : Hid (W1.heap[q]? = some (.cells #[.slice a0 n c0, .int .i64 ((P : Int)), .int .i64 1] 63 (0, 0))) := hb1
      have e0 := blk_cell HB1.out 0
      have e1 := blk_cell HB1.out 1
      have e2 := blk_cell HB1.out 2
      simp at e0 e1 e2
      clear hb1 HB0
      go_enter Try.func26, Try.ntmps26
      go_wp2
      go_quiet (fail)
      go_wp2
      go_ret
      exact ⟨rfl, HB1.out, only_drewN B1 nq⟩
    · have hcut : (n : Int) - (P : Int) < m := by omega
      have hcd : decide ((n : Int) - (P : Int) < m) = true := decide_eq_true hcut
      have hw1 : IntKind.i64.wrap ((n : Int) - (P : Int)) = (n : Int) - (P : Int) := IntWalk.i64_in _ (by omega)
      rw [decide_eq_true (show 0 ≤ m by omega), mayE_cut (by omega)]
      have HQ := Lib.hid h
      have d0 := blk_cell h 0
      have d1 := blk_cell h 1
      have d2 := blk_cell h 2
      simp at d0 d1 d2
      clear h
      go_enter Try.func26, Try.ntmps26
      go_wp2
      go_quiet (fail)
      obtain ⟨W0, hW0⟩ : ∃ W0, w.drewN nq = W0 := ⟨_, rfl⟩
      have HB0 : Hid (W0.heap[q]? = some (.cells #[.slice a0 n c0, .int .i64 ((P : Int)), .int .i64 0] 63 (0, 0))) := by rw [← hW0]; exact HQ.out
      have B0 : Only (· = q) w W0 := by rw [← hW0]; exact only_drewN (Only.refl _ _) nq
      rw [hW0]
      clear hW0 HQ d0 d1 d2
      have d2 := blk_cell HB0.out 2
      have z2 := blk_frozen HB0.out 2
      simp at d2
      have hb1 := blk_set HB0.out 2 (.int .i64 8)
      have B1 := B0.setCell (p := ⟨q, 2, none⟩) (show q = q from rfl) (.int .i64 8)
      generalize hW1 : W0.setCell ⟨q, 2, none⟩ (.int .i64 8) = W1 at *
      have HB1 : Hid (W1.heap[q]? = some (.cells #[.slice a0 n c0, .int .i64 ((P : Int)), .int .i64 8] 63 (0, 0))) := hb1
      have e0 := blk_cell HB1.out 0
      have e1 := blk_cell HB1.out 1
      have e2 := blk_cell HB1.out 2
      simp at e0 e1 e2
      clear hb1 HB0
      go_wp2
      go_ret
      exact ⟨rfl, HB1.out, B1⟩
  · rw [mayE_err he]
    have heb : (err == 0) = false := by simpa using he
    have heb2 : (err != 0) = true := by simpa using he
    clear he hno
    have HB0 : Hid (w.heap[q]? = some (.cells #[.slice a0 n c0, .int .i64 ((P : Int)), .int .i64 err] 63 (0, 0))) := Lib.hid h
    have B0 : Only (· = q) w w := Only.refl _ _
    have d0 := blk_cell h 0
    have d1 := blk_cell h 1
    have d2 := blk_cell h 2
    have z2 := blk_frozen h 2
    simp at d0 d1 d2
    clear h
    go_enter Try.func26, Try.ntmps26
    go_wp2
    go_quiet (fail)
    go_wp2
    go_ret
    exact ⟨rfl, HB0.out, only_drewN B0 nq⟩
set_option maxHeartbeats 1000000 in
theorem qnew1 {w : World} {n c0 : Nat} {a0 : Option Addr} :
    Calls Try.prog 18 #[.slice a0 n c0] w fun e w' => ∃ q, e = .returned (.pointer (some ⟨q, 0, none⟩)) ∧ w.heap.size ≤ q ∧ Qr w' q a0 c0 n 0 0 ∧ Below w.heap.size w w' := by
  go_enter Try.func18, Try.ntmps18
  go_wp2
  go_ret
  exact ⟨_, rfl, Nat.le_refl _, heap_alloc_new w _, (Below.refl _ _).alloc (Nat.le_refl _) _⟩
set_option maxHeartbeats 4000000 in
theorem qget_yes {w : World} {q c0 n P : Nat} {a0 : Option Addr} {F : List Int} {m : Nat} (hA : a0 = none → n = 0 ∧ c0 = 0) (h : Qr w q a0 c0 n P 0) (hn : F.length = n) (hL : Lst w q a0 (F.map (Value.int .u8))) (hc : n ≤ c0) (hc2 : c0 ≤ maxLen) (hn2 : n ≤ 1000) (hP : P + m ≤ n) (hm1 : 1 ≤ m) (hm8 : m ≤ 8) (hF : ∀ x ∈ F, 0 ≤ x ∧ x ≤ 255) :
    Calls Try.prog 19 #[.pointer (some ⟨q, 0, none⟩), .int .i64 (m : Int)] w fun e w' => e = .returned (.int .i64 (wrap64 (numL 0 ((F.drop P).take m)))) ∧ Qr w' q a0 c0 n (P + m) 0 ∧ Only (newer q w) w w' := by
  have TK := Lib.hid (qtake_yes hA h hn hL hc hc2 hn2 hP)
  have hyl : ((F.drop P).take m).length = m := by rw [List.length_take, List.length_drop, hn]; omega
  have hyr : ∀ x ∈ (F.drop P).take m, 0 ≤ x ∧ x ≤ 255 := fun x hx => hF x (List.mem_of_mem_drop (List.mem_of_mem_take hx))
  generalize (F.drop P).take m = ys at *
  have HYL := Lib.hid hyl
  have HYR := Lib.hid hyr
  have i1 : ¬ (m : Int) < 1 := by omega
  have i2 : ¬ (8 : Int) < (m : Int) := by omega
  unfold Qr at h
  have HB0 : Hid (w.heap[q]? = some (.cells #[.slice a0 n c0, .int .i64 ((P : Int)), .int .i64 0] 63 (0, 0))) := Lib.hid h
  have B0 : Only (· = q) w w := Only.refl _ _
  have d0 := blk_cell h 0
  have d1 := blk_cell h 1
  have d2 := blk_cell h 2
  have z2 := blk_frozen h 2
  simp at d0 d1 d2
  clear h
  clear hyl hyr hL hn hF hA hc2 HB0 B0
  go_enter Try.func19, Try.ntmps19
  go_wp2_with fail
  refine TK.out.mono ?_
  rintro e w1 ⟨v, rfl, hown, hq1, o1⟩
  obtain ⟨g, cap, rfl, _, _, hmc, hcm⟩ := own_form hown (by omega)
  unfold maxLen at hcm
  have HO := Lib.hid hown
  have HQ1 := Lib.hid hq1
  clear hown hq1 TK d0 d1 d2 z2
  go_wp2
  go_loop [5, 7] (fun u i => ∃ k : Nat, k ≤ m ∧ i = .int .i64 (k : Int) ∧ u = .int .u64 (numL 0 (ys.take k))) (fun _ i => m - (intOf i).toNat)
  case atStart => exact ⟨0, by omega, rfl, by simp [numL]⟩
  case round =>
    obtain ⟨k, hk, rfl, rfl⟩ := hrel
    by_cases c : k < m
    · have ci : (k : Int) < (m : Int) := by omega
      have f1 := HO.out.cellAt k (by omega)
      have e4 : (ys.map (Value.int .u8))[k]? = some (.int .u8 (ys.getD k 0)) := by rw [List.getElem?_map, List.getD_eq_getElem?_getD, List.getElem?_eq_getElem (by rw [HYL.out]; omega)]; rfl
      rw [e4] at f1
      clear e4
      have hxr := HYR.out (ys.getD k 0) (by rw [List.getD_eq_getElem?_getD, List.getElem?_eq_getElem (by rw [HYL.out]; omega)]; exact List.getElem_mem _)
      have hst : Hid (numL 0 (ys.take (k + 1)) = numL 0 (ys.take k) * 256 % 18446744073709551616 + ys.getD k 0) := Lib.hid (by
        rw [List.take_add_one, List.getElem?_eq_getElem (by rw [HYL.out]; omega), Option.toList_some, numL_snoc, List.getD_eq_getElem?_getD, List.getElem?_eq_getElem (by rw [HYL.out]; omega)]; rfl)
      have hjn := Lib.hid (join_is (numL 0 (ys.take k)) (ys.getD k 0) hxr)
      generalize ys.getD k 0 = x at *
      generalize hnk : numL 0 (ys.take k) = nk at *
      go_wp2
      go_round
      case rel => exact ⟨k + 1, by omega, by go_num, by rw [hst.out, ← hjn.out]⟩
      case measure => simp [intOf] <;> omega
    · obtain rfl : k = m := by omega
      have hty : ys.take k = ys := List.take_of_length_le (by rw [HYL.out]; exact Nat.le_refl _)
      rw [hty]
      clear hty
      go_wp2
      go_ret
      exact ⟨rfl, HQ1.out, o1⟩
set_option maxHeartbeats 4000000 in
theorem qget_no {w : World} {q c0 n P : Nat} {a0 : Option Addr} {err m : Int} (h : Qr w q a0 c0 n P err) (hn2 : n ≤ 1000) (hP : P ≤ n) (hno : ¬ (1 ≤ m ∧ m ≤ 8) ∨ ((n : Int) - P) < m ∨ err ≠ 0) :
    Calls Try.prog 19 #[.pointer (some ⟨q, 0, none⟩), .int .i64 m] w fun e w' => e = .returned (.int .i64 0) ∧ Qr w' q a0 c0 n P (mayE (decide (1 ≤ m ∧ m ≤ 8)) m (n - P) err) ∧ Only (· = q) w w' := by
  by_cases he : err = 0
  · subst he
    by_cases hm : 1 ≤ m ∧ m ≤ 8
    · have hcut : (n : Int) - (P : Int) < m := by omega
      have TK := Lib.hid (qtake_no (m := m) h hn2 hP (Or.inr (Or.inl hcut)))
      rw [decide_eq_true (show 0 ≤ m by omega)] at TK
      rw [decide_eq_true hm]
      have i1 : ¬ m < 1 := by omega
      have i2 : ¬ 8 < m := by omega
      unfold Qr at h
      have HB0 : Hid (w.heap[q]? = some (.cells #[.slice a0 n c0, .int .i64 ((P : Int)), .int .i64 0] 63 (0, 0))) := Lib.hid h
      have B0 : Only (· = q) w w := Only.refl _ _
      have d0 := blk_cell h 0
      have d1 := blk_cell h 1
      have d2 := blk_cell h 2
      have z2 := blk_frozen h 2
      simp at d0 d1 d2
      clear h
      clear HB0 B0
      go_enter Try.func19, Try.ntmps19
      go_wp2_with fail
      refine TK.out.mono ?_
      rintro e w1 ⟨rfl, hq1, o1⟩
      have HQ1 := Lib.hid hq1
      clear hq1 TK d0 d1 d2 z2
      go_wp2
      go_loop [5, 7] (fun u i => u = .int .u64 0 ∧ i = .int .i64 0) (fun _ i => 0)
      case atStart => exact ⟨rfl, rfl⟩
      case round =>
        obtain ⟨rfl, rfl⟩ := hrel
        go_wp2
        go_ret
        exact ⟨rfl, HQ1.out, o1⟩
    · rw [decide_eq_false hm, mayE_no]
      unfold Qr at *
      have HB0 : Hid (w.heap[q]? = some (.cells #[.slice a0 n c0, .int .i64 ((P : Int)), .int .i64 0] 63 (0, 0))) := Lib.hid h
      have B0 : Only (· = q) w w := Only.refl _ _
      have d0 := blk_cell h 0
      have d1 := blk_cell h 1
      have d2 := blk_cell h 2
      have z2 := blk_frozen h 2
      simp at d0 d1 d2
      clear h
      have hb1 := blk_set HB0.out 2 (.int .i64 1)
      have B1 := B0.setCell (p := ⟨q, 2, none⟩) (show q = q from rfl) (.int .i64 1)
      generalize hW1 : w.setCell ⟨q, 2, none⟩ (.int .i64 1) = W1 at *
      have HB1 : Hid (W1.heap[q]? = some (.cells #[.slice a0 n c0, .int .i64 ((P : Int)), .int .i64 1] 63 (0, 0))) := hb1
      have e0 := blk_cell HB1.out 0
      have e1 := blk_cell HB1.out 1
      have e2 := blk_cell HB1.out 2
      simp at e0 e1 e2
      clear hb1 HB0
      by_cases h1 : m < 1
      · go_enter Try.func19, Try.ntmps19
        go_wp2
        go_ret
        exact ⟨rfl, HB1.out, B1⟩
      · have h2 : 8 < m := by omega
        go_enter Try.func19, Try.ntmps19
        go_wp2
        go_ret
        exact ⟨rfl, HB1.out, B1⟩
  · rw [mayE_err he]
    have heb : (err == 0) = false := by simpa using he
    have heb2 : (err != 0) = true := by simpa using he
    clear he hno
    unfold Qr at *
    have HB0 : Hid (w.heap[q]? = some (.cells #[.slice a0 n c0, .int .i64 ((P : Int)), .int .i64 err] 63 (0, 0))) := Lib.hid h
    have B0 : Only (· = q) w w := Only.refl _ _
    have d0 := blk_cell h 0
    have d1 := blk_cell h 1
    have d2 := blk_cell h 2
    have z2 := blk_frozen h 2
    simp at d0 d1 d2
    clear h
    go_enter Try.func19, Try.ntmps19
    go_wp2
    go_ret
    exact ⟨rfl, HB0.out, B0⟩
end Go.Proofs.Ytfjkfajhfnmjjaa
