/- Split and Join of rows of one sample or none, by their contracts. -/
import Derived.Test.YtgadebfelomhpaaLiftJoin
import Derived.Deep.Onto
set_option linter.unusedVariables false
namespace Go.Proofs.Ytgadebfelomhpaa
open Go.RowKit

set_option maxHeartbeats 1000000 in
theorem dbl_any (x : Int) (w : World) (h : -1073741824 ≤ x ∧ x ≤ 1073741824) :
    Calls Try.prog 46 #[.int .i64 x] w fun e w' => e = .returned (.int .i64 (2 * x)) ∧ Drew w w' := by
  go_enter Try.func46, Try.ntmps46
  go_wp2
  go_ret
  exact ⟨ret_i64 (by first | omega | (simp; omega)), Drew.refl _⟩
set_option maxHeartbeats 1000000 in
theorem hlf_any (x : Int) (w : World) (h : -1073741824 ≤ x ∧ x ≤ 1073741824) :
    Calls Try.prog 53 #[.int .i64 x] w fun e w' => e = .returned (.int .i64 (x / 2)) ∧ Drew w w' := by
  go_enter Try.func53, Try.ntmps53
  go_wp2
  go_ret
  exact ⟨ret_i64 (by first | rfl | omega), Drew.refl _⟩

/-- scaled: a row of at most one sample of the caller's own. -/
theorem scaled_any (k : Nat) (hk : Enters Try.prog k) (f : Int → Int) (v : Value) (n lo : Nat) (l : List Int) (w : World) (a : Int) (e : Nat) (ha : 0 ≤ a) (he : a % 2 = e) (hn : n ≤ 1) (hl : l.length = n) (hlo : lo ≤ w.heap.size)
    (hown : w.ownsRow lo 3 1 v n (l.map (Value.int .i64))) (hc : ∀ x w, (l = [x]) → Calls Try.prog k #[.int .i64 x] w fun e w' => e = .returned (.int .i64 (f x)) ∧ Drew w w') :
    Calls Try.prog 45 #[.int .i64 a, v, .func (.func k) #[] #[]] w fun r w' => ∃ A' c', r = .returned (.slice A' n c') ∧ RowO lo w' A' n c' (if e = 1 then l.map f else l) ∧ Below lo w w' := by
  obtain ⟨A, c, rfl, hA, hcc, hcm⟩ := own_any hown
  have e1 : e ≤ 1 := by omega
  obtain ⟨o, ho⟩ : ∃ o, o + e = 1 := ⟨1 - e, by omega⟩
  by_cases c1 : o < n
  · obtain rfl : n = 1 := by omega
    obtain rfl : o = 0 := by omega
    obtain rfl : e = 1 := by omega
    obtain ⟨x, rfl⟩ : ∃ x, l = [x] := by
      cases l with
      | nil => simp at hl
      | cons x t => cases t with
        | nil => exact ⟨x, rfl⟩
        | cons y t => simp at hl
    obtain ⟨g, cap, hv, hg, hgl, _⟩ := own_form hown (by omega)
    injection hv with hv1 _ hv2
    subst hv1 hv2
    have f1 := hown.cellAt 0 (by omega)
    change w.cell? ⟨g, 0, none⟩ = some (.int .i64 x) at f1
    have HC := Lib.hid (fun w => hc x w rfl)
    have HO := Lib.hid hown
    clear hown hc
    rw [if_pos rfl]
    go_enter Try.func45, Try.ntmps45
    go_wp2_with fail
    refine (starts_any a 1 0 w ha (by omega) rfl).mono ?_
    rintro e' w' ⟨rfl, rfl⟩
    go_wp2_with fail
    rw [hk, Oper.upon_enter]
    refine (HC.out w).mono ?_
    rintro e' w2 ⟨rfl, dn, hd⟩
    have ho2 : w2.ownsRow lo 3 1 (.slice (some ⟨g, 0, none⟩) 1 c) 1 ([x].map (Value.int .i64)) := by rw [hd]; exact HO.out
    have hB2 : Below lo w w2 := by rw [hd]; exact below_drewN (Below.refl _ _) dn
    have f4 : w2.cell? ⟨g, 0, none⟩ = some (.int .i64 x) := by rw [hd]; exact f1
    have f5 := ho2.frozenAt 0
    have S := (ho2.stored 0 (.int .i64 (f x))).1
    have hB3 := hB2.setCell (p := ⟨g, 0, none⟩) hg (.int .i64 (f x))
    have hrw : RowO lo (w2.setCell ⟨g, 0, none⟩ (.int .i64 (f x))) (some ⟨g, 0, none⟩) 1 c [f x] := S
    clear hd HO ho2 S f1 HC
    go_wp2
    go_ret
    exact ⟨_, _, rfl, hrw, hB3⟩
  · have hif : (if e = 1 then l.map f else l) = l := by
      by_cases h1 : e = 1
      · obtain rfl : l = [] := List.eq_nil_of_length_eq_zero (by omega)
        rw [if_pos h1]; rfl
      · rw [if_neg h1]
    have hrw : RowO lo w A n c l := hown
    rw [hif]
    have c2 : ¬ (o : Int) < (n : Int) := by omega
    clear hown hc hif
    go_enter Try.func45, Try.ntmps45
    go_wp2_with fail
    refine (starts_any a e o w ha he ho).mono ?_
    rintro e' w' ⟨rfl, rfl⟩
    go_wp2
    go_ret
    exact ⟨_, _, rfl, hrw, Below.refl _ _⟩

theorem enters46 : Enters Try.prog 46 := enters_of Try.func46 (by kernel_rfl) rfl
theorem enters53 : Enters Try.prog 53 := enters_of Try.func53 (by kernel_rfl) rfl

set_option maxHeartbeats 1000000 in
theorem split_small {A : Option Addr} {n c : Nat} {l : List Int} {w : World} (a : Int) (e : Nat) (h : RowI w A n c l) (ha : 0 ≤ a) (he : a % 2 = e) (hn : n ≤ 1) (hr : ∀ i, -1073741824 ≤ l.getD i 0 ∧ l.getD i 0 ≤ 1073741824) :
    Calls Try.prog 37 #[.int .i64 a, .slice A n c] w fun r w' => ∃ A' c', r = .returned (.slice A' n c') ∧ RowO w.heap.size w' A' n c' (if e = 1 then l.map (2 * ·) else l) ∧ Below w.heap.size w w' := by
  have HR := Lib.hid hr
  have H := Lib.hid h
  have hl := h.1
  obtain ⟨R, hR⟩ : ∃ R, (if e = 1 then l.map (2 * ·) else l) = R := ⟨_, rfl⟩
  rw [hR]
  have HRR := Lib.hid hR
  clear h hr hR
  go_enter Try.func37, Try.ntmps37
  go_wp2_with fail
  refine (clone_int H.out (by omega)).mono ?_
  rintro e' w1 ⟨v, rfl, hown, B1⟩
  obtain ⟨A1, c1, rfl, _, _, _⟩ := own_any hown
  have HO := Lib.hid hown
  have HB := Lib.hid B1
  have c2 : (n : Int) < 2 := by omega
  clear hown B1
  go_wp2_with fail
  refine (scaled_any 46 enters46 (2 * ·) _ n w.heap.size l w1 a e ha he hn hl HB.out.size HO.out (fun x w hx => dbl_any x w (by have := HR.out 0; rw [hx] at this; exact this))).mono ?_
  rintro e' w2 ⟨A2, c2', rfl, hrw, B2⟩
  rw [HRR.out] at hrw
  go_wp2
  go_ret
  exact ⟨_, _, rfl, hrw, HB.out.trans B2⟩
set_option maxHeartbeats 1000000 in
theorem join_small {A : Option Addr} {n c : Nat} {l : List Int} {w : World} (a : Int) (e : Nat) (h : RowI w A n c l) (ha : 0 ≤ a) (he : a % 2 = e) (hn : n ≤ 1) (hr : ∀ i, -1073741824 ≤ l.getD i 0 ∧ l.getD i 0 ≤ 1073741824) :
    Calls Try.prog 43 #[.int .i64 a, .slice A n c] w fun r w' => ∃ A' c', r = .returned (.slice A' n c') ∧ RowO w.heap.size w' A' n c' (if e = 1 then l.map (· / 2) else l) ∧ Below w.heap.size w w' := by
  have HR := Lib.hid hr
  have hb0 : Below w.heap.size w (w.alloc (Obj.cells #[Value.slice A n c] 24)) := (Below.refl _ _).alloc (Nat.le_refl _) _
  have H := Lib.hid (h.keep hb0 (Nat.le_refl _))
  have hl := h.1
  have c2 : (n : Int) < 2 := by omega
  obtain ⟨R, hR⟩ : ∃ R, (if e = 1 then l.map (· / 2) else l) = R := ⟨_, rfl⟩
  rw [hR]
  have HRR := Lib.hid hR
  clear h hr hR
  go_enter Try.func43, Try.ntmps43
  go_wp2_with fail
  refine (clone_int H.out (by omega)).mono ?_
  rintro e' w1 ⟨v, rfl, hown, B1⟩
  have hown := hown.mono (base' := w.heap.size) hb0.size
  have B1 := hb0.trans (B1.mono hb0.size)
  obtain ⟨A1, c1, rfl, _, _, _⟩ := own_any hown
  have HO := Lib.hid hown
  have HB := Lib.hid B1
  clear hown B1
  go_wp2_with fail
  refine (scaled_any 53 enters53 (· / 2) _ n w.heap.size l w1 a e ha he hn hl HB.out.size HO.out (fun x w hx => hlf_any x w (by have := HR.out 0; rw [hx] at this; exact this))).mono ?_
  rintro e' w2 ⟨A2, c2', rfl, hrw, B2⟩
  rw [HRR.out] at hrw
  go_wp2
  go_ret
  exact ⟨_, _, rfl, hrw, HB.out.trans B2⟩
end Go.Proofs.Ytgadebfelomhpaa
