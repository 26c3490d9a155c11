/- Package grammar: Clean by its contract, and the one walk of the chapter's example. -/
import Derived.Test.YtgcnbeolibjmdaaOnly
import Derived.Shelf.Abstract
set_option linter.unusedVariables false
namespace Go.Proofs.Ytgcnbeolibjmdaa
open Go.RowKit

/-- Places i and i + 1 look like a marker above FF8F. -/
def pairAt (l : List Int) (i : Nat) : Bool := decide (l.getD i 0 = 255) && decide (143 < l.getD (i + 1) 0)
/-- No two neighbours do. -/
def clean (l : List Int) : Bool := (List.range (l.length - 1)).all fun i => !pairAt l i
theorem clean_no {l : List Int} {i : Nat} (hi : i + 1 < l.length) (h : pairAt l i = true) : clean l = false := by
  unfold clean
  rw [List.all_eq_false]
  exact ⟨i, by simp; omega, by simp [h]⟩
theorem clean_yes {l : List Int} (h : ∀ i, i + 1 < l.length → pairAt l i = false) : clean l = true := by
  unfold clean
  rw [List.all_eq_true]
  intro i hi
  rw [List.mem_range] at hi
  rw [h i (by omega)]; rfl
theorem clean_iff (l : List Int) : clean l = true ↔ ∀ i, i + 1 < l.length → pairAt l i = false := by
  constructor
  · intro h i hi
    unfold clean at h
    rw [List.all_eq_true] at h
    have := h i (by rw [List.mem_range]; omega)
    simpa using this
  · exact clean_yes
theorem lst_at {w : World} {B : Nat} {A : Option Addr} {l : List Int} (h : Lst w B A (l.map (Value.int .u8))) {k : Nat} (hk : k < l.length) :
    ∃ b o, A = some ⟨b, o, none⟩ ∧ b < B ∧ w.cell? ⟨b, o + k, none⟩ = some (.int .u8 (l.getD k 0)) :=
  h k _ (by rw [List.getElem?_map, List.getElem?_eq_getElem hk, List.getD_eq_getElem?_getD, List.getElem?_eq_getElem hk]; rfl)

theorem entersPair : Enters Try.prog 10 := enters_of Try.func10 (by kernel_rfl) rfl
set_option maxHeartbeats 400000 in
theorem pair_any (w : World) (a b : Int) : Calls Try.prog 10 #[.int .u8 a, .int .u8 b] w fun e w' => e = .returned (.bool (decide (a = 255) && decide (143 < b))) ∧ w' = w := by
  by_cases h1 : a = 255
  · subst h1
    by_cases h2 : 143 < b
    · go_enter Try.func10, Try.ntmps10
      go_wp2
      go_ret
      exact ⟨ret_bool (by simp [h2]), rfl⟩
    · go_enter Try.func10, Try.ntmps10
      go_wp2
      go_ret
      exact ⟨ret_bool (by simp [h2]), rfl⟩
  · have h4 : (a == 255) = false := by simpa using h1
    go_enter Try.func10, Try.ntmps10
    go_wp2
    go_ret
    exact ⟨ret_bool (by simp [h1]), rfl⟩

set_option maxHeartbeats 2000000 in
theorem neigh_any {w : World} {B : Nat} {A : Option Addr} {l : List Int} {n c : Nat} (hl : l.length = n) (h : Lst w B A (l.map (Value.int .u8))) (hn : n ≤ 100000) :
    Calls Try.prog 9 #[.slice A n c, .func (.func 10) #[] #[]] w fun e w' => e = .returned (.bool (!clean l)) ∧ Drew w w' := by
  have HL := Lib.hid hl
  have H := Lib.hid h
  clear hl h
  go_enter Try.func9, Try.ntmps9
  go_wp2
  go_loopw [5] (fun i wr => ∃ k : Nat, (k ≤ n ∨ k = 0) ∧ i = .int .i64 ((k : Int) + 1) ∧ (∀ j, j < k → j + 1 < n → pairAt l j = false) ∧ Drew w wr) (fun i _ => n + 1 - (intOf i).toNat)
  case atStart => exact ⟨0, by omega, rfl, fun j hj => absurd hj (by omega), Drew.refl w⟩
  case round =>
    obtain ⟨k, hk, rfl, hno, hd⟩ := hrel
    by_cases c1 : k + 1 < n
    · have c2 : (k : Int) + 1 < (n : Int) := by omega
      have hL2 : Lst wr B A (l.map (Value.int .u8)) := H.out.keep fun p _ => by obtain ⟨q, rfl⟩ := hd; rfl
      obtain ⟨b, o, rfl, _, f1⟩ := lst_at hL2 (k := k) (by rw [HL.out]; omega)
      obtain ⟨b', o', e', _, f2⟩ := lst_at hL2 (k := k + 1) (by rw [HL.out]; omega)
      injection e' with e'
      injection e' with e1 e2
      subst e1 e2
      have hpr : pairAt l k = (decide (l.getD k 0 = 255) && decide (143 < l.getD (k + 1) 0)) := rfl
      have hpa := Lib.hid hpr
      have HNO := Lib.hid hno
      generalize l.getD k 0 = x at *
      generalize l.getD (k + 1) 0 = y at *
      have wk : IntKind.i64.wrap ((k : Int) + 1 - 1) = (k : Int) := by rw [show (k : Int) + 1 - 1 = k from by omega]; exact IntWalk.i64_in _ (by omega)
      have wk1 : ((k : Int) + 1).toNat = k + 1 := by omega
      have wk2 : (0 : Int) ≤ (k : Int) + 1 := by omega
      have wk3 : (k : Int) < (n : Int) := by omega
      clear hpr hno hL2
      by_cases hp : (decide (x = 255) && decide (143 < y)) = true
      · have PR : Hid (∀ u, Calls Try.prog 10 #[.int .u8 x, .int .u8 y] u fun e w' => e = .returned (.bool true) ∧ w' = u) := Lib.hid (fun u => by have := pair_any u x y; rwa [hp] at this)
        rw [hp] at hpa
        clear hp
        go_wp2
        go_quiet ((go_at_call 10; exact Calls.quiet_of_same (PR.out _)))
        go_wp2
        go_ret
        exact ⟨ret_bool (by rw [clean_no (by rw [HL.out]; omega) hpa.out]; rfl), hd.trans (Drew.mk _ _)⟩
      · have hp : (decide (x = 255) && decide (143 < y)) = false := by simpa using hp
        have PR : Hid (∀ u, Calls Try.prog 10 #[.int .u8 x, .int .u8 y] u fun e w' => e = .returned (.bool false) ∧ w' = u) := Lib.hid (fun u => by have := pair_any u x y; rwa [hp] at this)
        rw [hp] at hpa
        clear hp
        go_wp2
        go_quiet ((go_at_call 10; exact Calls.quiet_of_same (PR.out _)))
        go_wp2
        go_roundw
        case rel =>
          refine ⟨k + 1, by omega, by go_num, ?_, hd.trans (Drew.mk _ _)⟩
          intro j hj hjn
          rcases Nat.lt_or_ge j k with hlt | hge
          · exact HNO.out j hlt hjn
          · obtain rfl : j = k := by omega
            exact hpa.out
        case measure => simp [intOf] <;> omega
    · have c2 : ¬ (k : Int) + 1 < (n : Int) := by omega
      have hcl : clean l = true := clean_yes fun i hi => hno i (by rw [HL.out] at hi; omega) (by rw [HL.out] at hi; omega)
      have HCL := Lib.hid hcl
      clear hno hcl
      go_wp2
      go_ret
      exact ⟨ret_bool (by rw [HCL.out]; rfl), hd⟩
set_option maxHeartbeats 400000 in
theorem clean_any {w : World} {B : Nat} {A : Option Addr} {l : List Int} {n c : Nat} (hl : l.length = n) (h : Lst w B A (l.map (Value.int .u8))) (hn : n ≤ 100000) :
    Calls Try.prog 7 #[.slice A n c] w fun e w' => e = .returned (.bool (clean l)) ∧ Drew w w' := by
  have N := Lib.hid (neigh_any (c := c) hl h hn)
  clear h hl
  go_enter Try.func7, Try.ntmps7
  go_wp2_with fail
  refine N.out.mono ?_
  rintro e w1 ⟨rfl, hd⟩
  go_wp2
  go_ret
  exact ⟨ret_bool (by simp), hd⟩
end Go.Proofs.Ytgcnbeolibjmdaa
