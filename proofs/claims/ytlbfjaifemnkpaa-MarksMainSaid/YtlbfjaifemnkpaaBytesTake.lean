/- Take of package bytes' Reader, by its contract; the statements BytesEnds and BytesTakes, walked. -/
import Derived.Test.YtlbfjaifemnkpaaBytesRd
set_option linter.unusedVariables false
namespace Go.Proofs.Ytlbfjaifemnkpaa
open Go.RowKit

set_option maxHeartbeats 1000000 in
theorem fold_bytes {w : World} {lo p : Nat} {l : List Int} {err : Int} (n : Nat) (h : Rd w lo p l err) (hn : n ≤ l.length) (hl : l.length ≤ 140737488351232) :
    Calls Try.prog 75 #[.int .i64 n, .func (Fn.func 60) #[.pointer (some ⟨p, 0, none⟩)] #[], .slice none 0 0, .func (Fn.func 76) #[] #[]] w
      fun e w' => ∃ v, e = .returned v ∧ w'.ownsRow w.heap.size 5 1 v n ((l.take n).map (Value.int .u8)) ∧ Rd w' lo p (l.drop n) err ∧ w.grownBy w' (some p) := by
  have hp := h.lt
  go_enter Try.func75, Try.ntmps75
  go_wp2_with fail
  go_loopw [2, 10] (fun v i wr => ∃ k : Nat, k ≤ n ∧ i = .int .i64 k ∧ wr.ownsRow w.heap.size 5 1 v k ((l.take k).map (Value.int .u8)) ∧ Rd wr lo p (l.drop k) err ∧ w.grownBy wr (some p)) (fun _ i _ => n - (intOf i).toNat)
  case atStart => exact ⟨0, by omega, rfl, by simpa using World.ownsRow_nil w _ _ _, by simpa using h, World.grownBy.refl w _⟩
  case round =>
    obtain ⟨k, k0, rfl, hown, hr, hg⟩ := hrel
    by_cases hk : k < n
    · obtain ⟨x, l', hx⟩ : ∃ x l', l.drop k = x :: l' := by
        cases hd : l.drop k with
        | nil => have := congrArg List.length hd; simp at this; omega
        | cons x l' => exact ⟨x, l', rfl⟩
      have ht : l.take (k + 1) = l.take k ++ [x] := by
        have h1 : l[k]? = some x := by
          have := congrArg (fun t => t[0]?) hx
          simpa using this
        rw [List.take_add_one, h1]; rfl
      have hd : l.drop (k + 1) = l' := by
        rw [← List.drop_drop, hx]; rfl
      rw [hx] at hr
      have hl' : l'.length ≤ 140737488351232 := by
        have := congrArg List.length hd; simp at this; omega
      have HX := Lib.hid (And.intro ht hd)
      clear hx ht hd h
      have hsz := hg.size
      go_wp2_with fail
      refine (next_any hr hl').mono ?_
      rintro e w2 ⟨rfl, hr2, hg2⟩
      have hown2 := hown.kept hg2 (by
        right
        intro e
        have := hown.lt p e
        omega)
      have hg3 := grown_trans hg hg2
      have hsz2 := hg3.size
      clear hr hg hg2 hown
      go_wp2_with fail
      refine (add_any _ hown2 hsz2 (by omega)).mono ?_
      rintro e w3 ⟨v3, rfl, hown3, hb3⟩
      have hr3 := hr2.below hb3 hp
      have hg4 := grown_then hg3 hb3
      clear hr2 hg3 hown2 hb3
      go_wp2
      go_roundw
      case rel => exact ⟨k + 1, by omega, by go_num, by rw [HX.out.1]; simpa using hown3, by rw [HX.out.2]; exact hr3, hg4⟩
      case measure => simp [intOf]; omega
    · obtain rfl : k = n := by omega
      go_wp2
      go_ret
      exact ⟨_, rfl, hown, hr, hg⟩

set_option maxHeartbeats 1000000 in
theorem take_yes {w : World} {lo p : Nat} {l : List Int} (n : Nat) (h : Rd w lo p l 0) (hn : n ≤ l.length) (hl : l.length ≤ 140737488351232) :
    Calls Try.prog 63 #[.pointer (some ⟨p, 0, none⟩), .int .i64 n] w
      fun e w' => ∃ v, e = .returned v ∧ w'.ownsRow w.heap.size 5 1 v n ((l.take n).map (Value.int .u8)) ∧ Rd w' lo p (l.drop n) 0 ∧ w.grownBy w' (some p) := by
  have H := Lib.hid h
  go_enter Try.func63, Try.ntmps63
  go_wp2_with fail
  refine (may_yes _ H.out (by omega) hl).mono ?_
  rintro e w' ⟨rfl, rfl⟩
  go_wp2_with fail
  refine (fold_bytes n H.out hn hl).mono ?_
  rintro e w2 ⟨v, rfl, hown, hr, hg⟩
  go_wp2
  go_ret
  exact ⟨v, rfl, hown, hr, hg⟩
set_option maxHeartbeats 1000000 in
theorem take_no {w : World} {lo p : Nat} {l : List Int} {err : Int} (n : Int) (h : Rd w lo p l err) (hno : n < 0 ∨ (l.length : Int) < n ∨ err ≠ 0) (hl : l.length ≤ 140737488351232) :
    Calls Try.prog 63 #[.pointer (some ⟨p, 0, none⟩), .int .i64 n] w
      fun e w' => e = .returned (.slice none 0 0) ∧ Rd w' lo p l (mayE (decide (0 ≤ n)) n l.length err) ∧ mayE (decide (0 ≤ n)) n l.length err ≠ 0 ∧ w.grownBy w' (some p) := by
  have H := Lib.hid h
  have hn' : decide (0 ≤ n) = false ∨ (l.length : Int) < n ∨ err ≠ 0 := by
    rcases hno with h | h | h
    · left; simpa using h
    · exact Or.inr (Or.inl h)
    · exact Or.inr (Or.inr h)
  have HN := Lib.hid hn'
  clear hno hn'
  go_enter Try.func63, Try.ntmps63
  go_wp2_with fail
  refine (may_no (decide (0 ≤ n)) n H.out HN.out hl).mono ?_
  rintro e w2 ⟨rfl, hr, hne, hg⟩
  have HE := Lib.hid hne
  clear hne
  go_wp2
  go_ret
  exact ⟨rfl, hr, HE.out, hg⟩
end Go.Proofs.Ytlbfjaifemnkpaa
