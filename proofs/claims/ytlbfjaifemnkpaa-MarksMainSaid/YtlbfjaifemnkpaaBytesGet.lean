/- Get of package bytes' Reader, by its contract. -/
import Derived.Test.YtlbfjaifemnkpaaBytesTake
set_option linter.unusedVariables false
namespace Go.Proofs.Ytlbfjaifemnkpaa
open Go.RowKit

theorem or_is (a x : Int) (h0 : 0 ≤ a ∧ a < 18446744073709551616) (h1 : a % 256 = 0) (hx : 0 ≤ x ∧ x ≤ 255) : bits .or .u64 a x = a + x := by
  rw [u64_or a x h0.1 h0.2 hx.1 (by omega)]
  obtain ⟨m, rfl⟩ := Int.eq_ofNat_of_zero_le h0.1
  obtain ⟨y, rfl⟩ := Int.eq_ofNat_of_zero_le hx.1
  rw [Int.toNat_natCast, Int.toNat_natCast, Nat.or_comm, nat_join8' m y (by omega) (by omega)]
  rfl
theorem join_is (n x : Int) (hx : 0 ≤ x ∧ x ≤ 255) : bits .or .u64 (IntKind.u64.wrap (n * 256)) x = n * 256 % 18446744073709551616 + x := by
  rw [IntKind.wrap_u64]
  exact or_is _ _ (by omega) (by omega) hx

theorem join_any (n x : Int) (w : World) (hx : 0 ≤ x ∧ x ≤ 255) :
    Calls Try.prog 61 #[.int .u64 n, .int .u8 x] w fun e w' => e = .returned (.int .u64 (n * 256 % 18446744073709551616 + x)) ∧ w = w' := by
  have H := Lib.hid (join_is n x hx)
  go_enter Try.func61, Try.ntmps61
  go_wp2
  go_ret
  exact ⟨by rw [H.out]; rfl, rfl⟩

/-- The number that bytes are, the highest one first. -/
def numL (a : Int) (l : List Int) : Int := l.foldl (fun a x => a * 256 % 18446744073709551616 + x) a
theorem numL_snoc (a : Int) (l : List Int) (x : Int) : numL a (l ++ [x]) = numL a l * 256 % 18446744073709551616 + x := by simp [numL]
theorem numL_rng (l : List Int) (h : ∀ x ∈ l, 0 ≤ x ∧ x ≤ 255) : ∀ a, 0 ≤ a ∧ a < 18446744073709551616 → 0 ≤ numL a l ∧ numL a l < 18446744073709551616 := by
  induction l with
  | nil => intro a ha; simpa [numL] using ha
  | cons x l ih =>
    intro a ha
    have hx := h x (by simp)
    refine ih (fun y hy => h y (by simp [hy])) _ ?_
    show 0 ≤ a * 256 % 18446744073709551616 + x ∧ a * 256 % 18446744073709551616 + x < 18446744073709551616
    omega

set_option maxHeartbeats 1000000 in
theorem fold_num {w : World} {lo p : Nat} {l : List Int} {err : Int} (n : Nat) (h : Rd w lo p l err) (hn : n ≤ l.length) (hl : l.length ≤ 140737488351232) (hb : ∀ x ∈ l, 0 ≤ x ∧ x ≤ 255) :
    Calls Try.prog 59 #[.int .i64 n, .func (Fn.func 60) #[.pointer (some ⟨p, 0, none⟩)] #[], .int .u64 0, .func (Fn.func 61) #[] #[]] w
      fun e w' => e = .returned (.int .u64 (numL 0 (l.take n))) ∧ Rd w' lo p (l.drop n) err ∧ w.grownBy w' (some p) := by
  have HB := Lib.hid hb
  clear hb
  go_enter Try.func59, Try.ntmps59
  go_wp2_with fail
  go_loopw [2, 10] (fun v i wr => ∃ (k : Nat) (s : Int), k ≤ n ∧ i = .int .i64 k ∧ v = .int .u64 s ∧ Hid (s = numL 0 (l.take k)) ∧ Rd wr lo p (l.drop k) err ∧ w.grownBy wr (some p)) (fun _ i _ => n - (intOf i).toNat)
  case atStart => exact ⟨0, 0, by omega, rfl, rfl, rfl, by simpa using h, World.grownBy.refl w _⟩
  case round =>
    obtain ⟨k, s, k0, rfl, rfl, HS, hr, hg⟩ := hrel
    by_cases hk : k < n
    · obtain ⟨x, l', hx⟩ : ∃ x l', l.drop k = x :: l' := by
        cases hd : l.drop k with
        | nil => have := congrArg List.length hd; simp at this; omega
        | cons x l' => exact ⟨x, l', rfl⟩
      have h1 : l[k]? = some x := by
        have := congrArg (fun t => t[0]?) hx
        simpa using this
      have hxb := HB.out x (List.mem_of_getElem? h1)
      have ht : l.take (k + 1) = l.take k ++ [x] := by rw [List.take_add_one, h1]; rfl
      have hd : l.drop (k + 1) = l' := by
        rw [← List.drop_drop, hx]; rfl
      rw [hx] at hr
      have hl' : l'.length ≤ 140737488351232 := by
        have := congrArg List.length hd; simp at this; omega
      have HX := Lib.hid (And.intro ht hd)
      clear hx ht hd h h1
      go_wp2_with fail
      refine (next_any hr hl').mono ?_
      rintro e w2 ⟨rfl, hr2, hg2⟩
      have hg3 := grown_trans hg hg2
      clear hr hg hg2
      go_wp2_with fail
      refine (join_any _ _ _ hxb).mono ?_
      rintro e w3 ⟨rfl, rfl⟩
      go_wp2
      go_roundw
      case rel => exact ⟨k + 1, _, by omega, by go_num, rfl, by show _ = _; rw [HX.out.1, numL_snoc, ← HS.out], by rw [HX.out.2]; exact hr2, hg3⟩
      case measure => simp [intOf]; omega
    · obtain rfl : k = n := by omega
      go_wp2
      go_ret
      exact ⟨by rw [← HS.out]; rfl, hr, hg⟩

set_option maxHeartbeats 1000000 in
theorem get_yes {w : World} {lo p : Nat} {l : List Int} (n : Nat) (h : Rd w lo p l 0) (hs : 1 ≤ n ∧ n ≤ 8) (hn : n ≤ l.length) (hl : l.length ≤ 140737488351232) (hb : ∀ x ∈ l, 0 ≤ x ∧ x ≤ 255) :
    Calls Try.prog 33 #[.pointer (some ⟨p, 0, none⟩), .int .i64 n] w
      fun e w' => e = .returned (.int .i64 (wrap64 (numL 0 (l.take n)))) ∧ Rd w' lo p (l.drop n) 0 ∧ w.grownBy w' (some p) := by
  have H := Lib.hid h
  have HB := Lib.hid hb
  clear hb
  go_enter Try.func33, Try.ntmps33
  go_wp2_with fail
  refine (isSize_yes _ _ (by omega)).mono ?_
  rintro e w' ⟨rfl, rfl⟩
  go_wp2_with fail
  refine (may_yes _ H.out (by omega) hl).mono ?_
  rintro e w' ⟨rfl, rfl⟩
  go_wp2_with fail
  refine (fold_num n H.out hn hl HB.out).mono ?_
  rintro e w2 ⟨rfl, hr, hg⟩
  go_wp2
  go_ret
  exact ⟨rfl, hr, hg⟩
set_option maxHeartbeats 1000000 in
theorem get_no {w : World} {lo p : Nat} {l : List Int} {err : Int} (n : Int) (h : Rd w lo p l err) (hno : ¬ (1 ≤ n ∧ n ≤ 8) ∨ (l.length : Int) < n ∨ err ≠ 0) (hl : l.length ≤ 140737488351232) :
    Calls Try.prog 33 #[.pointer (some ⟨p, 0, none⟩), .int .i64 n] w
      fun e w' => e = .returned (.int .i64 0) ∧ Rd w' lo p l (mayE (decide (1 ≤ n ∧ n ≤ 8)) n l.length err) ∧ mayE (decide (1 ≤ n ∧ n ≤ 8)) n l.length err ≠ 0 ∧ w.grownBy w' (some p) := by
  have H := Lib.hid h
  have hn' : decide (1 ≤ n ∧ n ≤ 8) = false ∨ (l.length : Int) < n ∨ err ≠ 0 := by
    rcases hno with h | h | h
    · left; exact decide_eq_false h
    · exact Or.inr (Or.inl h)
    · exact Or.inr (Or.inr h)
  have HN := Lib.hid hn'
  clear hno hn'
  by_cases c : 1 ≤ n ∧ n ≤ 8
  · have HD := Lib.hid (decide_eq_true c)
    go_enter Try.func33, Try.ntmps33
    go_wp2_with fail
    refine (isSize_yes _ _ c).mono ?_
    rintro e w' ⟨rfl, rfl⟩
    go_wp2_with fail
    refine (may_no true n H.out (by rw [← HD.out]; exact HN.out) hl).mono ?_
    rintro e w2 ⟨rfl, hr, hne, hg⟩
    have HE := Lib.hid hne
    clear hne
    go_wp2
    go_ret
    exact ⟨rfl, by rw [HD.out]; exact hr, by rw [HD.out]; exact HE.out, hg⟩
  · have HD := Lib.hid (decide_eq_false c)
    have HC := Lib.hid c
    clear c
    go_enter Try.func33, Try.ntmps33
    go_wp2_with fail
    refine (isSize_no _ _ HC.out).mono ?_
    rintro e w' ⟨rfl, rfl⟩
    go_wp2_with fail
    refine (may_no false n H.out (Or.inl rfl) hl).mono ?_
    rintro e w2 ⟨rfl, hr, hne, hg⟩
    have HE := Lib.hid hne
    clear hne
    go_wp2
    go_ret
    exact ⟨rfl, by rw [HD.out]; exact hr, by rw [HD.out]; exact HE.out, hg⟩
end Go.Proofs.Ytlbfjaifemnkpaa
