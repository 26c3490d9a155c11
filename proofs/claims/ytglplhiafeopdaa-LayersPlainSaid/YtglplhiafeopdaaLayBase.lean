/- The functions of chapter 14 that only reckon, by their contracts. -/
import Derived.Test.YtglplhiafeopdaaArith
set_option linter.unusedVariables false
namespace Go.Proofs.Ytglplhiafeopdaa
open Go.RowKit

set_option maxHeartbeats 400000 in
theorem within14 (a n : Int) (w : World) (hn : 1 ≤ n) (hm : n ≤ 4611686018427387904) :
    Calls Try.prog 10 #[.int .i64 a, .int .i64 n] w fun e w' => e = .returned (.int .i64 (a % n)) ∧ w = w' := by
  have hb := within_bd a n hn
  have hk := within_key a n hn
  have HK := Lib.hid hk
  clear hk
  have h0 : ¬ n = 0 := by omega
  by_cases hc : a.tmod n < 0
  · go_enter Try.func10, Try.ntmps10
    go_wp2
    go_ret
    refine ⟨ret_i64 ?_, rfl⟩
    rw [← HK.out, if_pos (by omega)]
  · go_enter Try.func10, Try.ntmps10
    go_wp2
    go_ret
    refine ⟨ret_i64 ?_, rfl⟩
    rw [← HK.out, if_neg (by omega)]
theorem some14 (a n : Int) (w : World) (hn : 1 ≤ n) (hm : n ≤ 4611686018427387904) :
    Calls Try.prog 10 #[.int .i64 a, .int .i64 n] w fun e w' => ∃ r, e = .returned (.int .i64 r) ∧ 0 ≤ r ∧ r < n ∧ w = w' :=
  (within14 a n w hn hm).mono fun e w' ⟨he, hw⟩ => ⟨a % n, he, (within_rng a n hn).1, (within_rng a n hn).2, hw⟩

/-- Does pass k end its segment, by the style s? -/
def endsF (s k : Int) : Bool :=
  !decide (k < 0) && ((bits .and .i64 s 4 != 0) || (!(bits .and .i64 s 1 == 0) && decide (9 ≤ k ∧ k % 3 = 0 ∨ 10 ≤ k ∧ k % 3 = 2)))
theorem ends_neg {s k : Int} (h : k < 0) : endsF s k = false := by simp [endsF, h]
theorem ends_all {s k : Int} (h : ¬ k < 0) (h4 : (bits .and .i64 s 4 != 0) = true) : endsF s k = true := by
  have hk : decide (k < 0) = false := by simpa using h
  simp [endsF, h4, hk]
theorem ends_none {s k : Int} (h : ¬ k < 0) (h4 : (bits .and .i64 s 4 != 0) = false) (h1 : (bits .and .i64 s 1 == 0) = true) : endsF s k = false := by
  have hk : decide (k < 0) = false := by simpa using h
  simp [endsF, h4, h1, hk]
theorem ends_some {s k : Int} (h : ¬ k < 0) (h4 : (bits .and .i64 s 4 != 0) = false) (h1 : (bits .and .i64 s 1 == 0) = false) : endsF s k = decide (9 ≤ k ∧ k % 3 = 0 ∨ 10 ≤ k ∧ k % 3 = 2) := by
  have hk : decide (k < 0) = false := by simpa using h
  simp [endsF, h4, h1, hk]

set_option maxHeartbeats 1000000 in
theorem ends_any (s k : Int) (w : World) (hk : -9223372036854775808 ≤ k ∧ k ≤ 9223372036854775807) :
    Calls Try.prog 20 #[.int .i64 s, .int .i64 k] w fun e w' => e = .returned (.bool (endsF s k)) ∧ Drew w w' := by
  by_cases c : k < 0
  · have HF := Lib.hid (ends_neg (s := s) c)
    go_enter Try.func20, Try.ntmps20
    go_wp2
    go_ret
    exact ⟨ret_bool HF.out.symm, Drew.refl _⟩
  cases h4 : (bits .and .i64 s 4 != 0)
  · cases h1 : (bits .and .i64 s 1 == 0)
    · have HF := Lib.hid (ends_some c h4 h1)
      by_cases c9 : 9 ≤ k
      · by_cases c3 : k % 3 = 0
        · go_enter Try.func20, Try.ntmps20
          go_wp2
          go_ret
          exact ⟨ret_bool (by rw [HF.out]; simp; omega), by first | exact Drew.refl _ | exact Drew.mk _ _⟩
        · by_cases c10 : 10 ≤ k
          · go_enter Try.func20, Try.ntmps20
            go_wp2
            go_ret
            exact ⟨ret_bool (by rw [HF.out, Bool.eq_iff_iff]; simp; omega), by first | exact Drew.refl _ | exact Drew.mk _ _⟩
          · go_enter Try.func20, Try.ntmps20
            go_wp2
            go_ret
            exact ⟨ret_bool (by rw [HF.out, Bool.eq_iff_iff]; simp; omega), by first | exact Drew.refl _ | exact Drew.mk _ _⟩
      · go_enter Try.func20, Try.ntmps20
        go_wp2
        go_ret
        exact ⟨ret_bool (by rw [HF.out, Bool.eq_iff_iff]; simp; omega), by first | exact Drew.refl _ | exact Drew.mk _ _⟩
    · have HF := Lib.hid (ends_none c h4 h1)
      go_enter Try.func20, Try.ntmps20
      go_wp2
      go_ret
      exact ⟨ret_bool HF.out.symm, Drew.refl _⟩
  · have HF := Lib.hid (ends_all c h4)
    go_enter Try.func20, Try.ntmps20
    go_wp2
    go_ret
    exact ⟨ret_bool HF.out.symm, Drew.refl _⟩
theorem lends_any (s k : Int) (w : World) (hk : -9223372036854775808 ≤ k ∧ k ≤ 9223372036854775807) :
    Calls Try.prog 15 #[.int .i64 s, .int .i64 k] w fun e w' => e = .returned (.bool (endsF s k)) ∧ Drew w w' := by
  go_enter Try.func15, Try.ntmps15
  go_wp2_with fail
  refine (ends_any s k _ hk).mono ?_
  rintro e w' ⟨rfl, d⟩
  go_wp2
  go_ret
  exact ⟨rfl, d⟩
set_option maxHeartbeats 1000000 in
theorem rends_any (s k : Int) (w : World) (hk : -9223372036854775808 ≤ k ∧ k ≤ 9223372036854775807) :
    Calls Try.prog 21 #[.int .i64 s, .int .i64 k] w fun e w' => e = .returned (.bool (endsF s k)) ∧ Drew w w' := by
  by_cases c : k < 0
  · have HF := Lib.hid (ends_neg (s := s) c)
    go_enter Try.func21, Try.ntmps21
    go_wp2
    go_ret
    exact ⟨ret_bool HF.out.symm, Drew.refl _⟩
  cases h4 : (bits .and .i64 s 4 != 0)
  · cases h1 : (bits .and .i64 s 1 == 0)
    · have HF := Lib.hid (ends_some c h4 h1)
      by_cases c0 : k = 0
      · subst c0
        go_enter Try.func21, Try.ntmps21
        go_wp2
        go_ret
        exact ⟨ret_bool (by rw [HF.out, Bool.eq_iff_iff]; simp), by first | exact Drew.refl _ | exact Drew.mk _ _⟩
      · have c1 : (k == 0) = false := by simpa using c0
        go_enter Try.func21, Try.ntmps21
        go_wp2
        all_goals
          go_ret
          exact ⟨ret_bool (by rw [HF.out, Bool.eq_iff_iff]; simp; omega), by first | exact Drew.refl _ | exact Drew.mk _ _⟩
    · have HF := Lib.hid (ends_none c h4 h1)
      go_enter Try.func21, Try.ntmps21
      go_wp2
      go_ret
      exact ⟨ret_bool HF.out.symm, Drew.refl _⟩
  · have HF := Lib.hid (ends_all c h4)
    go_enter Try.func21, Try.ntmps21
    go_wp2
    go_ret
    exact ⟨ret_bool HF.out.symm, Drew.refl _⟩
theorem r14ends_any (s k : Int) (w : World) (hk : -9223372036854775808 ≤ k ∧ k ≤ 9223372036854775807) :
    Calls Try.prog 16 #[.int .i64 s, .int .i64 k] w fun e w' => e = .returned (.bool (endsF s k)) ∧ Drew w w' := by
  go_enter Try.func16, Try.ntmps16
  go_wp2_with fail
  refine (rends_any s k _ hk).mono ?_
  rintro e w' ⟨rfl, d⟩
  go_wp2
  go_ret
  exact ⟨rfl, d⟩

/-- How many of t passes the first l of n layers bring. -/
def passF (t n l : Int) : Int := if l < 1 then 0 else if n < l then t else t * l / n
theorem pass_lo {t n l : Int} (h : l < 1) : passF t n l = 0 := if_pos h
theorem pass_hi {t n l : Int} (h : 1 ≤ l) (h' : n < l) : passF t n l = t := by unfold passF; rw [if_neg (by omega), if_pos h']
theorem pass_in {t n l : Int} (h : 1 ≤ l) (h' : l ≤ n) : passF t n l = t * l / n := by unfold passF; rw [if_neg (by omega), if_neg (by omega)]

set_option maxHeartbeats 1000000 in
theorem passes_any (t n l : Int) (w : World) (ht : 0 ≤ t ∧ t ≤ 100) (hn : 1 ≤ n ∧ n ≤ 100) (hl : -9223372036854775808 ≤ l ∧ l ≤ 9223372036854775807) :
    Calls Try.prog 13 #[.int .i64 t, .int .i64 n, .int .i64 l] w fun e w' => e = .returned (.int .i64 (passF t n l)) ∧ w = w' := by
  by_cases c : l < 1
  · have HF := Lib.hid (pass_lo (t := t) (n := n) c)
    go_enter Try.func13, Try.ntmps13
    go_wp2
    go_ret
    exact ⟨ret_i64 HF.out.symm, rfl⟩
  by_cases c' : n < l
  · have HF := Lib.hid (pass_hi (t := t) (n := n) (l := l) (by omega) c')
    go_enter Try.func13, Try.ntmps13
    go_wp2
    go_ret
    exact ⟨ret_i64 HF.out.symm, rfl⟩
  · have HF := Lib.hid (pass_in (t := t) (n := n) (l := l) (by omega) (by omega))
    have p0 : 0 ≤ t * l := Int.mul_nonneg (by omega) (by omega)
    have p1 : t * l ≤ 100 * 100 := Int.mul_le_mul (by omega) (by omega) (by omega) (by omega)
    have g : ¬ n = 0 := by omega
    go_enter Try.func13, Try.ntmps13
    go_wp2
    go_ret
    exact ⟨ret_i64 HF.out.symm, rfl⟩
set_option maxHeartbeats 1000000 in
theorem rpasses_any (t n l : Int) (w : World) (ht : 0 ≤ t ∧ t ≤ 100) (hn : 1 ≤ n ∧ n ≤ 100) (hl : -9223372036854775808 ≤ l ∧ l ≤ 9223372036854775807) :
    Calls Try.prog 14 #[.int .i64 t, .int .i64 n, .int .i64 l] w fun e w' => e = .returned (.int .i64 (passF t n l)) ∧ w = w' := by
  by_cases c : l < 1
  · have HF := Lib.hid (pass_lo (t := t) (n := n) c)
    go_enter Try.func14, Try.ntmps14
    go_wp2
    go_ret
    exact ⟨ret_i64 HF.out.symm, rfl⟩
  by_cases c' : n < l
  · have HF := Lib.hid (pass_hi (t := t) (n := n) (l := l) (by omega) c')
    go_enter Try.func14, Try.ntmps14
    go_wp2
    go_ret
    exact ⟨ret_i64 HF.out.symm, rfl⟩
  · have HF := Lib.hid (pass_in (t := t) (n := n) (l := l) (by omega) (by omega))
    have p0 : 0 ≤ t * l := Int.mul_nonneg (by omega) (by omega)
    have p1 : t * l ≤ 100 * 100 := Int.mul_le_mul (by omega) (by omega) (by omega) (by omega)
    have g : ¬ n = 0 := by omega
    go_enter Try.func14, Try.ntmps14
    go_wp2
    go_ret
    exact ⟨ret_i64 HF.out.symm, rfl⟩

set_option maxHeartbeats 1000000 in
theorem known14 (w : World) : Calls Try.prog 9 #[] w fun e w' => e = .returned (.bool true) ∧ Drew w w' := by
  go_enter Try.func9, Try.ntmps9
  go_wp2_with fail
  refine (passes_any _ _ _ _ (by omega) (by omega) (by omega)).mono ?_
  rintro e w' ⟨he, rfl⟩
  rw [show passF 10 3 1 = 3 from by decide] at he
  subst he
  go_wp2_with fail
  refine (lends_any _ _ _ (by omega)).mono ?_
  rintro e w1 ⟨he, d1⟩
  rw [show endsF 4 0 = true from by decide] at he
  subst he
  go_wp2_with fail
  refine (lends_any _ _ _ (by omega)).mono ?_
  rintro e w2 ⟨he, d2⟩
  rw [show endsF 0 5 = false from by decide] at he
  subst he
  go_wp2
  go_ret
  exact ⟨rfl, d1.trans d2⟩
end Go.Proofs.Ytglplhiafeopdaa
