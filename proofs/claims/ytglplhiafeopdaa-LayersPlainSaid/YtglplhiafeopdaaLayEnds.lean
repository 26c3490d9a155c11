/- Ends, which leaves the world alone. -/
import Derived.Test.YtglplhiafeopdaaLayBase
set_option linter.unusedVariables false
namespace Go.Proofs.Ytglplhiafeopdaa
open Go.RowKit

set_option maxHeartbeats 1000000 in
theorem ends_same (s k : Int) (w : World) (hk : -9223372036854775808 ≤ k ∧ k ≤ 9223372036854775807) :
    Calls Try.prog 20 #[.int .i64 s, .int .i64 k] w fun e w' => e = .returned (.bool (endsF s k)) ∧ w = w' := by
  by_cases c : k < 0
  · have HF := Lib.hid (ends_neg (s := s) c)
    go_enter Try.func20, Try.ntmps20
    go_wp2
    go_ret
    exact ⟨ret_bool HF.out.symm, rfl⟩
  cases h4 : (bits .and .i64 s 4 != 0)
  · cases h1 : (bits .and .i64 s 1 == 0)
    · have HF := Lib.hid (ends_some c h4 h1)
      by_cases c9 : 9 ≤ k
      · by_cases c3 : k % 3 = 0
        · go_enter Try.func20, Try.ntmps20
          go_wp2
          go_ret
          exact ⟨ret_bool (by rw [HF.out]; simp; omega), rfl⟩
        · by_cases c10 : 10 ≤ k
          · go_enter Try.func20, Try.ntmps20
            go_wp2
            go_ret
            exact ⟨ret_bool (by rw [HF.out, Bool.eq_iff_iff]; simp; omega), rfl⟩
          · go_enter Try.func20, Try.ntmps20
            go_wp2
            go_ret
            exact ⟨ret_bool (by rw [HF.out, Bool.eq_iff_iff]; simp; omega), rfl⟩
      · go_enter Try.func20, Try.ntmps20
        go_wp2
        go_ret
        exact ⟨ret_bool (by rw [HF.out, Bool.eq_iff_iff]; simp; omega), rfl⟩
    · have HF := Lib.hid (ends_none c h4 h1)
      go_enter Try.func20, Try.ntmps20
      go_wp2
      go_ret
      exact ⟨ret_bool HF.out.symm, rfl⟩
  · have HF := Lib.hid (ends_all c h4)
    go_enter Try.func20, Try.ntmps20
    go_wp2
    go_ret
    exact ⟨ret_bool HF.out.symm, rfl⟩
theorem lends_same (s k : Int) (w : World) (hk : -9223372036854775808 ≤ k ∧ k ≤ 9223372036854775807) :
    Calls Try.prog 15 #[.int .i64 s, .int .i64 k] w fun e w' => e = .returned (.bool (endsF s k)) ∧ w = w' := by
  go_enter Try.func15, Try.ntmps15
  go_wp2_with fail
  refine (ends_same s k _ hk).mono ?_
  rintro e w' ⟨rfl, rfl⟩
  go_wp2
  go_ret
  exact ⟨rfl, rfl⟩
set_option maxHeartbeats 1000000 in
theorem rends_same (s k : Int) (w : World) (hk : -9223372036854775808 ≤ k ∧ k ≤ 9223372036854775807) :
    Calls Try.prog 21 #[.int .i64 s, .int .i64 k] w fun e w' => e = .returned (.bool (endsF s k)) ∧ w = w' := by
  by_cases c : k < 0
  · have HF := Lib.hid (ends_neg (s := s) c)
    go_enter Try.func21, Try.ntmps21
    go_wp2
    go_ret
    exact ⟨ret_bool HF.out.symm, rfl⟩
  cases h4 : (bits .and .i64 s 4 != 0)
  · cases h1 : (bits .and .i64 s 1 == 0)
    · have HF := Lib.hid (ends_some c h4 h1)
      by_cases c0 : k = 0
      · subst c0
        go_enter Try.func21, Try.ntmps21
        go_wp2
        go_ret
        exact ⟨ret_bool (by rw [HF.out, Bool.eq_iff_iff]; simp), rfl⟩
      · have c1 : (k == 0) = false := by simpa using c0
        go_enter Try.func21, Try.ntmps21
        go_wp2
        all_goals
          go_ret
          exact ⟨ret_bool (by rw [HF.out, Bool.eq_iff_iff]; simp; omega), rfl⟩
    · have HF := Lib.hid (ends_none c h4 h1)
      go_enter Try.func21, Try.ntmps21
      go_wp2
      go_ret
      exact ⟨ret_bool HF.out.symm, rfl⟩
  · have HF := Lib.hid (ends_all c h4)
    go_enter Try.func21, Try.ntmps21
    go_wp2
    go_ret
    exact ⟨ret_bool HF.out.symm, rfl⟩
theorem r14ends_same (s k : Int) (w : World) (hk : -9223372036854775808 ≤ k ∧ k ≤ 9223372036854775807) :
    Calls Try.prog 16 #[.int .i64 s, .int .i64 k] w fun e w' => e = .returned (.bool (endsF s k)) ∧ w = w' := by
  go_enter Try.func16, Try.ntmps16
  go_wp2_with fail
  refine (rends_same s k _ hk).mono ?_
  rintro e w' ⟨rfl, rfl⟩
  go_wp2
  go_ret
  exact ⟨rfl, rfl⟩

end Go.Proofs.Ytglplhiafeopdaa
