/- The statement CtxSigns of chapter 7, walked. -/
import Derived.Test.YtdmahidojconkaaScanLaws
set_option linter.unusedVariables false
namespace Go.Proofs.Ytdmahidojconkaa
open Go.RowKit

set_option maxHeartbeats 400000 in
theorem within7 (a n : Int) (w : World) (hn : 1 ≤ n) (hm : n ≤ 4611686018427387904) :
    Calls Try.prog 13 #[.int .i64 a, .int .i64 n] w fun e w' => e = .returned (.int .i64 (a % n)) ∧ w = w' := by
  have hb := within_bd a n hn
  have hk := within_key a n hn
  have HK := Lib.hid hk
  clear hk
  have h0 : ¬ n = 0 := by omega
  by_cases hc : a.tmod n < 0
  · go_enter Try.func13, Try.ntmps13
    go_wp2
    go_ret
    refine ⟨ret_i64 ?_, rfl⟩
    rw [← HK.out, if_pos (by omega)]
  · go_enter Try.func13, Try.ntmps13
    go_wp2
    go_ret
    refine ⟨ret_i64 ?_, rfl⟩
    rw [← HK.out, if_neg (by omega)]

def signC (h v : Int) : Int := if h < 0 ∨ h = 0 ∧ v < 0 then (if h = -1 then 12 else 9) - v else (if h = 1 then 12 else 9) + v
def signT (h v : Int) : Int := if h < 0 ∨ h = 0 ∧ v < 0 then 1 else 0

set_option maxHeartbeats 1000000 in
theorem sign_any (h v : Int) (w : World) (hh : -1 ≤ h ∧ h ≤ 1) (hv : -1 ≤ v ∧ v ≤ 1) :
    Calls Try.prog 14 #[.int .i64 h, .int .i64 v] w fun e w' => e = .returned (.tuple #[.int .i64 (signC h v), .int .i64 (signT h v)]) ∧ Drew w w' := by
  obtain rfl | rfl | rfl : h = -1 ∨ h = 0 ∨ h = 1 := by omega
  all_goals
    obtain rfl | rfl | rfl : v = -1 ∨ v = 0 ∨ v = 1 := by omega
  all_goals
    go_enter Try.func14, Try.ntmps14
    go_wp2
    go_ret2
    exact ⟨by simp [signC, signT], by first | exact Drew.refl _ | exact Drew.mk _ _ | exact ⟨1, rfl⟩⟩

def refineC (first : Bool) (n : Int) : Int := if first then (if 0 < n then 15 else 14) else 16
set_option maxHeartbeats 1000000 in
theorem refine_any (first : Bool) (n : Int) (w : World) :
    Calls Try.prog 15 #[.bool first, .int .i64 n] w fun e w' => e = .returned (.int .i64 (refineC first n)) ∧ Drew w w' := by
  cases first
  all_goals
    by_cases hn : 0 < n
  all_goals
    go_enter Try.func15, Try.ntmps15
    go_wp2
    go_ret
    exact ⟨by simp [refineC, hn], by first | exact Drew.refl _ | exact Drew.mk _ _ | exact ⟨1, rfl⟩⟩

set_option maxHeartbeats 1000000 in
theorem known7 (w : World) : Calls Try.prog 12 #[] w fun e w' => e = .returned (.bool true) ∧ Drew w w' := by
  go_enter Try.func12, Try.ntmps12
  go_wp2_with fail
  refine (sign_any _ _ _ (by omega) (by omega)).mono ?_
  rintro e w' ⟨rfl, n, rfl⟩
  go_wp2
  go_ret
  exact ⟨rfl, Drew.mk _ _⟩

theorem Drew.size {w w' : World} (h : Drew w w') : w'.heap.size = w.heap.size := by
  obtain ⟨n, rfl⟩ := h
  rfl
theorem Drew.to {w w1 w' : World} (h : Below w.heap.size w w1) (k : Drew w1 w') : Below w.heap.size w w' := by
  obtain ⟨n, rfl⟩ := k
  exact below_drewN h n

set_option maxHeartbeats 2000000 in
theorem walk_ctxSigns (a0 : Int) (w : World) (w0 : (Lit.int .i64 a0).wf = true) :
    Calls Try.prog 7 #[.int .i64 a0] w fun e w' => e = .returned (.bool true) ∧ Below w.heap.size w w' := by
  go_enter Try.func7, Try.ntmps7
  go_wp2_with fail
  refine (known7 _).mono ?_
  rintro e w1 ⟨rfl, d1⟩
  have h1 := d1.below
  go_wp2_with fail
  refine (within7 _ _ _ (by omega) (by omega)).mono ?_
  rintro e w' ⟨rfl, rfl⟩
  have hr := within_rng a0 9 (by omega)
  generalize a0 % 9 = r at hr
  obtain rfl | rfl | rfl | rfl | rfl | rfl | rfl | rfl | rfl : r = 0 ∨ r = 1 ∨ r = 2 ∨ r = 3 ∨ r = 4 ∨ r = 5 ∨ r = 6 ∨ r = 7 ∨ r = 8 := by omega
  all_goals
    clear hr w0
    go_wp2_with fail
    refine (sign_any _ _ _ (by omega) (by omega)).mono ?_
    rintro e w2 ⟨he, d2⟩
    simp [signC, signT] at he
    subst he
    have h2 := Drew.to h1 d2
    clear h1 d1 d2
    go_wp2_with fail
    refine (refine_any _ _ _).mono ?_
    rintro e w3 ⟨he, d3⟩
    simp [refineC] at he
    subst he
    have h3 := Drew.to ((h2.alloc h2.size _).alloc (by have := h2.size; simp; omega) _) d3
    clear h2 d3
    go_wp2_with fail
    refine (refine_any _ _ _).mono ?_
    rintro e w4 ⟨he, d4⟩
    simp [refineC] at he
    subst he
    have h4 := Drew.to h3 d4
    clear h3 d4
    go_wp2_with fail
    refine (refine_any _ _ _).mono ?_
    rintro e w5 ⟨he, d5⟩
    simp [refineC] at he
    subst he
    have h5 := Drew.to h4 d5
    clear h4 d5
    go_wp2
    go_ret
    exact ⟨rfl, h5⟩
end Go.Proofs.Ytdmahidojconkaa
