/- StatesAll: the law. -/
import Derived.Test.YtekfgkdihdmhoaaDoorStAll
set_option linter.unusedVariables false
namespace Go.Proofs.YtekfgkdihdmhoaaDoor
open Go.RowKit

theorem ref_all {w : World} (k : Int) : Calls Tryd.prog 10 #[.int .i64 k] w fun e w' => e = .returned (.agg (stV k)) ∧ Below w.heap.size w w' := by
  by_cases hk : 0 ≤ k ∧ k ≤ 46
  · obtain ⟨i, rfl⟩ := Int.eq_ofNat_of_zero_le hk.1
    rw [stV_in i (by omega)]
    exact ref_in (by omega)
  · rw [stV_out (by omega)]
    exact ref_out (by omega)
theorem stV_form (k : Int) : ∃ (a b c : Int) (d : Bool), stV k = #[.int .i64 a, .int .i64 b, .int .i64 c, .bool d] := by
  unfold stV
  split
  · exact ⟨_, _, _, _, rfl⟩
  · exact ⟨_, _, _, _, rfl⟩
set_option maxHeartbeats 1000000 in
theorem same_any {w : World} (k : Int) : Calls Tryd.prog 8 #[.agg (stV k), .agg (stV k)] w fun e w' => e = .returned (.bool true) ∧ Below w.heap.size w w' := by
  obtain ⟨a, b, c, d, h⟩ := stV_form k
  rw [h]
  clear h
  cases d
  all_goals
    go_enter Tryd.func8, Tryd.ntmps8
    go_wp2
    go_ret
    exact ⟨rfl, ((Below.refl _ _).alloc (Nat.le_refl _) _).alloc (by simp) _⟩
set_option maxHeartbeats 400000 in
theorem refbegin_any {w : World} (cx : Int) : Calls Tryd.prog 12 #[.int .i64 cx] w fun e w' => e = .returned (.int .i64 (begV cx)) ∧ w = w' := by
  unfold begV
  by_cases h0 : cx = 0
  · subst h0
    go_enter Tryd.func12, Tryd.ntmps12
    go_wp2
    go_ret
    exact ⟨rfl, rfl⟩
  by_cases h1 : cx = 17
  · subst h1
    go_enter Tryd.func12, Tryd.ntmps12
    go_wp2
    go_ret
    exact ⟨rfl, rfl⟩
  by_cases h2 : cx = 18
  · subst h2
    go_enter Tryd.func12, Tryd.ntmps12
    go_wp2
    go_ret
    exact ⟨rfl, rfl⟩
  rw [if_neg h0, if_neg h1, if_neg h2]
  have e0 : (cx == 0) = false := by simpa using h0
  have e1 : (cx == 17) = false := by simpa using h1
  have e2 : (cx == 18) = false := by simpa using h2
  go_enter Tryd.func12, Tryd.ntmps12
  go_wp2
  go_ret
  exact ⟨rfl, rfl⟩
set_option maxHeartbeats 4000000 in
theorem walk_statesAll (a0 : Int) (a1 : Int) (w : World) (hT : Tab w) (w0 : (Lit.int .i64 a0).wf = true) (w1 : (Lit.int .i64 a1).wf = true) :
    Calls Tryd.prog 3 #[.int .i64 a0, .int .i64 a1] w fun e w' => e = .returned (.bool true) ∧ Below w.heap.size w w' := by
  have KN := Lib.hid (known3 hT)
  have TT := Lib.hid hT
  have pos := hT.pos
  clear hT
  go_enter Tryd.func3, Tryd.ntmps3
  go_wp2_with fail
  refine KN.out.mono ?_
  rintro e w1 ⟨rfl, b1⟩
  clear KN
  go_wp2
  go_loopw [5] (fun kv wr => ∃ k : Int, -1 ≤ k ∧ k ≤ 49 ∧ kv = .int .i64 k ∧ Below w.heap.size w wr) (fun kv _ => (49 - intOf kv).toNat)
  case atStart => exact ⟨-1, by omega, by omega, rfl, b1⟩
  case round =>
    obtain ⟨k, hk1, hk2, rfl, hb⟩ := hrel
    clear b1
    by_cases c : k < 49
    · have s0 := hb.size
      have A1 := Lib.hid (at_all (TT.out.below pos hb) k)
      go_wp2_with fail
      refine A1.out.mono ?_
      rintro e w2 ⟨rfl, b2⟩
      have b2' := hb.trans (b2.mono s0)
      have s2 := b2'.size
      clear A1 b2 hb s0
      go_wp2_with fail
      refine (ref_all k).mono ?_
      rintro e w3 ⟨rfl, b3⟩
      have b3' := b2'.trans (b3.mono s2)
      have s3 := b3'.size
      clear b2' b3 s2
      go_wp2_with fail
      refine (same_any k).mono ?_
      rintro e w4 ⟨rfl, b4⟩
      have b4' := b3'.trans (b4.mono s3)
      clear b3' b4 s3
      go_wp2_with fail
      refine (begin_any k).mono ?_
      rintro e w5 ⟨rfl, rfl⟩
      go_wp2_with fail
      refine (refbegin_any k).mono ?_
      rintro e w5 ⟨rfl, rfl⟩
      generalize begV k = bv at *
      go_wp2
      go_roundw
      case rel => exact ⟨k + 1, by omega, by omega, rfl, b4'⟩
      case measure => simp [intOf] <;> omega
    · obtain rfl : k = 49 := by omega
      have s0 := hb.size
      have A1 := Lib.hid (at_all (TT.out.below pos hb) a0)
      go_wp2_with fail
      refine A1.out.mono ?_
      rintro e w2 ⟨rfl, b2⟩
      have b2' := hb.trans (b2.mono s0)
      have s2 := b2'.size
      clear A1 b2 hb s0
      go_wp2_with fail
      refine (ref_all a0).mono ?_
      rintro e w3 ⟨rfl, b3⟩
      have b3' := b2'.trans (b3.mono s2)
      have s3 := b3'.size
      clear b2' b3 s2
      go_wp2_with fail
      refine (same_any a0).mono ?_
      rintro e w4 ⟨rfl, b4⟩
      have b4' := b3'.trans (b4.mono s3)
      clear b3' b4 s3
      go_wp2_with fail
      refine (begin_any a1).mono ?_
      rintro e w5 ⟨rfl, rfl⟩
      go_wp2_with fail
      refine (refbegin_any a1).mono ?_
      rintro e w5 ⟨rfl, rfl⟩
      generalize begV a1 = bv at *
      go_wp2
      go_ret
      exact ⟨by simp, b4'⟩
end Go.Proofs.YtekfgkdihdmhoaaDoor
