/- StatesNone, StatesFall, walked. -/
import Derived.Test.YtekfgkdihdmhoaaDoorSts
set_option linter.unusedVariables false
namespace Go.Proofs.YtekfgkdihdmhoaaDoor
open Go.RowKit

set_option maxHeartbeats 4000000 in
theorem none_go (i j cx : Int) (w : World) (hT : Tab w) (hj : j < 0 ∨ 46 < j) (hij : (0 ≤ i ∧ i ≤ 46 ∧ j = i + 47) ∨ (i < 0 ∧ j = i) ∨ (0 ≤ i ∧ 46 < i ∧ j = i)) :
    Calls Tryd.prog 6 #[.int .i64 i, .int .i64 cx] w fun e w' => e = .returned (.bool true) ∧ Below w.heap.size w w' := by
  have KN := Lib.hid (known3 hT)
  have AO := Lib.hid (fun (u : World) => at_out (w := u) hj)
  have pos := hT.pos
  have BG := Lib.hid (fun (u : World) c => begin_any (w := u) c)
  clear hT hj
  rcases hij with ⟨a1, a2, rfl⟩ | ⟨a1, rfl⟩ | ⟨a1, a2, rfl⟩
  all_goals
    by_cases h0 : cx = 0
    · subst h0
      go_enter Tryd.func6, Tryd.ntmps6
      go_wp2_with fail
      refine KN.out.mono ?_
      rintro e w1 ⟨rfl, b1⟩
      have s1 := b1.size
      go_wp2_with fail
      refine (AO.out _).mono ?_
      rintro e w2 ⟨rfl, b2⟩
      have b3 := b1.trans (b2.mono s1)
      have B0 : Hid (Calls Tryd.prog 11 #[.int .i64 1] w2 fun e w' => e = .returned (.int .i64 0) ∧ w2 = w') := Lib.hid (BG.out w2 1)
      go_wp2_with fail
      refine B0.out.mono ?_
      rintro e w4 ⟨rfl, rfl⟩
      have B17 : Hid (Calls Tryd.prog 11 #[.int .i64 17] w2 fun e w' => e = .returned (.int .i64 3) ∧ w2 = w') := Lib.hid (BG.out w2 17)
      go_wp2_with fail
      refine B17.out.mono ?_
      rintro e w4 ⟨rfl, rfl⟩
      go_wp2
      go_ret
      exact ⟨rfl, b3⟩
    by_cases h1 : cx = 17
    · subst h1
      go_enter Tryd.func6, Tryd.ntmps6
      go_wp2_with fail
      refine KN.out.mono ?_
      rintro e w1 ⟨rfl, b1⟩
      have s1 := b1.size
      go_wp2_with fail
      refine (AO.out _).mono ?_
      rintro e w2 ⟨rfl, b2⟩
      have b3 := b1.trans (b2.mono s1)
      have B17 : Hid (Calls Tryd.prog 11 #[.int .i64 17] w2 fun e w' => e = .returned (.int .i64 3) ∧ w2 = w') := Lib.hid (BG.out w2 17)
      go_wp2_with fail
      refine B17.out.mono ?_
      rintro e w4 ⟨rfl, rfl⟩
      go_wp2
      go_ret
      exact ⟨rfl, b3⟩
    by_cases h2 : cx = 18
    · subst h2
      go_enter Tryd.func6, Tryd.ntmps6
      go_wp2_with fail
      refine KN.out.mono ?_
      rintro e w1 ⟨rfl, b1⟩
      have s1 := b1.size
      go_wp2_with fail
      refine (AO.out _).mono ?_
      rintro e w2 ⟨rfl, b2⟩
      have b3 := b1.trans (b2.mono s1)
      have B0 : Hid (Calls Tryd.prog 11 #[.int .i64 19] w2 fun e w' => e = .returned (.int .i64 0) ∧ w2 = w') := Lib.hid (BG.out w2 19)
      go_wp2_with fail
      refine B0.out.mono ?_
      rintro e w4 ⟨rfl, rfl⟩
      have B17 : Hid (Calls Tryd.prog 11 #[.int .i64 17] w2 fun e w' => e = .returned (.int .i64 3) ∧ w2 = w') := Lib.hid (BG.out w2 17)
      go_wp2_with fail
      refine B17.out.mono ?_
      rintro e w4 ⟨rfl, rfl⟩
      go_wp2
      go_ret
      exact ⟨rfl, b3⟩
    have e0 : (cx == 0) = false := by simpa using h0
    have e1 : (cx == 17) = false := by simpa using h1
    have e2 : (cx == 18) = false := by simpa using h2
    have hbz : begV cx = 0 := by unfold begV; rw [if_neg h0, if_neg h1, if_neg h2]
    have HBZ := Lib.hid hbz
    clear hbz
    go_enter Tryd.func6, Tryd.ntmps6
    go_wp2_with fail
    refine KN.out.mono ?_
    rintro e w1 ⟨rfl, b1⟩
    have s1 := b1.size
    go_wp2_with fail
    refine (AO.out _).mono ?_
    rintro e w2 ⟨rfl, b2⟩
    have b3 := b1.trans (b2.mono s1)
    have B0 : Hid (Calls Tryd.prog 11 #[.int .i64 cx] w2 fun e w' => e = .returned (.int .i64 0) ∧ w2 = w') := Lib.hid (by have := BG.out w2 cx; rwa [HBZ.out] at this)
    go_wp2_with fail
    refine B0.out.mono ?_
    rintro e w4 ⟨rfl, rfl⟩
    have B17 : Hid (Calls Tryd.prog 11 #[.int .i64 17] w2 fun e w' => e = .returned (.int .i64 3) ∧ w2 = w') := Lib.hid (BG.out w2 17)
    go_wp2_with fail
    refine B17.out.mono ?_
    rintro e w4 ⟨rfl, rfl⟩
    go_wp2
    go_ret
    exact ⟨rfl, b3⟩
theorem walk_statesNone (a0 : Int) (a1 : Int) (w : World) (hT : Tab w) (w0 : (Lit.int .i64 a0).wf = true) (w1 : (Lit.int .i64 a1).wf = true) :
    Calls Tryd.prog 6 #[.int .i64 a0, .int .i64 a1] w fun e w' => e = .returned (.bool true) ∧ Below w.heap.size w w' := by
  have := bd_i64 w0
  by_cases h1 : 0 ≤ a0
  · by_cases h2 : a0 ≤ 46
    · exact none_go a0 (a0 + 47) a1 w hT (by omega) (Or.inl ⟨h1, h2, rfl⟩)
    · exact none_go a0 a0 a1 w hT (by omega) (Or.inr (Or.inr ⟨h1, by omega, rfl⟩))
  · exact none_go a0 a0 a1 w hT (by omega) (Or.inr (Or.inl ⟨by omega, rfl⟩))

theorem fall_fact : ∀ m, m < 31 → mps (14 + m) = 15 + m ∧ qe (15 + m) < qe (14 + m) := by decide
set_option maxHeartbeats 4000000 in
theorem walk_statesFall (a0 : Int) (w : World) (hT : Tab w) (w0 : (Lit.int .i64 a0).wf = true) :
    Calls Tryd.prog 5 #[.int .i64 a0] w fun e w' => e = .returned (.bool true) ∧ Below w.heap.size w w' := by
  have hb := within_bd a0 31 (by omega)
  have pos := hT.pos
  obtain ⟨m, hm, hc⟩ : ∃ m : Nat, m ≤ 30 ∧ ((a0.tmod 31 = (m : Int)) ∨ (a0.tmod 31 = -(m : Int) ∧ 0 < m)) := by
    rcases Int.lt_or_le (a0.tmod 31) 0 with h | h
    · exact ⟨(-(a0.tmod 31)).toNat, by omega, Or.inr ⟨by omega, by omega⟩⟩
    · exact ⟨(a0.tmod 31).toNat, by omega, Or.inl (by omega)⟩
  have ff := fall_fact m (by omega)
  have KN := Lib.hid (known3 hT)
  have TT := Lib.hid hT
  have lq : ((qe (15 + m) : Nat) : Int) < ((qe (14 + m) : Nat) : Int) := by omega
  have AK : Hid (∀ u, Tab u → Calls Tryd.prog 9 #[.int .i64 (14 + (m : Int))] u fun e w' => e = .returned (.agg #[.int .i64 ((qe (14 + m) : Nat) : Int), .int .i64 (14 + (m : Int) + 1), .int .i64 ((lps (14 + m) : Nat) : Int), .bool (swp (14 + m))]) ∧ Below u.heap.size u w') := Lib.hid (fun u hu => by
    have := at_in hu (i := 14 + m) (by omega)
    rw [ff.1, show (((15 + m : Nat)) : Int) = 14 + (m : Int) + 1 from by omega, show (((14 + m : Nat)) : Int) = 14 + (m : Int) from by omega] at this
    exact this)
  have AL : Hid (∀ u, Tab u → Calls Tryd.prog 9 #[.int .i64 (14 + (m : Int) + 1)] u fun e w' => e = .returned (.agg #[.int .i64 ((qe (15 + m) : Nat) : Int), .int .i64 ((mps (15 + m) : Nat) : Int), .int .i64 ((lps (15 + m) : Nat) : Int), .bool (swp (15 + m))]) ∧ Below u.heap.size u w') := Lib.hid (fun u hu => by
    have := at_in hu (i := 15 + m) (by omega)
    rw [show (((15 + m : Nat)) : Int) = 14 + (m : Int) + 1 from by omega] at this
    exact this)
  generalize (qe (15 + m) : Nat) = q1 at *
  generalize (qe (14 + m) : Nat) = q2 at *
  generalize (mps (15 + m) : Nat) = m1 at *
  generalize (lps (15 + m) : Nat) = l1 at *
  generalize (lps (14 + m) : Nat) = l2 at *
  generalize swp (15 + m) = p1 at *
  generalize swp (14 + m) = p2 at *
  have z1 : ¬ (30 : Int) < (m : Int) := by omega
  have hfld : ∀ (v0 v1 v2 v3 : Value) (u : World), (Instr.field 25 (.agg #[v0, v1, v2, v3]) 1).run Tryd.prog u = .ok v1 u := fun _ _ _ _ _ => by kernel_rfl
  have z2 : ¬ (45 : Int) < 14 + (m : Int) + 1 := by omega
  clear hT ff
  rcases hc with hc | ⟨hc, hp⟩
  · have z3 : ¬ (m : Int) < -(m : Int) := by omega
    go_enter Tryd.func5, Tryd.ntmps5
    go_wp2_with fail
    refine KN.out.mono ?_
    rintro e w1 ⟨rfl, b1⟩
    have s1 := b1.size
    have T1 := TT.out.below pos b1
    have A1 := Lib.hid (AK.out w1 T1)
    go_wp2_with fail
    refine A1.out.mono ?_
    rintro e w2 ⟨rfl, b2⟩
    have b2' := b1.trans (b2.mono s1)
    have s2 := b2'.size
    have A2 := Lib.hid (AK.out w2 (TT.out.below pos b2'))
    clear T1 A1 b1 b2 s1
    go_wp2_with fail
    refine A2.out.mono ?_
    rintro e w3 ⟨rfl, b3⟩
    have b3' := b2'.trans (b3.mono s2)
    have s3 := b3'.size
    have A3 := Lib.hid (AL.out w3 (TT.out.below pos b3'))
    clear A2 b2' b3 s2
    go_wp2_with fail
    refine A3.out.mono ?_
    rintro e w4 ⟨rfl, b4⟩
    have b4' := b3'.trans (b4.mono s3)
    clear A3 b3' b4
    have s4 := b4'.size
    go_wp2
    go_ret
    exact ⟨rfl, (b4'.alloc s4 _).alloc (by simp; omega) _⟩
  · have z3 : -(m : Int) < (m : Int) := by omega
    go_enter Tryd.func5, Tryd.ntmps5
    go_wp2_with fail
    refine KN.out.mono ?_
    rintro e w1 ⟨rfl, b1⟩
    have s1 := b1.size
    have T1 := TT.out.below pos b1
    have A1 := Lib.hid (AK.out w1 T1)
    go_wp2_with fail
    refine A1.out.mono ?_
    rintro e w2 ⟨rfl, b2⟩
    have b2' := b1.trans (b2.mono s1)
    have s2 := b2'.size
    have A2 := Lib.hid (AK.out w2 (TT.out.below pos b2'))
    clear T1 A1 b1 b2 s1
    go_wp2_with fail
    refine A2.out.mono ?_
    rintro e w3 ⟨rfl, b3⟩
    have b3' := b2'.trans (b3.mono s2)
    have s3 := b3'.size
    have A3 := Lib.hid (AL.out w3 (TT.out.below pos b3'))
    clear A2 b2' b3 s2
    go_wp2_with fail
    refine A3.out.mono ?_
    rintro e w4 ⟨rfl, b4⟩
    have b4' := b3'.trans (b4.mono s3)
    clear A3 b3' b4
    have s4 := b4'.size
    go_wp2
    go_ret
    exact ⟨rfl, (b4'.alloc s4 _).alloc (by simp; omega) _⟩
end Go.Proofs.YtekfgkdihdmhoaaDoor
