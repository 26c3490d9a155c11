/- LiftLine, walked. -/
import Derived.Test.YtbhkmckeplcdfaaLiftFlat
set_option linter.unusedVariables false
namespace Go.Proofs.Ytbhkmckeplcdfaa
open Go.RowKit

theorem line_at {e n j : Nat} {s : Int} (he : e ≤ 1) (hn : 2 ≤ n) (hj : 1 - e + 2 * j < n) :
    lowF e n (fun i => (i : Int) * (2 * s)) (1 - e + 2 * j) = if 1 - e + 2 * j = 0 then -(2 * s) else if 1 - e + 2 * j = n - 1 then 2 * s else 0 := by
  rw [low_odd he (by omega)]
  generalize 1 - e + 2 * j = p at *
  unfold hP loI hiI
  by_cases h0 : p = 0
  · subst h0
    rw [if_pos rfl, if_neg (by omega), if_pos rfl]
    simp
    omega
  · rw [if_neg h0, if_neg h0]
    by_cases h1 : p + 1 = n
    · rw [if_pos h1, if_pos (by omega)]
      obtain ⟨m, rfl⟩ : ∃ m, p = m + 1 := ⟨p - 1, by omega⟩
      rw [show m + 1 - 1 = m from rfl, show n - 2 = m from by omega]
      rw [show ((m + 1 : Nat) : Int) * (2 * s) = (m : Int) * (2 * s) + 2 * s from by rw [Int.natCast_add, Int.add_mul]; simp]
      omega
    · rw [if_neg h1, if_neg (by omega)]
      obtain ⟨m, rfl⟩ : ∃ m, p = m + 1 := ⟨p - 1, by omega⟩
      rw [show m + 1 - 1 = m from rfl, show ((m + 1 + 1 : Nat) : Int) * (2 * s) = (m : Int) * (2 * s) + 2 * s + 2 * s from by rw [Int.natCast_add, Int.natCast_add, Int.add_mul, Int.add_mul]; simp]
      rw [show ((m + 1 : Nat) : Int) * (2 * s) = (m : Int) * (2 * s) + 2 * s from by rw [Int.natCast_add, Int.add_mul]; simp]
      have : (m : Int) * (2 * s) = 2 * ((m : Int) * s) := by rw [Int.mul_left_comm]
      omega
theorem line_bd {n : Nat} {s : Int} (hn : n ≤ 41) (hs : 0 ≤ s ∧ s < 100) : ∀ i, i < n → -16384 ≤ (i : Int) * (2 * s) ∧ (i : Int) * (2 * s) ≤ 16384 := fun i hi => by
  have h0 : 0 ≤ (i : Int) * (2 * s) := Int.mul_nonneg (by omega) (by omega)
  have h1 : (i : Int) * (2 * s) ≤ 41 * 200 := Int.mul_le_mul (by omega) (by omega) (by omega) (by omega)
  omega

set_option maxHeartbeats 4000000 in
set_option maxRecDepth 100000 in
theorem walk_liftLine (a0 : Int) (a1 : Int) (a2 : Int) (w : World) (w0 : (Lit.int .i64 a0).wf = true) (w1 : (Lit.int .i64 a1).wf = true) (w2 : (Lit.int .i64 a2).wf = true) :
    Calls Try.prog 9 #[.int .i64 a0, .int .i64 a1, .int .i64 a2] w fun e w' => e = .returned (.bool true) ∧ Below w.heap.size w w' := by
  clear w0 w1 w2
  go_enter Try.func9, Try.ntmps9
  go_wp2_with fail
  refine (known9 _).mono ?_
  rintro e w1 ⟨rfl, b1⟩
  go_wp2_with fail
  refine (within9 _ _ _ (by omega) (by omega)).mono ?_
  rintro e w' ⟨rfl, rfl⟩
  have ha : 0 ≤ a0 % 1000 := by omega
  generalize a0 % 1000 = a at *
  obtain ⟨e0, he⟩ : ∃ e0 : Nat, a % 2 = e0 := ⟨(a % 2).toNat, by omega⟩
  have he1 : e0 ≤ 1 := by omega
  have ht : a.tmod 2 = (e0 : Int) := by rw [Int.tmod_eq_emod_of_nonneg ha, he]
  go_wp2_with fail
  refine (within9 _ _ _ (by omega) (by omega)).mono ?_
  rintro e w' ⟨rfl, rfl⟩
  obtain ⟨n, hn, hn2, hn41⟩ : ∃ n : Nat, 2 + a1 % 40 = n ∧ 2 ≤ n ∧ n ≤ 41 := ⟨(2 + a1 % 40).toNat, by omega, by omega, by omega⟩
  have hw0 : IntKind.i64.wrap (2 + a1 % 40) = (n : Int) := by rw [hn]; exact IntWalk.i64_in _ (by omega)
  go_wp2_with fail
  refine (within9 _ _ _ (by omega) (by omega)).mono ?_
  rintro e w' ⟨rfl, rfl⟩
  have hs : 0 ≤ a2 % 100 ∧ a2 % 100 < 100 := by omega
  generalize a2 % 100 = s at *
  have hmk := fun u => hmkn u n (by omega)
  go_wp2_with fail
  have hB2 : Below w.heap.size w (w1.alloc (Obj.cells (madeCells #[Value.int IntKind.i64 0] n) 3)) := b1.alloc b1.size _
  have hR2 := made_row w1 n (by omega)
  have hs1 : w.heap.size ≤ w1.heap.size := b1.size
  clear hmk hn hw0 b1
  generalize (w1.alloc (Obj.cells (madeCells #[Value.int IntKind.i64 0] n) 3)) = w2 at *
  generalize w1.heap.size = g at *
  have hb0 := line_bd hn41 hs
  have HB0 := Lib.hid hb0
  clear hb0
  go_loopw [8] (fun i wr => ∃ k : Nat, k ≤ n ∧ i = .int .i64 (k : Int) ∧ wr.ownsRow g 3 1 (.slice (some ⟨g, 0, none⟩) n n) n ((laid (fun i => (i : Int) * (2 * s)) n k).map (Value.int .i64)) ∧ Below w.heap.size w wr) (fun i _ => n - (intOf i).toNat)
  case atStart => exact ⟨0, by omega, rfl, by rw [laid_zero]; exact hR2, hB2⟩
  case round =>
    obtain ⟨k, k0, rfl, hown, hb⟩ := hrel
    clear hR2 hB2
    by_cases c1 : k < n
    · have f1 := laid_cell hown c1
      have f2 := hown.frozenAt k
      have HS := Lib.hid (laid_step (f := fun i => (i : Int) * (2 * s)) hown c1)
      have HB := Lib.hid (hb.setCell (p := ⟨g, k, none⟩) hs1 (.int .i64 ((k : Int) * (2 * s))))
      have hkb := HB0.out k c1
      have hwr : wrap64 ((k : Int) * (2 * s)) = (k : Int) * (2 * s) := IntWalk.wrap64_in _ (by omega)
      have HW := Lib.hid hwr
      clear hown hb hwr hkb
      go_wp2_with fail
      try rw [HW.out]
      exact ⟨⟨k + 1, by omega, by go_num, HS.out, HB.out⟩, by simp [intOf]; omega⟩
    · obtain rfl : k = n := by omega
      rw [laid_full] at hown
      have hrow := rowI_of_own hown
      clear hown
      go_wp2_with fail
      refine (split_all a e0 hrow ha he (by omega) (ranged_bd (by omega) (fun i hi => by have := HB0.out i hi; omega))).mono ?_
      rintro e w3 ⟨A3, c3, rfl, h3, b3⟩
      have b3 := hb.trans (b3.mono hb.size)
      clear hb hrow HB0
      obtain ⟨L, hL⟩ : ∃ L, (k + 1 - e0) / 2 = L := ⟨_, rfl⟩
      have hq : ((k : Int) + 1 - (e0 : Int)).tdiv 2 = (L : Int) := by rw [Int.tdiv_eq_ediv_of_nonneg (by omega)]; omega
      have hLk : L ≤ k := by omega
      have H3 := Lib.hid h3
      obtain ⟨st, hst⟩ : ∃ st, 2 * s = st := ⟨_, rfl⟩
      have hstb : 0 ≤ st ∧ st ≤ 200 := by omega
      have HST := Lib.hid hst
      rw [hst]
      clear h3 hst
      go_wp2
      go_loopw [11] (fun i wr => ∃ j : Nat, L ≤ j ∧ j ≤ k ∧ i = .int .i64 (j : Int) ∧ w3 = wr) (fun i _ => k - (intOf i).toNat)
      case atStart => exact ⟨L, by omega, by omega, rfl, rfl⟩
      case round =>
        obtain ⟨j, jL, j0, rfl, rfl⟩ := hrel
        by_cases c2 : j < k
        · obtain ⟨p3, o3, rfl, _, f3⟩ := H3.out.cell c2
          rw [sp_get he1 (by omega) c2, if_neg (by omega), hL, line_at he1 (by omega) (by omega), HST.out] at f3
          obtain ⟨p, hp⟩ : ∃ p, 1 - e0 + 2 * (j - L) = p := ⟨_, rfl⟩
          rw [hp] at f3
          have hpk : p < k := by omega
          obtain ⟨m, hm⟩ : ∃ m : Nat, j - L = m := ⟨_, rfl⟩
          have hjm : (j : Int) - (L : Int) = (m : Int) := by omega
          have hpe : 2 * (m : Int) + 1 - (e0 : Int) = (p : Int) := by omega
          have hm2 : m ≤ 41 := by omega
          have hjk : (j : Int) < (k : Int) := by omega
          clear hp hm
          by_cases p0 : p = 0
          · subst p0
            rw [if_pos rfl] at f3
            have hbx : (-st == -st) = true := beq_self_eq_true _
            go_wp2
            go_roundw
            case rel => exact ⟨j + 1, by omega, by omega, by go_num, by simp⟩
            case measure => simp [intOf]; omega
          · by_cases p1 : p = k - 1
            · rw [if_neg p0, if_pos p1] at f3
              have hbx : (st == st) = true := beq_self_eq_true _
              have t1 : ((p : Int) == 0) = false := by simp; omega
              have t2 : ((p : Int) == (k : Int) - 1) = true := by simp; omega
              have t3 : ¬ (p : Int) < (k : Int) - 1 := by omega
              have t4 : (0 : Int) < (p : Int) := by omega
              go_wp2
              go_roundw
              case rel => exact ⟨j + 1, by omega, by omega, by go_num, by simp⟩
              case measure => simp [intOf]; omega
            · rw [if_neg p0, if_neg p1] at f3
              have t1 : ((p : Int) == 0) = false := by simp; omega
              have t2 : ((p : Int) == (k : Int) - 1) = false := by simp; omega
              have t3 : (p : Int) < (k : Int) - 1 := by omega
              have t4 : (0 : Int) < (p : Int) := by omega
              go_wp2
              go_roundw
              case rel => exact ⟨j + 1, by omega, by omega, by go_num, by simp⟩
              case measure => simp [intOf]; omega
        · obtain rfl : j = k := by omega
          go_wp2
          go_ret
          exact ⟨rfl, b3⟩
end Go.Proofs.Ytbhkmckeplcdfaa
