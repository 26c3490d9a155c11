/- LiftMirrors, walked. -/
import Derived.Test.YtbhkmckeplcdfaaLiftFlat
set_option linter.unusedVariables false
namespace Go.Proofs.Ytbhkmckeplcdfaa
open Go.RowKit

theorem lo_rev {n p : Nat} (hn : 2 ≤ n) (hp : p < n) : loI (n - 1 - p) = n - 1 - hiI n p := by
  unfold loI hiI; split <;> split <;> omega
theorem hi_rev {n p : Nat} (hn : 2 ≤ n) (hp : p < n) : hiI n (n - 1 - p) = n - 1 - loI p := by
  unfold loI hiI; split <;> split <;> omega
theorem lo_lt {n p : Nat} (hn : 2 ≤ n) (hp : p < n) : loI p < n := by unfold loI; split <;> omega
theorem hi_lt {n p : Nat} (hn : 2 ≤ n) (hp : p < n) : hiI n p < n := by unfold hiI; split <;> omega
theorem low_rev {e n p : Nat} {f : Nat → Int} (he : e ≤ 1) (hn : 2 ≤ n) (ho : n % 2 = 1) (hp : p < n) : lowF e n (fun i => f (n - 1 - i)) p = lowF e n f (n - 1 - p) := by
  have h1 := lo_lt hn hp
  have h2 := hi_lt hn hp
  by_cases h : p % 2 = e
  · rw [low_even he hn hp h, low_even he hn (by omega) (by omega), lo_rev hn hp, hi_rev hn hp, lo_rev hn h1, hi_rev hn h1, lo_rev hn h2, hi_rev hn h2]
    unfold hU hP
    omega
  · rw [low_odd he h, low_odd he (by omega), lo_rev hn hp, hi_rev hn hp]
    unfold hP
    omega
theorem mir_get {e n i : Nat} {f : Nat → Int} (he : e ≤ 1) (ho : n % 2 = 1) (hi : i < n) :
    (SP e n (ranged f n)).getD i 0 = (SP e n (ranged (fun i => f (n - 1 - i)) n)).getD (if i < (n + 1 - e) / 2 then (n + 1 - e) / 2 - 1 - i else n - 1 - (i - (n + 1 - e) / 2)) 0 := by
  by_cases h1 : n = 1
  · subst h1
    obtain rfl : i = 0 := by omega
    rcases Nat.lt_or_ge e 1 with h0 | h0
    · obtain rfl : e = 0 := by omega
      rfl
    · obtain rfl : e = 1 := by omega
      rfl
  · have hn : 2 ≤ n := by omega
    by_cases h2 : i < (n + 1 - e) / 2
    · rw [if_pos h2, sp_get he hn hi, if_pos h2, sp_get he hn (by omega), if_pos (by omega), low_rev he hn ho (by omega)]
      congr 1
      omega
    · rw [if_neg h2, sp_get he hn hi, if_neg h2, sp_get he hn (by omega), if_neg (by omega), low_rev he hn ho (by omega)]
      congr 1
      omega

set_option maxHeartbeats 4000000 in
set_option maxRecDepth 100000 in
theorem walk_liftMirrors (a0 : Int) (a1 : Option Addr) (len1 cap1 : Nat) (z1 : List Int) (w : World) (w0 : (Lit.int .i64 a0).wf = true) (w1 : IsRow .i64 w a1 len1 cap1 z1) :
    Calls Try.prog 6 #[.int .i64 a0, .slice a1 len1 cap1] w fun e w' => e = .returned (.bool true) ∧ Below w.heap.size w w' := by
  have H1 := Lib.hid (rowI_is w1)
  clear w0 w1
  go_enter Try.func6, Try.ntmps6
  go_wp2_with fail
  refine (known9 _).mono ?_
  rintro e w1 ⟨rfl, b1⟩
  go_wp2_with fail
  refine (within9 _ _ _ (by omega) (by omega)).mono ?_
  rintro e w' ⟨rfl, rfl⟩
  have ha : 0 ≤ a0 % 1000 := by omega
  generalize a0 % 1000 = a at *
  obtain ⟨e0, he⟩ : ∃ e0 : Nat, a % 2 = e0 := ⟨(a % 2).toNat, by omega⟩
  have he1 : e0 ≤ 1 := by omega
  have ht : a.tmod 2 = (e0 : Int) := by rw [Int.tmod_eq_emod_of_nonneg ha, he]
  go_wp2_with fail
  refine (row9 (H1.out.keep b1 (Nat.le_refl _))).mono ?_
  rintro e w2 ⟨A, cA, rfl, h, b2⟩
  have b2 := b1.trans (b2.mono b1.size)
  have hn : min 60 len1 ≤ 60 := by omega
  have hbd := row_bd (z1.take len1)
  generalize min 60 len1 = n at *
  generalize rowF (z1.take len1) = l at *
  clear b1 H1
  have htn : (n : Int).tmod 2 = ((n % 2 : Nat) : Int) := by rw [Int.tmod_eq_emod_of_nonneg (by omega)]; omega
  rcases Nat.mod_two_eq_zero_or_one n with ho | ho
  · rw [ho] at htn
    go_wp2
    go_ret
    exact ⟨rfl, b2⟩
  rw [ho] at htn
  have hn1 : 1 ≤ n := by omega
  obtain ⟨f, hf⟩ : ∃ f : Nat → Int, (fun i => l.getD i 0) = f := ⟨_, rfl⟩
  have hfi : ∀ i, l.getD i 0 = f i := fun i => by rw [← hf]
  have hl : l = ranged f n := by rw [← hf]; exact (ranged_of l n h.1).symm
  have HR := Lib.hid hbd
  have HH := Lib.hid h
  have HFI := Lib.hid hfi
  have HL := Lib.hid hl
  have hmk := fun u => hmkn u n (by omega)
  clear hbd h hf hfi hl
  go_wp2_with fail
  have hB2 : Below w2.heap.size w2 (w2.alloc (Obj.cells (madeCells #[Value.int IntKind.i64 0] n) 3)) := (Below.refl _ _).alloc (Nat.le_refl _) _
  have hR2 := made_row w2 n (by omega)
  clear hmk
  generalize (w2.alloc (Obj.cells (madeCells #[Value.int IntKind.i64 0] n) 3)) = w3 at *
  obtain ⟨g, hg⟩ : ∃ g, w2.heap.size = g := ⟨_, rfl⟩
  have HG := Lib.hid hg
  rw [hg] at hB2 hR2 ⊢
  clear hg
  go_loopw [8] (fun i wr => ∃ k : Nat, k ≤ n ∧ i = .int .i64 (k : Int) ∧ wr.ownsRow g 3 1 (.slice (some ⟨g, 0, none⟩) n n) n ((laid (fun i => f (n - 1 - i)) n k).map (Value.int .i64)) ∧ Below g w2 wr) (fun i _ => n - (intOf i).toNat)
  case atStart => exact ⟨0, by omega, rfl, by rw [laid_zero]; exact hR2, hB2⟩
  case round =>
    obtain ⟨k, k0, rfl, hown, hb⟩ := hrel
    clear hR2 hB2
    by_cases c1 : k < n
    · have f1 := laid_cell hown c1
      have f2 := hown.frozenAt k
      obtain ⟨m, hm⟩ : ∃ m, n - 1 - k = m := ⟨_, rfl⟩
      have hmn : m < n := by omega
      have hmi : (n : Int) - 1 - (k : Int) = (m : Int) := by omega
      obtain ⟨b, o, rfl, hbb, hcl⟩ := (HH.out.keep hb (by rw [HG.out]; exact Nat.le_refl _)).cell hmn
      rw [HFI.out] at hcl
      have S := laid_step (f := fun i => f (n - 1 - i)) hown c1
      rw [hm] at S
      have HS := Lib.hid S
      have HB := Lib.hid (hb.setCell (p := ⟨g, k, none⟩) (Nat.le_refl _) (.int .i64 (f m)))
      clear hown hb S hm
      generalize f m = x at *
      go_wp2
      go_roundw
      case rel => exact ⟨k + 1, by omega, by go_num, HS.out, HB.out⟩
      case measure => simp [intOf]; omega
    · obtain rfl : k = n := by omega
      rw [laid_full] at hown
      have hrow := rowI_of_own hown
      have h := HH.out.keep hb (by rw [HG.out]; exact Nat.le_refl _)
      have hb2 : Below w.heap.size w wr := b2.trans (hb.mono (by rw [← HG.out]; exact b2.size))
      clear hown hb HH b2
      go_wp2_with fail
      refine (split_all a e0 h ha he (by omega) (fun i => by have := HR.out i; omega)).mono ?_
      rintro e w4 ⟨A4, c4, rfl, h4, b4⟩
      have hrow := hrow.keep b4 (Nat.le_refl _)
      have b4 := hb2.trans (b4.mono hb2.size)
      clear hb2 h
      go_wp2_with fail
      refine (split_all a e0 hrow ha he (by omega) (ranged_bd (by omega) (fun i _ => by have := HR.out (k - 1 - i); rw [HFI.out] at this; omega))).mono ?_
      rintro e w5 ⟨A5, c5, rfl, h5, b5⟩
      have h4 := h4.keep b5 (Nat.le_refl _)
      have b5 := b4.trans (b5.mono b4.size)
      clear b4 hrow
      obtain ⟨L, hL⟩ : ∃ L, (k + 1 - e0) / 2 = L := ⟨_, rfl⟩
      have hLk : L ≤ k := by omega
      have hq : ((k : Int) + 1 - (e0 : Int)).tdiv 2 = (L : Int) := by rw [Int.tdiv_eq_ediv_of_nonneg (by omega)]; omega
      have H4 := Lib.hid h4
      have H5 := Lib.hid h5
      clear h4 h5
      go_wp2
      go_loopw [12] (fun i wr => ∃ j : Nat, j ≤ k ∧ i = .int .i64 (j : Int) ∧ Drew w5 wr) (fun i _ => k - (intOf i).toNat)
      case atStart => exact ⟨0, by omega, rfl, Drew.refl _⟩
      case round =>
        obtain ⟨j, j0, rfl, d⟩ := hrel
        by_cases c2 : j < k
        · have mg := mir_get (f := f) he1 ho c2
          rw [hL, ← HL.out] at mg
          have MG := Lib.hid mg
          clear mg
          obtain ⟨p4, o4, rfl, _, f4⟩ := (H4.out.drew d).cell c2
          have hjk : (j : Int) < (k : Int) := by omega
          by_cases c4 : j < L
          · obtain ⟨m, hm⟩ : ∃ m, L - 1 - j = m := ⟨_, rfl⟩
            have hmk : m < k := by omega
            have hmi : (L : Int) - 1 - (j : Int) = (m : Int) := by omega
            obtain ⟨p5, o5, rfl, _, f5⟩ := (H5.out.drew d).cell hmk
            rw [MG.out, if_pos c4, hm] at f4
            generalize (SP e0 k (ranged (fun i => f (k - 1 - i)) k)).getD m 0 = x at *
            have hbx : (x == x) = true := beq_self_eq_true _
            have c5 : ¬ (L : Int) ≤ (j : Int) := by omega
            have c6 : (m : Int) < (k : Int) := by omega
            clear hm
            go_wp2
            go_quiet (fail)
            go_wp2
            go_roundw
            case rel => exact ⟨j + 1, by omega, by go_num, d.trans (Drew.mk _ _)⟩
            case measure => simp [intOf]; omega
          · obtain ⟨m, hm⟩ : ∃ m, k - 1 - (j - L) = m := ⟨_, rfl⟩
            have hmk : m < k := by omega
            obtain ⟨dj, hdj⟩ : ∃ dj : Nat, j - L = dj := ⟨_, rfl⟩
            have hdi : (j : Int) - (L : Int) = (dj : Int) := by omega
            have hmi : (k : Int) - 1 - (dj : Int) = (m : Int) := by omega
            obtain ⟨p5, o5, rfl, _, f5⟩ := (H5.out.drew d).cell hmk
            rw [MG.out, if_neg c4, hm] at f4
            generalize (SP e0 k (ranged (fun i => f (k - 1 - i)) k)).getD m 0 = x at *
            have hbx : (x == x) = true := beq_self_eq_true _
            have c5 : (L : Int) ≤ (j : Int) := by omega
            have c6 : (m : Int) < (k : Int) := by omega
            clear hm hdj
            go_wp2
            go_quiet (fail)
            go_wp2
            go_roundw
            case rel => exact ⟨j + 1, by omega, by go_num, d.trans (Drew.mk _ _)⟩
            case measure => simp [intOf]; omega
        · obtain rfl : j = k := by omega
          go_wp2
          go_ret
          exact ⟨rfl, Drew.to b5 d⟩
end Go.Proofs.Ytbhkmckeplcdfaa
