/- LiftSums, walked. -/
import Derived.Test.YtbhkmckeplcdfaaLiftFlat
set_option linter.unusedVariables false
namespace Go.Proofs.Ytbhkmckeplcdfaa
open Go.RowKit

theorem sums_low {e n p : Nat} {f : Nat → Int} {c : Int} (he : e ≤ 1) (hn : 2 ≤ n) (hp : p < n) : lowF e n (fun i => f i + c) p = lowF e n f p + if p % 2 = e then c else 0 := by
  by_cases h : p % 2 = e
  · rw [if_pos h, low_even he hn hp h, low_even he hn hp h]
    unfold hU hP; omega
  · rw [if_neg h, low_odd he h, low_odd he h]
    unfold hP; omega
theorem sums_get {e n i : Nat} {f : Nat → Int} {c : Int} (he : e ≤ 1) (hn : 2 ≤ n) (hi : i < n) :
    (SP e n (ranged (fun i => f i + c) n)).getD i 0 = (SP e n (ranged f n)).getD i 0 + if i < (n + 1 - e) / 2 then c else 0 := by
  rw [sp_get he hn hi, sp_get he hn hi]
  by_cases h1 : i < (n + 1 - e) / 2
  · rw [if_pos h1, if_pos h1, if_pos h1, sums_low he hn (by omega), if_pos (by omega)]
  · rw [if_neg h1, if_neg h1, if_neg h1, sums_low he hn (by omega), if_neg (by omega)]

set_option maxHeartbeats 4000000 in
theorem walk_liftSums (a0 : Int) (a1 : Option Addr) (len1 cap1 : Nat) (z1 : List Int) (a2 : Int) (w : World) (w0 : (Lit.int .i64 a0).wf = true) (w1 : IsRow .i64 w a1 len1 cap1 z1) (w2 : (Lit.int .i64 a2).wf = true) :
    Calls Try.prog 8 #[.int .i64 a0, .slice a1 len1 cap1, .int .i64 a2] w fun e w' => e = .returned (.bool true) ∧ Below w.heap.size w w' := by
  have H1 := Lib.hid (rowI_is w1)
  clear w0 w1 w2
  obtain ⟨c, hc⟩ : ∃ c, a2 % 262144 - 131072 = c := ⟨_, rfl⟩
  have hcb : -131072 ≤ c ∧ c ≤ 131072 := by omega
  have q1 : IntKind.i64.wrap (a2 % 262144 - 131072) = c := by rw [hc]; exact IntWalk.i64_in _ (by omega)
  go_enter Try.func8, Try.ntmps8
  go_wp2_with fail
  refine (known9 _).mono ?_
  rintro e w1 ⟨rfl, b1⟩
  go_wp2_with fail
  refine (within9 _ _ _ (by omega) (by omega)).mono ?_
  rintro e w' ⟨rfl, rfl⟩
  have ha : 0 ≤ a0 % 1000 := by omega
  generalize a0 % 1000 = a at *
  obtain ⟨e0, he⟩ : ∃ e0 : Nat, a % 2 = e0 := ⟨(a % 2).toNat, by omega⟩
  have he1 : e0 ≤ 1 := by omega
  have ht : a.tmod 2 = (e0 : Int) := by rw [Int.tmod_eq_emod_of_nonneg ha, he]
  go_wp2_with fail
  refine (within9 _ _ _ (by omega) (by omega)).mono ?_
  rintro e w' ⟨rfl, rfl⟩
  go_wp2_with fail
  refine (row9 (H1.out.keep b1 (Nat.le_refl _))).mono ?_
  rintro e w2 ⟨A, cA, rfl, h, b2⟩
  have b2 := b1.trans (b2.mono b1.size)
  have hn : min 60 len1 ≤ 60 := by omega
  have hbd := row_bd (z1.take len1)
  have hrr : ∀ i, -524288 ≤ (rowF (z1.take len1)).getD i 0 ∧ (rowF (z1.take len1)).getD i 0 ≤ 524288 := fun i => by
    rw [List.getD_eq_getElem?_getD]
    rcases Nat.lt_or_ge i (rowF (z1.take len1)).length with hi | hi
    · rw [List.getElem?_eq_getElem hi]
      have := rowF_rng _ (List.getElem_mem hi)
      simp only [Option.getD_some]
      omega
    · rw [List.getElem?_eq_none hi]; simp
  generalize min 60 len1 = n at *
  generalize rowF (z1.take len1) = l at *
  clear b1 H1 q1 hc
  by_cases hn1 : n = 1
  · subst hn1
    go_wp2
    go_ret
    exact ⟨rfl, b2⟩
  have hnb : ((n : Int) == 1) = false := by simp; omega
  obtain ⟨f, hf⟩ : ∃ f : Nat → Int, (fun i => l.getD i 0) = f := ⟨_, rfl⟩
  have hfi : ∀ i, l.getD i 0 = f i := fun i => by rw [← hf]
  have hl : l = ranged f n := by rw [← hf]; exact (ranged_of l n h.1).symm
  have HR := Lib.hid (And.intro hbd hrr)
  have HH := Lib.hid h
  have HFI := Lib.hid hfi
  have HL := Lib.hid hl
  have hmk := fun u => hmkn u n (by omega)
  clear hbd hrr h hf hfi hl
  go_wp2_with fail
  have hB2 : Below w2.heap.size w2 (w2.alloc (Obj.cells (madeCells #[Value.int IntKind.i64 0] n) 3)) := (Below.refl _ _).alloc (Nat.le_refl _) _
  have hR2 := made_row w2 n (by omega)
  clear hmk
  generalize (w2.alloc (Obj.cells (madeCells #[Value.int IntKind.i64 0] n) 3)) = w3 at *
  obtain ⟨g, hg⟩ : ∃ g, w2.heap.size = g := ⟨_, rfl⟩
  have HG := Lib.hid hg
  rw [hg] at hB2 hR2 ⊢
  clear hg
  go_loopw [9] (fun i wr => ∃ k : Nat, k ≤ n ∧ i = .int .i64 (k : Int) ∧ wr.ownsRow g 3 1 (.slice (some ⟨g, 0, none⟩) n n) n ((laid (fun i => f i + c) n k).map (Value.int .i64)) ∧ Below g w2 wr) (fun i _ => n - (intOf i).toNat)
  case atStart => exact ⟨0, by omega, rfl, by rw [laid_zero]; exact hR2, hB2⟩
  case round =>
    obtain ⟨k, k0, rfl, hown, hb⟩ := hrel
    clear hR2 hB2
    by_cases c1 : k < n
    · have f1 := laid_cell hown c1
      have f2 := hown.frozenAt k
      obtain ⟨b, o, rfl, hbb, hcl⟩ := (HH.out.keep hb (by rw [HG.out]; exact Nat.le_refl _)).cell c1
      rw [HFI.out] at hcl
      have hfk := HR.out.2 k
      rw [HFI.out] at hfk
      have HS := Lib.hid (laid_step (f := fun i => f i + c) hown c1)
      have HB := Lib.hid (hb.setCell (p := ⟨g, k, none⟩) (Nat.le_refl _) (.int .i64 (f k + c)))
      have hwr : wrap64 (f k + c) = f k + c := IntWalk.wrap64_in _ (by omega)
      have HW := Lib.hid hwr
      clear hown hb hwr
      go_wp2_with fail
      try rw [HW.out]
      exact ⟨⟨k + 1, by omega, by go_num, HS.out, HB.out⟩, by simp [intOf]; omega⟩
    · obtain rfl : k = n := by omega
      rw [laid_full] at hown
      have hrow := rowI_of_own hown
      have h := HH.out.keep hb (by rw [HG.out]; exact Nat.le_refl _)
      have hb2 : Below w.heap.size w wr := b2.trans (hb.mono (by rw [← HG.out]; exact b2.size))
      clear hown hb HH b2
      go_wp2_with fail
      refine (split_all a e0 h ha he (by omega) (fun i => by have := HR.out.1 i; omega)).mono ?_
      rintro e w4 ⟨A4, c4, rfl, h4, b4⟩
      have hrow := hrow.keep b4 (Nat.le_refl _)
      have b4 := hb2.trans (b4.mono hb2.size)
      clear hb2 h
      go_wp2_with fail
      refine (split_all a e0 hrow ha he (by omega) (ranged_bd (by omega) (fun i _ => by have := HR.out.2 i; rw [HFI.out] at this; omega))).mono ?_
      rintro e w5 ⟨A5, c5, rfl, h5, b5⟩
      have h4 := h4.keep b5 (Nat.le_refl _)
      have b5 := b4.trans (b5.mono b4.size)
      clear b4 hrow
      obtain ⟨L, hL⟩ : ∃ L, (k + 1 - e0) / 2 = L := ⟨_, rfl⟩
      have hq : ((k : Int) + 1 - (e0 : Int)).tdiv 2 = (L : Int) := by rw [Int.tdiv_eq_ediv_of_nonneg (by omega)]; omega
      have H4 := Lib.hid h4
      have H5 := Lib.hid h5
      have HSB := Lib.hid (sp_bd he1 (n := k) (l := l) (by rw [HL.out, ranged_len]) HR.out.1)
      clear h4 h5
      go_wp2
      go_loopw [13] (fun i wr => ∃ j : Nat, j ≤ k ∧ i = .int .i64 (j : Int) ∧ Drew w5 wr) (fun i _ => k - (intOf i).toNat)
      case atStart => exact ⟨0, by omega, rfl, Drew.refl _⟩
      case round =>
        obtain ⟨j, j0, rfl, d⟩ := hrel
        by_cases c2 : j < k
        · obtain ⟨p4, o4, rfl, _, f4⟩ := (H4.out.drew d).cell c2
          obtain ⟨p5, o5, rfl, _, f5⟩ := (H5.out.drew d).cell c2
          rw [sums_get he1 (by omega) c2, hL, ← HL.out] at f5
          have hxb := HSB.out j
          generalize (SP e0 k l).getD j 0 = x at *
          by_cases c4 : j < L
          · rw [if_pos c4] at f5
            have hbx : (x + c == x + c) = true := beq_self_eq_true _
            have hwx : IntKind.i64.wrap (x + c) = x + c := IntWalk.i64_in _ (by omega)
            have c5 : (j : Int) < (L : Int) := by omega
            have c6 : decide ((j : Int) < (L : Int)) = true := decide_eq_true c5
            have c7 : decide ((L : Int) ≤ (j : Int)) = false := decide_eq_false (by omega)
            have c8 : ¬ (L : Int) ≤ (j : Int) := by omega
            have c9 : decide (L ≤ j) = false := decide_eq_false (by omega)
            have c10 : ¬ L ≤ j := by omega
            go_wp2
            go_quiet (fail)
            go_wp2
            go_roundw
            case rel => exact ⟨j + 1, by omega, by go_num, d.trans (Drew.mk _ _)⟩
            case measure => simp [intOf]; omega
          · rw [if_neg c4, Int.add_zero] at f5
            have hbx : (x == x) = true := beq_self_eq_true _
            have c5 : ¬ (j : Int) < (L : Int) := by omega
            have c6 : decide ((j : Int) < (L : Int)) = false := decide_eq_false c5
            have c7 : decide ((L : Int) ≤ (j : Int)) = true := decide_eq_true (by omega)
            have c8 : (L : Int) ≤ (j : Int) := by omega
            have c9 : decide (L ≤ j) = true := decide_eq_true (by omega)
            have c10 : L ≤ j := by omega
            go_wp2
            go_quiet (fail)
            go_wp2
            go_roundw
            case rel => exact ⟨j + 1, by omega, by go_num, d.trans (Drew.mk _ _)⟩
            case measure => simp [intOf]; omega
        · obtain rfl : j = k := by omega
          go_wp2
          go_ret
          exact ⟨rfl, Drew.to b5 d⟩
end Go.Proofs.Ytbhkmckeplcdfaa
