/- The statement LayersAll of chapter 14, walked. -/
import Derived.Test.YtglplhiafeopdaaLayRef2
import Derived.Deep.CutBlock
import Derived.Deep.CutRange
set_option linter.unusedVariables false
namespace Go.Proofs.Ytglplhiafeopdaa
open Go.RowKit Go.Shelf

set_option maxHeartbeats 2000000 in
theorem ints_yes {A A' : Option Addr} {n c c' : Nat} {l : List Int} {w : World} (h : RowI w A n c l) (h' : RowI w A' n c' l) :
    Calls Try.prog 17 #[.slice A n c, .slice A' n c'] w fun e w' => e = .returned (.bool true) ∧ Drew w w' := by
  have hnc := h.2.1
  have hcm := h.2.2.1
  unfold maxLen at hcm
  have H := Lib.hid h
  have H' := Lib.hid h'
  clear h h'
  go_enter Try.func17, Try.ntmps17
  go_wp2
  go_loopw [5] (fun i wr => ∃ k : Nat, k ≤ n ∧ i = .int .i64 k ∧ Drew w wr) (fun i _ => n - (intOf i).toNat)
  case atStart => exact ⟨0, by omega, rfl, Drew.refl _⟩
  case round =>
    obtain ⟨k, k0, rfl, d⟩ := hrel
    by_cases c1 : k < n
    · obtain ⟨b, o, rfl, hbb, f1⟩ := (H.out.drew d).cell c1
      obtain ⟨b', o', rfl, hbb', f2⟩ := (H'.out.drew d).cell c1
      generalize l.getD k 0 = x at *
      have hx : (x == x) = true := beq_self_eq_true _
      go_wp2
      go_quiet (fail)
      go_wp2
      go_roundw
      case rel => exact ⟨k + 1, by omega, by go_num, d.trans (Drew.mk _ _)⟩
      case measure => simp [intOf]; omega
    · go_wp2
      go_ret
      exact ⟨rfl, d⟩
theorem near_nil : Near [] := fun i => by simp
theorem near_snoc {E : List Int} {s : Int} (h : Near E) (h0 : 0 ≤ s) (h1 : s ≤ 1000000) : Near (E ++ [s]) := fun i => by
  rw [List.getD_eq_getElem?_getD]
  by_cases hi : i < E.length
  · rw [List.getElem?_append_left hi, ← List.getD_eq_getElem?_getD]; exact h i
  · rw [List.getElem?_append_right (by omega)]
    rcases hk : i - E.length with _ | j
    · simp; omega
    · simp
theorem own_snoc {w : World} {N k g c : Nat} {E : List Int} {s : Int} (h : w.ownsRow N 3 1 (.slice (some ⟨g, 0, none⟩) (k + 1) c) (k + 1) (E.map (Value.int .i64) ++ [.int .i64 s])) : w.ownsRow N 3 1 (.slice (some ⟨g, 0, none⟩) (k + 1) c) (k + 1) ((E ++ [s]).map (Value.int .i64)) := by
  rw [List.map_append]; exact h
theorem pcs_map {t : Int} {ys : List (Pc t)} {L : List (Int × Int)} (h : ys.map (·.1) = L) (l : List Int) : ys.length = L.length ∧ ys.map pN = L.map qN ∧ ys.map (pB l) = L.map (qB l) := by
  subst h
  refine ⟨by simp, ?_, ?_⟩
  · rw [List.map_map]; rfl
  · rw [List.map_map]; rfl

set_option maxRecDepth 100000 in
set_option maxHeartbeats 8000000 in
theorem walk_layersAll (a0 : Int) (a1 : Int) (a2 : Int) (a3 : Int) (a4 : Int) (a5 : Int) (a6 : Option Addr) (len6 cap6 : Nat) (z6 : List Int) (w : World) (w0 : (Lit.int .i64 a0).wf = true) (w1 : (Lit.int .i64 a1).wf = true) (w2 : (Lit.int .i64 a2).wf = true) (w3 : (Lit.int .i64 a3).wf = true) (w4 : (Lit.int .i64 a4).wf = true) (w5 : (Lit.int .i64 a5).wf = true) (w6 : IsRow .i64 w a6 len6 cap6 z6) :
    Calls Try.prog 3 #[.int .i64 a0, .int .i64 a1, .int .i64 a2, .int .i64 a3, .int .i64 a4, .int .i64 a5, .slice a6 len6 cap6] w fun e w' => e = .returned (.bool true) ∧ Below w.heap.size w w' := by
  obtain ⟨i0, hi, hz0, hz1, hz2⟩ := info_parts Try.info3
  have hl := bd_i64 w2
  have hrow := rowI_is w6
  have hcm := hrow.2.2.1
  have hlc := hrow.2.1
  unfold maxLen at hcm
  have HR := Lib.hid hrow
  clear w0 w1 w2 w3 w4 w5 w6 hrow
  go_enter Try.func3, Try.ntmps3
  go_wp2_with fail
  refine (known14 _).mono ?_
  rintro e w1 ⟨rfl, d1⟩
  have h1 := d1.below
  clear d1
  go_wp2_with fail
  refine (some14 _ _ _ (by omega) (by omega)).mono ?_
  rintro e w' ⟨tt, rfl, t0, t1, rfl⟩
  go_wp2_with fail
  refine (some14 _ _ _ (by omega) (by omega)).mono ?_
  rintro e w' ⟨nn, rfl, n0, n1, rfl⟩
  go_wp2_with fail
  refine (some14 _ _ _ (by omega) (by omega)).mono ?_
  rintro e w' ⟨st, rfl, s0, s1, rfl⟩
  go_upto_block 0 with fail
  go_cut [15, 16, 17] from 32 to 52 (fun v a i wx => ∃ (A : Option Addr) (c k : Nat) (E : List Int) (u1 u2 : Int), a = .int .i64 u1 ∧ i = .int .i64 u2 ∧ v = .slice A k c ∧ k ≤ 60 ∧ RowI wx A k c E ∧ Near E ∧ Below w.heap.size w wx)
  case first =>
    go_wp2_with fail
    go_loopw [15, 16, 17] (fun v a i wr => ∃ (k : Nat) (E : List Int) (s : Int), k ≤ len6 ∧ k ≤ 60 ∧ i = .int .i64 k ∧ a = .int .i64 s ∧ 0 ≤ s ∧ s ≤ 50 * k ∧ Near E ∧ wr.ownsRow w.heap.size 3 1 v k (E.map (Value.int .i64)) ∧ Below w.heap.size w wr) (fun _ _ i _ => 60 - (intOf i).toNat)
    case atStart => exact ⟨0, [], 0, by omega, by omega, rfl, rfl, by omega, by omega, near_nil, World.ownsRow_nil _ _ _ _, h1⟩
    case round =>
      obtain ⟨k, E, s, k0, k1, rfl, rfl, sa, sb, hE, hown, hB⟩ := hrel
      clear h1
      by_cases cc : k < len6 ∧ k < 60
      · obtain ⟨ca, cb⟩ := cc
        obtain ⟨b, o, rfl, hb, m0⟩ := HR.out.cell ca
        have m1 := (hB.cell (p := ⟨b, o + k, none⟩) hb).trans m0
        have cb' : (k : Int) < 60 := by omega
        have HE := Lib.hid hE
        clear m0 hE
        generalize (z6.take len6).getD k 0 = x at *
        go_wp2_with fail
        refine (some14 _ _ _ (by omega) (by omega)).mono ?_
        rintro e w' ⟨r, rfl, r0, r1, rfl⟩
        clear m1
        go_wp2_with (at_builtin; refine wpList_append_own _ rfl _ _ 22 rfl w.heap.size 3 i0 (.int .i64 0) 1 8 Try.underlying22 hi hz0 hz1 hz2 rfl (by decide) _ _ _ rfl (hown.alloc _) ⟨wr.heap.size, 0, none⟩ 1 1 [.int .i64 (s + r)] rfl rfl (cell_one_new _ _ _) (by simp [Value.oneCell']) (by unfold maxLen; omega) (by omega) (by have := hB.size; simp; omega) ?_; intro v' w1 hown' hgrow _; obtain ⟨g', cap', rfl⟩ := ownsRow_succ hown'; have hB1 := (hB.alloc hB.size _).grown hgrow (by have := hB.size; simp; omega) (fun q e => (own_lt hown e).1))
        have HO := Lib.hid (own_snoc hown')
        clear hown hown' hgrow hB
        go_roundw
        case rel => exact ⟨k + 1, E ++ [s + r], s + r, by omega, by omega, by go_num, rfl, by omega, by push_cast; omega, near_snoc HE.out (by omega) (by omega), HO.out, hB1⟩
        case measure => simp [intOf]; omega
      · obtain ⟨A, c, rfl, hA⟩ := rowI_own (show wr.ownsRow w.heap.size 3 1 _ k (E.map (Value.int .i64)) from hown)
        have HA := Lib.hid hA
        have HE := Lib.hid hE
        clear hown hE hA
        by_cases c1 : k < len6
        · have c2 : ¬ (k : Int) < 60 := by omega
          go_wp2
          go_meet
          exact ⟨A, c, k, E, s, k, rfl, rfl, rfl, k1, HA.out, HE.out, hB⟩
        · go_wp2
          go_meet
          exact ⟨A, c, k, E, s, k, rfl, rfl, rfl, k1, HA.out, HE.out, hB⟩
  case rest =>
    obtain ⟨A, c, k, E, u1, u2, rfl, rfl, rfl, k1, hA, hE, hB⟩ := hcut
    have HA := Lib.hid hA
    have HE := Lib.hid hE
    have hkc := hA.2.1
    have hcc := hA.2.2.1
    unfold maxLen at hcc
    clear hE hA h1
    go_wp2_with fail
    refine (some14 _ _ _ (by omega) (by omega)).mono ?_
    rintro e w' ⟨tto, rfl, p0, p1, rfl⟩
    go_wp2_with fail
    refine (some14 _ _ _ (by omega) (by omega)).mono ?_
    rintro e w' ⟨fr, rfl, f0, f1, rfl⟩
    go_wp2_with fail
    refine (segments_any HA.out HE.out _ _ _ f0 (by omega) (by omega) (by omega) (by omega)).mono ?_
    rintro e w3 ⟨ys, A1, c1, A2, c2, rfl, hys, r1, r2, b3⟩
    obtain ⟨e1, e2, e3⟩ := pcs_map hys E
    rw [e1, e2] at r1
    rw [e1, e3] at r2
    have HA3 := Lib.hid (HA.out.keep b3 (Nat.le_refl _))
    have hB3 := hB.trans (b3.mono hB.size)
    clear hys e2 e3 b3
    rw [e1]
    clear e1
    go_wp2_with fail
    refine (rsegs_any HA3.out HE.out _ _ _ f0 (by omega) (by omega) (by omega) (by omega)).mono ?_
    rintro e w4 ⟨A3, c3, A4, c4, rfl, r3, r4, b4⟩
    have R := Lib.hid (And.intro (r1.keep b4 (Nat.le_refl _)) (And.intro (r2.keep b4 (Nat.le_refl _)) (And.intro r3 r4)))
    have hB4 := hB3.trans (b4.mono hB3.size)
    clear r1 r2 r3 r4 b4 hB3 hB HA HA3
    generalize (pcs st fr tto (tto - fr).toNat).1 = P at *
    go_wp2_with fail
    refine (some14 _ _ _ (by omega) (by omega)).mono ?_
    rintro e w' ⟨kk, rfl, kk0, kk1, rfl⟩
    go_wp2_with fail
    refine (passes_any _ _ _ _ (by omega) (by omega) (by omega)).mono ?_
    rintro e w' ⟨rfl, rfl⟩
    go_wp2_with fail
    refine (rpasses_any _ _ _ _ (by omega) (by omega) (by omega)).mono ?_
    rintro e w' ⟨rfl, rfl⟩
    have x1 : (passF tt (1 + nn) a2 == passF tt (1 + nn) a2) = true := beq_self_eq_true _
    generalize passF tt (1 + nn) a2 = q1 at *
    go_wp2_with fail
    refine (passes_any _ _ _ _ (by omega) (by omega) (by omega)).mono ?_
    rintro e w' ⟨rfl, rfl⟩
    go_wp2_with fail
    refine (rpasses_any _ _ _ _ (by omega) (by omega) (by omega)).mono ?_
    rintro e w' ⟨rfl, rfl⟩
    have x2 : (passF tt (1 + nn) kk == passF tt (1 + nn) kk) = true := beq_self_eq_true _
    generalize passF tt (1 + nn) kk = q2 at *
    go_wp2_with fail
    refine (lends_same _ _ _ (by omega)).mono ?_
    rintro e w' ⟨rfl, rfl⟩
    go_wp2_with fail
    refine (r14ends_same _ _ _ (by omega)).mono ?_
    rintro e w' ⟨rfl, rfl⟩
    have x3 : (endsF st a2 == endsF st a2) = true := beq_self_eq_true _
    generalize endsF st a2 = q3 at *
    go_wp2_with fail
    refine (lends_same _ _ _ (by omega)).mono ?_
    rintro e w' ⟨rfl, rfl⟩
    go_wp2_with fail
    refine (r14ends_same _ _ _ (by omega)).mono ?_
    rintro e w' ⟨rfl, rfl⟩
    have x4 : (endsF st kk == endsF st kk) = true := beq_self_eq_true _
    generalize endsF st kk = q4 at *
    go_wp2_with fail
    refine (ints_yes R.out.1 R.out.2.2.1).mono ?_
    rintro e w5 ⟨rfl, d5⟩
    go_wp2_with fail
    refine (ints_yes (R.out.2.1.drew d5) (R.out.2.2.2.drew d5)).mono ?_
    rintro e w6 ⟨rfl, d6⟩
    go_wp2
    go_ret
    exact ⟨rfl, Drew.to (Drew.to hB4 d5) d6⟩
end Go.Proofs.Ytglplhiafeopdaa
