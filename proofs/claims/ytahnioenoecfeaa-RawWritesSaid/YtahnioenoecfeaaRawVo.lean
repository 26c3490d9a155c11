/- The reference's Writer of chapter 5: Out and Flush; the two Writers go side by side. -/
import Derived.Test.YtahnioenoecfeaaRawV
set_option linter.unusedVariables false
namespace Go.Proofs.Ytahnioenoecfeaa
open Go.RowKit

set_option maxHeartbeats 2000000 in
theorem flush_new {w : World} {lo p : Nat} {it : List Int} {fr : Nat} (h : Wr w lo p it fr) (hl : it.length ≤ 100000) :
    Calls Try.prog 17 #[.pointer (some ⟨p, 0, none⟩)] w fun e w' => ∃ v, e = .returned v ∧ w'.ownsRow w.heap.size 5 1 v (flushF it).length ((flushF it).map (Value.int .u8)) ∧ Below w.heap.size w w' := by
  have FC := Lib.hid (full_any h hl)
  obtain ⟨hp, V, hb, hown⟩ := h
  by_cases hf : it.getLastD 0 = 255
  · have hne : it ≠ [] := by intro e; rw [e] at hf; simp at hf
    obtain ⟨m, hm⟩ : ∃ m, it.length = m + 1 := ⟨it.length - 1, by have := List.length_pos_iff.2 hne; omega⟩
    have hff : flushF it = it.dropLast := if_pos hf
    have hdl : it.dropLast.length = m := by rw [List.length_dropLast, hm]; rfl
    rw [hff, hdl]
    rw [hm] at hown
    obtain ⟨g, c, rfl, hg, hgl, hcm, hcx⟩ := own_form hown (by omega)
    have HB := Lib.hid hb
    have HO := Lib.hid hown
    clear hb hown hff
    go_enter Try.func17, Try.ntmps17
    go_wp2_with fail
    refine FC.out.mono ?_
    rintro e w2 ⟨rfl, dn, hd⟩
    rw [decide_eq_true hf]
    have hb2 : w2.heap[p]? = some (.cells #[.slice (some ⟨g, 0, none⟩) (m + 1) c, .int .u8 0, .int .i64 (fr : Int)] 45 (0, 0)) := by rw [hd]; exact HB.out
    have HO2 : Hid (w2.ownsRow lo 5 1 (.slice (some ⟨g, 0, none⟩) (m + 1) c) (m + 1) (it.map (Value.int .u8))) := by rw [hd]; exact HO.out
    have B2 : Below w.heap.size w w2 := by rw [hd]; exact below_drewN (Below.refl _ _) dn
    have s2 : w.heap.size ≤ w2.heap.size := by rw [hd]; exact Nat.le_refl _
    have c0 := blk_cell hb2 0
    simp at c0
    have wm : IntKind.i64.wrap (m : Int) = (m : Int) := IntWalk.i64_in _ (by omega)
    have im0 : (0 : Int) ≤ (m : Int) := by omega
    have im1 : (m : Int) ≤ (c : Int) := by omega
    have hL : Lst w2 w2.heap.size (some ⟨g, 0, none⟩) ((it.dropLast).map (Value.int .u8)) := by
      have := Lst.own HO2.out
      have h2 := this.take m
      rw [← List.map_take, show it.take m = it.dropLast from by rw [List.dropLast_eq_take, hm]; rfl] at h2
      exact h2
    have HL := Lib.hid hL
    clear hd hb2 hL HB HO FC
    go_wp2
    refine wp_region_still_tail 13 (by kernel_rfl) (by kernel_rfl) ?_
    simp only [List.take_succ_cons, List.take_zero, List.drop_succ_cons, List.drop_zero]
    repeat still_step
    refine wpStill_nil ?_
    change wpList _ _ _ _ _ w2.drew
    have HL2 : Hid (Lst w2.drew w2.drew.heap.size (some ⟨g, 0, none⟩) ((it.dropLast).map (Value.int .u8))) := HL.out
    have B3 : Below w.heap.size w w2.drew := below_drewN B2 1
    have s3 : w.heap.size ≤ w2.drew.heap.size := s2
    clear HL HO2 B2 c0
    generalize w2.drew = w3 at *
    go_wp2_with fail
    refine (clone_u8 _ m c _ _ _ (by rw [List.length_map, hdl]) (by simp) HL2.out (ints_oneCell .u8 _) (by omega)).mono ?_
    rintro e w4 ⟨v, rfl, hown4, b4⟩
    go_wp2
    go_ret
    refine ⟨v, rfl, ?_, B3.trans (b4.mono s3)⟩
    exact hown4.mono s3
  · have hff : flushF it = it := if_neg hf
    rw [hff]
    obtain ⟨A, c, rfl, hA, hcc, hcm⟩ := own_any hown
    have HB := Lib.hid hb
    have HO := Lib.hid hown
    clear hb hown hff
    go_enter Try.func17, Try.ntmps17
    go_wp2_with fail
    refine FC.out.mono ?_
    rintro e w2 ⟨rfl, dn, hd⟩
    rw [decide_eq_false hf]
    have hb2 : w2.heap[p]? = some (.cells #[.slice A it.length c, .int .u8 0, .int .i64 (fr : Int)] 45 (0, 0)) := by rw [hd]; exact HB.out
    have HO2 : Hid (w2.ownsRow lo 5 1 (.slice A it.length c) it.length (it.map (Value.int .u8))) := by rw [hd]; exact HO.out
    have B2 : Below w.heap.size w w2 := by rw [hd]; exact below_drewN (Below.refl _ _) dn
    have s2 : w.heap.size ≤ w2.heap.size := by rw [hd]; exact Nat.le_refl _
    have c0 := blk_cell hb2 0
    simp at c0
    have HA := Lib.hid hA
    clear hd hb2 HB HO FC hA
    go_wp2_with fail
    refine (clone_u8 _ it.length c _ _ _ (by rw [List.length_map]) HA.out (Lst.own HO2.out) (ints_oneCell .u8 _) (by omega)).mono ?_
    rintro e w4 ⟨v, rfl, hown4, b4⟩
    go_wp2
    go_ret
    refine ⟨v, rfl, ?_, B2.trans (b4.mono s2)⟩
    exact hown4.mono s2

/-- The writer of the program and that of the reference stand alike. -/
def VRel (S : List Int × Nat) (s : VS) : Prop :=
  s.t = wnew s.b ∧ 1 ≤ s.f ∧ s.f ≤ s.t ∧ ((s.f = s.t ∧ S = (s.b, 0) ∧ s.c = 0) ∨ (s.f < s.t ∧ S = (s.b ++ [s.c], s.f)))
theorem vrel_step {S : List Int × Nat} {s : VS} (h : VRel S s) (x : Int) : VRel (wstep S x) (vstep s x) := by
  obtain ⟨b, c, f, t⟩ := s
  obtain ⟨h1, h2, h3, h4⟩ := h
  simp only at h1 h2 h3 h4
  have hw := wnew_rng b
  rcases h4 with ⟨e1, e2, e3⟩ | ⟨e1, e2⟩
  · subst e2 e3 e1
    have e4 : vstep ⟨b, 0, f, f⟩ x = ⟨b, x % 2 * 2 ^ (f - 1), f - 1, f⟩ := by
      unfold vstep vcur
      rw [if_neg (by show ¬ f - 1 = 0; omega)]
      simp
    have e5 : wstep (b, 0) x = (b ++ [x % 2 * 2 ^ (f - 1)], f - 1) := by unfold wstep; rw [if_pos rfl, ← h1]
    rw [e4, e5]
    exact ⟨h1, by show 1 ≤ f - 1; omega, by show f - 1 ≤ f; omega, Or.inr ⟨by show f - 1 < f; omega, rfl⟩⟩
  · subst e2
    have e5 : wstep (b ++ [c], f) x = (b ++ [vcur ⟨b, c, f, t⟩ x], f - 1) := by
      unfold wstep vcur
      rw [if_neg (by show ¬ f = 0; omega)]
      rw [List.dropLast_concat, lastD_snoc]
    rw [e5]
    generalize hy : vcur ⟨b, c, f, t⟩ x = y
    unfold vstep
    rw [hy]
    by_cases h0 : f - 1 = 0
    · rw [if_pos h0]
      have e6 : wnew (b ++ [y]) = vtop y := by unfold wnew vtop; rw [lastD_snoc]
      have e7 := wnew_rng (b ++ [y])
      rw [e6] at e7
      refine ⟨e6.symm, by show 1 ≤ vtop y; omega, Nat.le_refl _, Or.inl ⟨rfl, by rw [h0], rfl⟩⟩
    · rw [if_neg h0]
      exact ⟨h1, by show 1 ≤ f - 1; omega, by show f - 1 ≤ t; omega, Or.inr ⟨by show f - 1 < t; omega, rfl⟩⟩
/-- All bytes begun. -/
def vall (s : VS) : List Int := if s.f < s.t then s.b ++ [s.c] else s.b
theorem vrel_all {S : List Int × Nat} {s : VS} (h : VRel S s) : vall s = S.1 := by
  obtain ⟨h1, h2, h3, h4⟩ := h
  unfold vall
  rcases h4 with ⟨e1, e2, e3⟩ | ⟨e1, e2⟩
  · rw [if_neg (by omega), e2]
  · rw [if_pos e1, e2]
theorem vrel_use {S : List Int × Nat} {s : VS} (h : VRel S s) (ok : WOk S) : 1 ≤ s.f ∧ s.f ≤ 8 ∧ (0 ≤ s.c ∧ s.c ≤ 255) ∧ s.c % 2 ^ s.f = 0 ∧ s.b.length ≤ S.1.length ∧ s.t ≤ 8 := by
  obtain ⟨h1, h2, h3, h4⟩ := h
  have hw := wnew_rng s.b
  rcases h4 with ⟨e1, e2, e3⟩ | ⟨e1, e2⟩
  · refine ⟨h2, by omega, by rw [e3]; omega, by rw [e3]; simp, by rw [e2]; exact Nat.le_refl _, by omega⟩
  · have h5 := ok.low
    have h6 := ok.rng s.c (by rw [e2]; simp)
    rw [e2] at h5
    simp only [lastD_snoc] at h5
    exact ⟨h2, by omega, h6, h5, by rw [e2]; simp, by omega⟩

set_option maxHeartbeats 1000000 in
theorem vout_any {P : Nat → Prop} {w : World} {q : Nat} {s : VS} (h : Vo P w q s) (hl : s.b.length ≤ 100000) :
    Calls Try.prog 16 #[.pointer (some ⟨q, 0, none⟩)] w fun e w' => e = .returned (.int .i64 ((vall s).length : Int)) ∧ Drew w w' := by
  obtain ⟨b, c, f, t⟩ := s
  obtain ⟨hq, V, hb, hown, _⟩ := h
  simp only at hl hb hown
  obtain ⟨A, cv, rfl, _, _, _⟩ := own_any hown
  have c0 := blk_cell hb 0
  have c2 := blk_cell hb 2
  have c3 := blk_cell hb 3
  simp at c0 c2 c3
  unfold vall
  clear hb hown
  by_cases hf : f < t
  · rw [if_pos hf]
    have hfi : (f : Int) < (t : Int) := by omega
    rw [show (b ++ [c]).length = b.length + 1 from by simp]
    go_enter Try.func16, Try.ntmps16
    go_wp2
    go_quiet (fail)
    go_wp2
    go_ret
    exact ⟨ret_i64 (by omega), Drew.mk _ _⟩
  · rw [if_neg hf]
    have hfi : ¬ (f : Int) < (t : Int) := by omega
    go_enter Try.func16, Try.ntmps16
    go_wp2
    go_quiet (fail)
    go_wp2
    go_ret
    exact ⟨rfl, Drew.mk _ _⟩

set_option maxHeartbeats 4000000 in
theorem vflush_new {P : Nat → Prop} {w : World} {q : Nat} {s : VS} (h : Vo P w q s) (hl : s.b.length ≤ 90000) (h3 : 0 ≤ s.c ∧ s.c ≤ 255) :
    Calls Try.prog 18 #[.pointer (some ⟨q, 0, none⟩)] w fun e w' => ∃ A c, e = .returned (.slice A (flushF (vall s)).length c) ∧ (A = none → (flushF (vall s)).length = 0 ∧ c = 0) ∧ Lst w' w'.heap.size A ((flushF (vall s)).map (Value.int .u8)) ∧ Below w.heap.size w w' := by
  obtain ⟨i0, hi, hz0, hz1, hz2⟩ := info_parts Try.info5
  obtain ⟨b, c, f, t⟩ := s
  obtain ⟨hq, V, hb, hown, _⟩ := h
  simp only at hl hb hown h3
  obtain ⟨A, cv, rfl, hA, _, _⟩ := own_any hown
  have c0 := blk_cell hb 0
  simp at c0
  have n0 : (w.alloc (Obj.cells #[] 5)).cell? ⟨q, 0, none⟩ = some (.slice A b.length cv) := (World.cell?_alloc_lt w _ _ (blk_lt hb)).trans c0
  have HL := Lib.hid (Lst.own hown)
  have HA := Lib.hid hA
  have HB := Lib.hid hb
  clear hown hA hb
  obtain ⟨F, hF⟩ : ∃ F, vall ⟨b, c, f, t⟩ = F := ⟨_, rfl⟩
  rw [hF]
  have HFD := Lib.hid hF
  clear hF
  go_enter Try.func18, Try.ntmps18
  go_wp2_with (at_builtin; refine wpList_clone8 rfl (.tmp 4) (.tmp 8) rfl rfl rfl rfl HA.out HL.out (by omega) ?_)
  intro V1 cv1 w1 hown1 b1
  have hb1 : Hid (w1.heap[q]? = some (.cells #[.slice A b.length cv, .int .i64 c, .int .i64 (f : Int), .int .i64 (t : Int)] 47 (0, 0))) := (b1.block q (blk_lt HB.out)).trans HB.out
  have d1 := blk_cell hb1.out 1
  have d2 := blk_cell hb1.out 2
  have d3 := blk_cell hb1.out 3
  simp at d1 d2 d3
  have HO1 := Lib.hid hown1
  clear hown1 HL HA HB c0
  by_cases hf : f < t
  · have hfi : (f : Int) < (t : Int) := by omega
    have HF : Hid (b ++ [c] = F) := by rw [← HFD.out]; exact (if_pos hf).symm
    clear HFD
    go_wp2
    go_quiet (fail)
    have HO2 : Hid ((w1.drewN nq).ownsRow w.heap.size 5 1 (.slice V1 b.length cv1) b.length (b.map (Value.int .u8))) := HO1.out
    have B2 : Below w.heap.size w (w1.drewN nq) := below_drewN b1 nq
    have y1 : (w1.drewN nq).cell? ⟨q, 1, none⟩ = some (.int .i64 c) := d1
    have hq2 : q < (w1.drewN nq).heap.size := blk_lt hb1.out
    generalize w1.drewN nq = W2 at *
    clear HO1 b1 d1 d2 d3 hb1
    have hwc : IntKind.u8.wrap c = c := IntWalk.u8_in _ (by omega)
    go_wp2_with (at_builtin; refine wpList_append_own _ rfl _ _ 30 rfl w.heap.size 5 i0 (.int .u8 0) 1 1 Try.underlying30 hi hz0 hz1 hz2 rfl (by decide) _ _ _ rfl (HO2.out.alloc _) ⟨W2.heap.size, 0, none⟩ 1 1 [.int .u8 c] rfl rfl (cell_one_new _ _ _) ?k2 ?k3 ?k4 ?k5 ?_)
    case k2 => intro u hu; simp at hu; subst hu; rfl
    case k3 => unfold maxLen; omega
    case k4 => omega
    case k5 => have := B2.size; simp; omega
    intro v4 w4 hown4 hg4 _
    have BW : Below w.heap.size w w4 := (B2.alloc B2.size _).grown hg4 (by have := B2.size; simp; omega) (fun k hk => (HO2.out.lt k hk).1)
    have e4 : b.map (Value.int .u8) ++ [Value.int .u8 c] = F.map (Value.int .u8) := by rw [← HF.out]; simp
    rw [e4] at hown4
    have HM : Hid (F.length = b.length + 1) := Lib.hid (by rw [← HF.out]; simp)
    obtain ⟨A4, c4, rfl, _, _, _⟩ := own_any hown4
    have HO := Lib.hid hown4
    clear hown4 e4 hg4 HO2 B2 y1 HF hwc
    obtain ⟨g, cg, hve, hg1, hg2, hg3, hg4⟩ := own_form HO.out (by omega)
    have hu1 : (b.length : Int) ≤ (cg : Int) := by omega
    injection hve with hve1 _ hve2
    subst hve1 hve2
    have f6 := HO.out.cellAt b.length (by omega)
    have e6 : (F.map (Value.int .u8))[b.length]? = some (.int .u8 (F.getLastD 0)) := by
      rw [List.getElem?_map, List.getLastD_eq_getLast?, List.getLast?_eq_getElem?, HM.out, show b.length + 1 - 1 = b.length from rfl, List.getElem?_eq_getElem (by rw [HM.out]; omega)]; rfl
    rw [e6] at f6
    have hne : F ≠ [] := by intro e; have := HM.out; rw [e] at this; simp at this
    have hwu : IntKind.i64.wrap (b.length : Int) = (b.length : Int) := IntWalk.i64_in _ (by omega)
    have hu0 : (0 : Int) ≤ (b.length : Int) := by omega
    have hu2 : (0 : Int) < (b.length : Int) + 1 := by omega
    clear e6
    by_cases h255 : F.getLastD 0 = 255
    · have hfl : Hid (flushF F = F.dropLast) := if_pos h255
      have hx : (F.getLastD 0 == 255) = true := by simpa using h255
      have HX : Hid (F.dropLast = F.take b.length) := by rw [List.dropLast_eq_take, HM.out]; rfl
      have HLs := Lib.hid ((Lst.own HO.out).take b.length)
      generalize F.getLastD 0 = x at *
      go_wp2
      go_ret
      have el : (flushF F).length = b.length := by rw [hfl.out, HX.out, List.length_take, HM.out]; omega
      refine ⟨some ⟨g, 0, none⟩, c4, by rw [el]; rfl, by simp, ?_, BW⟩
      have := HLs.out
      rw [← List.map_take, ← HX.out, ← hfl.out] at this
      exact this
    · have hfl : Hid (flushF F = F) := if_neg h255
      have hx : (F.getLastD 0 == 255) = false := by simpa using h255
      have HLs := Lib.hid (Lst.own HO.out)
      generalize F.getLastD 0 = x at *
      go_wp2
      go_ret
      have el : (flushF F).length = b.length + 1 := by rw [hfl.out, HM.out]
      refine ⟨some ⟨g, 0, none⟩, c4, by rw [el]; rfl, by simp, ?_, BW⟩
      rw [hfl.out]
      exact HLs.out
  · have hfi : ¬ (f : Int) < (t : Int) := by omega
    have HF : Hid (b = F) := by rw [← HFD.out]; exact (if_neg hf).symm
    clear HFD
    go_wp2
    go_quiet (fail)
    have HF' := HF.out
    clear HF
    subst HF'
    have HO2 : Hid ((w1.drewN nq).ownsRow w.heap.size 5 1 (.slice V1 b.length cv1) b.length (b.map (Value.int .u8))) := HO1.out
    have BW : Below w.heap.size w (w1.drewN nq) := below_drewN b1 nq
    generalize w1.drewN nq = W2 at *
    clear HO1 b1 d1 d2 d3 hb1
    by_cases h0 : b = []
    · subst h0
      have HN := Lib.hid (own_any HO2.out)
      go_wp2
      go_ret
      refine ⟨V1, cv1, rfl, ?_, ?_, BW⟩
      · obtain ⟨A', c', hv, hA', _⟩ := HN.out
        injection hv with a1 a2 a3
        subst a1 a3
        exact hA'
      · exact Lst.nil
    · obtain ⟨u, hu⟩ : ∃ u, b.length = u + 1 := ⟨b.length - 1, by have := List.length_pos_iff.2 h0; omega⟩
      obtain ⟨F, hF⟩ : ∃ F, b = F := ⟨_, rfl⟩
      have HO : Hid (W2.ownsRow w.heap.size 5 1 (.slice V1 (u + 1) cv1) (u + 1) (b.map (Value.int .u8))) := by have := HO2.out; rw [hu] at this; exact this
      have HM := Lib.hid hu
      rw [hu]
      clear HO2 hF F h0
      have hub : u ≤ 90000 := by omega
      clear hl hu
      obtain ⟨g, cg, hve, hg1, hg2, hg3, hg4⟩ := own_form HO.out (by omega)
      have hu1 : (u : Int) ≤ (cg : Int) := by omega
      injection hve with hve1 _ hve2
      subst hve1 hve2
      have f6 := HO.out.cellAt u (by omega)
      have e6 : (b.map (Value.int .u8))[u]? = some (.int .u8 (b.getLastD 0)) := by
        rw [List.getElem?_map, List.getLastD_eq_getLast?, List.getLast?_eq_getElem?, HM.out, show u + 1 - 1 = u from rfl, List.getElem?_eq_getElem (by rw [HM.out]; omega)]; rfl
      rw [e6] at f6
      have hne : b ≠ [] := by intro e; have := HM.out; rw [e] at this; simp at this
      have hwu : IntKind.i64.wrap (u : Int) = (u : Int) := IntWalk.i64_in _ (by omega)
      have hu0 : (0 : Int) ≤ (u : Int) := by omega
      have hu2 : (0 : Int) < (u : Int) + 1 := by omega
      clear e6
      by_cases h255 : b.getLastD 0 = 255
      · have hfl : Hid (flushF b = b.dropLast) := if_pos h255
        have hx : (b.getLastD 0 == 255) = true := by simpa using h255
        have HX : Hid (b.dropLast = b.take u) := by rw [List.dropLast_eq_take, HM.out]; rfl
        have HLs := Lib.hid ((Lst.own HO.out).take u)
        generalize b.getLastD 0 = x at *
        go_wp2
        go_ret
        have el : (flushF b).length = u := by rw [hfl.out, HX.out, List.length_take, HM.out]; omega
        refine ⟨some ⟨g, 0, none⟩, cv1, by rw [el]; rfl, by simp, ?_, BW⟩
        have := HLs.out
        rw [← List.map_take, ← HX.out, ← hfl.out] at this
        exact this
      · have hfl : Hid (flushF b = b) := if_neg h255
        have hx : (b.getLastD 0 == 255) = false := by simpa using h255
        have HLs := Lib.hid (Lst.own HO.out)
        generalize b.getLastD 0 = x at *
        go_wp2
        go_ret
        have el : (flushF b).length = u + 1 := by rw [hfl.out, HM.out]
        refine ⟨some ⟨g, 0, none⟩, cv1, by rw [el]; rfl, by simp, ?_, BW⟩
        rw [hfl.out]
        exact HLs.out
end Go.Proofs.Ytahnioenoecfeaa
