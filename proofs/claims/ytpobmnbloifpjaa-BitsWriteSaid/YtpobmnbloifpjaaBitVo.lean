/- The reference's Writer of chapter 2: Bits and Bytes; the two Writers go side by side. -/
import Derived.Test.YtpobmnbloifpjaaBitV
import Derived.Test.YtpobmnbloifpjaaBitStuf
set_option linter.unusedVariables false
namespace Go.Proofs.Ytpobmnbloifpjaa
open Go.RowKit

/-- The writer of the program and that of the reference stand alike. -/
def VRel (S : List Int × Nat) (s : VS) : Prop :=
  1 ≤ s.f ∧ s.f ≤ wnew s.b ∧ ((s.f = wnew s.b ∧ S = (s.b, 0) ∧ s.c = 0) ∨ (s.f < wnew s.b ∧ S = (s.b ++ [s.c], s.f)))
theorem vrel_step {S : List Int × Nat} {s : VS} (h : VRel S s) (x : Int) : VRel (wstep S x) (vstep s x) := by
  obtain ⟨b, c, f⟩ := s
  obtain ⟨h2, h3, h4⟩ := h
  simp only at h2 h3 h4
  have hw := wnew_rng b
  rcases h4 with ⟨e1, e2, e3⟩ | ⟨e1, e2⟩
  · subst e2 e3
    have e4 : vstep ⟨b, 0, f⟩ x = ⟨b, x % 2 * 2 ^ (f - 1), f - 1⟩ := by
      unfold vstep vcur
      rw [if_neg (by show ¬ f - 1 = 0; omega)]
      simp
    have e5 : wstep (b, 0) x = (b ++ [x % 2 * 2 ^ (f - 1)], f - 1) := by unfold wstep; rw [if_pos rfl, ← e1]
    rw [e4, e5]
    exact ⟨by show 1 ≤ f - 1; omega, by show f - 1 ≤ wnew b; omega, Or.inr ⟨by show f - 1 < wnew b; omega, rfl⟩⟩
  · subst e2
    have e5 : wstep (b ++ [c], f) x = (b ++ [vcur ⟨b, c, f⟩ x], f - 1) := by
      unfold wstep vcur
      rw [if_neg (by show ¬ f = 0; omega)]
      rw [List.dropLast_concat, lastD_snoc]
    rw [e5]
    generalize hy : vcur ⟨b, c, f⟩ x = y
    unfold vstep
    rw [hy]
    by_cases h0 : f - 1 = 0
    · rw [if_pos h0]
      have e6 : wnew (b ++ [y]) = vtop y := by unfold wnew vtop; rw [lastD_snoc]
      have e7 := wnew_rng (b ++ [y])
      rw [e6] at e7
      refine ⟨by show 1 ≤ vtop y; omega, by show vtop y ≤ wnew (b ++ [y]); omega, Or.inl ⟨e6.symm, by rw [h0], rfl⟩⟩
    · rw [if_neg h0]
      exact ⟨by show 1 ≤ f - 1; omega, by show f - 1 ≤ wnew b; omega, Or.inr ⟨by show f - 1 < wnew b; omega, rfl⟩⟩
/-- All bytes begun. -/
def vall (s : VS) : List Int := if s.f < wnew s.b then s.b ++ [s.c] else s.b
theorem vrel_all {S : List Int × Nat} {s : VS} (h : VRel S s) : vall s = S.1 := by
  obtain ⟨h2, h3, h4⟩ := h
  unfold vall
  rcases h4 with ⟨e1, e2, e3⟩ | ⟨e1, e2⟩
  · rw [if_neg (by omega), e2]
  · rw [if_pos e1, e2]
theorem vrel_use {S : List Int × Nat} {s : VS} (h : VRel S s) (ok : WOk S) : 1 ≤ s.f ∧ s.f ≤ 8 ∧ (0 ≤ s.c ∧ s.c ≤ 255) ∧ s.c % 2 ^ s.f = 0 ∧ s.b.length ≤ S.1.length := by
  obtain ⟨h2, h3, h4⟩ := h
  have hw := wnew_rng s.b
  rcases h4 with ⟨e1, e2, e3⟩ | ⟨e1, e2⟩
  · refine ⟨h2, by omega, by rw [e3]; omega, by rw [e3]; simp, by rw [e2]; exact Nat.le_refl _⟩
  · have h5 := ok.low
    have h6 := ok.rng s.c (by rw [e2]; simp)
    rw [e2] at h5
    simp only [lastD_snoc] at h5
    exact ⟨h2, by omega, h6, h5, by rw [e2]; simp⟩
theorem low_not255 {c : Int} {f : Nat} (h1 : 1 ≤ f) (h : c % 2 ^ f = 0) : c ≠ 255 := by
  intro e
  subst e
  obtain ⟨k, rfl⟩ : ∃ k, f = k + 1 := ⟨f - 1, by omega⟩
  have ps := pow_succ' k
  have sp := split_pow h
  rw [ps] at sp
  generalize (255 : Int) / (2 * 2 ^ k) = q at *
  rw [show q * (2 * 2 ^ k) = 2 * (q * 2 ^ k) from by rw [Int.mul_left_comm]] at sp
  omega
def vfold (s : VS) (bs : List Int) : VS := bs.foldl vstep s
theorem vfold_snoc (s : VS) (bs : List Int) (b : Int) : vfold s (bs ++ [b]) = vstep (vfold s bs) b := by simp [vfold]
theorem vrel_fold {S : List Int × Nat} {s : VS} (h : VRel S s) (bs : List Int) : VRel (wfold S bs) (vfold s bs) := by
  induction bs generalizing S s with
  | nil => exact h
  | cons b bs ih => exact ih (vrel_step h b)

set_option maxHeartbeats 2000000 in
theorem vbits_only {P : Nat → Prop} {w : World} {q : Nat} {S : List Int × Nat} {s : VS} {n : Int} {size : Nat} (h : Vo P w q s) (hr : VRel S s) (ok : WOk S) (h1 : 1 ≤ size) (h2 : size ≤ 32) (hl : S.1.length ≤ 80000) (hP : ∀ k, w.heap.size ≤ k → P k) :
    Calls Try.prog 17 #[.pointer (some ⟨q, 0, none⟩), .int .i64 n, .int .i64 (size : Int)] w fun e w' => e = .returned (.tuple #[]) ∧ Vo P w' q (vfold s (bitsOf n size)) ∧ Only P w w' := by
  have H := Lib.hid h
  have HR := Lib.hid hr
  clear h hr
  have z1 : ¬ (size : Int) < 1 := by omega
  have z2 : ¬ (32 : Int) < (size : Int) := by omega
  go_enter Try.func17, Try.ntmps17
  go_wp2
  go_loopw [6] (fun i wr => ∃ t : Nat, t ≤ size ∧ i = .int .i64 ((t : Int) - 1) ∧ Vo P wr q (vfold s ((bitsOf n size).take (size - t))) ∧ Only P w wr) (fun i _ => (intOf i + 1).toNat)
  case atStart => exact ⟨size, by omega, rfl, by simpa [vfold] using H.out, Only.refl _ _⟩
  case round =>
    obtain ⟨t, ht, rfl, hw, ho⟩ := hrel
    clear H
    rcases t with _ | t
    · rw [show size - 0 = size from rfl, List.take_of_length_le (by rw [bitsOf_len]; exact Nat.le_refl _)] at hw
      have HW := Lib.hid hw
      clear hw
      go_wp2
      go_end0
      exact ⟨rfl, HW.out, ho⟩
    · have hst : vstep (vfold s ((bitsOf n size).take (size - (t + 1)))) (n / 2 ^ t) = vfold s ((bitsOf n size).take (size - t)) := by
        rw [← vfold_snoc, show size - t = size - (t + 1) + 1 from by omega, bitsOf_take (by omega), show size - 1 - (size - (t + 1)) = t from by omega]
      have hlt := wfold_len ok ((bitsOf n size).take (size - (t + 1)))
      have hlt2 : ((bitsOf n size).take (size - (t + 1))).length ≤ size := by rw [List.length_take, bitsOf_len]; omega
      have hu := vrel_use (vrel_fold HR.out ((bitsOf n size).take (size - (t + 1)))) (wfold_ok ok _)
      rw [show (((t + 1 : Nat) : Int) - 1) = (t : Int) from by omega]
      have HW := Lib.hid hw
      have HST := Lib.hid hst
      have HU := Lib.hid hu
      have ht0 : (0 : Int) ≤ (t : Int) := by omega
      have ht1 : ¬ (t : Int) < 0 := by omega
      have hP2 : ∀ k, wr.heap.size ≤ k → P k := fun k hk => hP k (Nat.le_trans ho.size hk)
      clear hw hst hu
      go_wp2_with fail
      refine (vbit_only HW.out (by have := HU.out.2.2.2.2; omega) HU.out.1 HU.out.2.1 HU.out.2.2.1 HU.out.2.2.2.1 hP2).mono ?_
      rintro e w3 ⟨rfl, h3, o3⟩
      rw [HST.out] at h3
      have H3 := Lib.hid h3
      have o4 := ho.trans o3
      clear HW h3 o3 HST hlt HU
      go_wp2
      go_roundw
      case rel => exact ⟨t, by omega, by go_num, H3.out, o4⟩
      case measure => simp [intOf] <;> omega
set_option maxHeartbeats 1000000 in
theorem vbits_none {w : World} {q : Nat} {n size : Int} (h : size < 1 ∨ 32 < size) :
    Calls Try.prog 17 #[.pointer (some ⟨q, 0, none⟩), .int .i64 n, .int .i64 size] w fun e w' => e = .returned (.tuple #[]) ∧ w = w' := by
  by_cases h1 : size < 1
  · go_enter Try.func17, Try.ntmps17
    go_wp2
    refine bodyPost_ret (results_none rfl _ _ _) rfl ?_
    exact ⟨rfl, rfl⟩
  · have h2 : (32 : Int) < size := by omega
    go_enter Try.func17, Try.ntmps17
    go_wp2
    refine bodyPost_ret (results_none rfl _ _ _) rfl ?_
    exact ⟨rfl, rfl⟩

set_option maxHeartbeats 8000000 in
theorem vbytes_new {P : Nat → Prop} {w : World} {q : Nat} {s : VS} (h : Vo P w q s) (hl : s.b.length ≤ 80000) (h3 : 0 ≤ s.c ∧ s.c ≤ 255) (h4 : 1 ≤ s.f) (hlow : s.c % 2 ^ s.f = 0) :
    Calls Try.prog 19 #[.pointer (some ⟨q, 0, none⟩)] w fun e w' => ∃ V, e = .returned V ∧ w'.ownsRow w.heap.size 5 1 V (bytesF (vall s)).length ((bytesF (vall s)).map (Value.int .u8)) ∧ Below w.heap.size w w' := by
  obtain ⟨i0, hi, hz0, hz1, hz2⟩ := info_parts Try.info5
  have hn255 := low_not255 h4 hlow
  obtain ⟨b, c, f⟩ := s
  obtain ⟨hq, V, hb, hown, _⟩ := h
  simp only at hl hb hown h3 h4 hn255
  obtain ⟨A, cv, rfl, hA, _, _⟩ := own_any hown
  have c0 := blk_cell hb 0
  simp at c0
  have n0 : (w.alloc (Obj.cells #[] 5)).cell? ⟨q, 0, none⟩ = some (.slice A b.length cv) := (World.cell?_alloc_lt w _ _ (blk_lt hb)).trans c0
  have HL := Lib.hid (Lst.own hown)
  have HA := Lib.hid hA
  have HB := Lib.hid hb
  have hcb : (c == 255) = false := by simpa using hn255
  have hwc : IntKind.u8.wrap c = c := IntWalk.u8_in _ (by omega)
  clear hown hA hb hlow
  obtain ⟨F, hF⟩ : ∃ F, bytesF (vall ⟨b, c, f⟩) = F := ⟨_, rfl⟩
  rw [hF]
  by_cases hb0 : b = []
  · subst hb0
    by_cases hf : f < 8
    · have HF : Hid (F = [c]) := Lib.hid (by rw [← hF]; unfold vall; rw [if_pos (by show f < wnew []; exact hf)]; unfold bytesF; rw [if_neg (by simpa using hn255)]; rfl)
      have hfi : (f : Int) < 8 := by omega
      clear hF
      go_enter Try.func19, Try.ntmps19
      go_wp2_with (at_builtin; refine wpList_clone8 rfl (.tmp 5) (.tmp 9) rfl rfl rfl rfl HA.out HL.out (by omega) ?_)
      intro V1 cv1 w1 hown1 b1
      have hb1 : Hid (w1.heap[q]? = some (.cells #[.slice A 0 cv, .int .i64 c, .int .i64 (f : Int)] 59 (0, 0))) := Lib.hid ((b1.block q (blk_lt HB.out)).trans HB.out)
      have d1 := blk_cell hb1.out 1
      have d2 := blk_cell hb1.out 2
      simp at d1 d2
      have HO2 := Lib.hid hown1
      clear hown1
      have y1 : (w1.alloc (Obj.cells #[Value.int IntKind.u8 c] 5)).heap.size = w1.heap.size + 1 := by simp
      go_wp2_with (at_builtin; refine wpList_append_own _ rfl _ _ 31 rfl w.heap.size 5 i0 (.int .u8 0) 1 1 Try.underlying31 hi hz0 hz1 hz2 rfl (by decide) _ _ _ rfl (HO2.out.alloc _) ⟨w1.heap.size, 0, none⟩ 1 1 [.int .u8 c] rfl rfl (cell_one_new _ _ _) ?k2 ?k3 ?k4 ?k5 ?_)
      case k2 => first | rfl | (intro u hu; simp at hu; subst hu; rfl)
      case k3 => unfold maxLen; omega
      case k4 => omega
      case k5 => have := b1.size; simp; omega
      intro v4 w4 hown4 hg4' _
      have BW : Below w.heap.size w w4 := (b1.alloc b1.size _).grown hg4' (by have := b1.size; simp; omega) (fun k hk => (HO2.out.lt k hk).1)
      obtain ⟨g4, c4, rfl, _, _, _, _⟩ := own_form hown4 (by omega)
      have f7 := hown4.cellAt 0 (by omega)
      try simp at f7
      try simp at hown4
      clear hg4'
      go_wp2
      go_ret
      rw [HF.out]
      exact ⟨_, rfl, hown4, BW⟩
    · have HF : Hid (F = []) := Lib.hid (by rw [← hF]; unfold vall; rw [if_neg (by show ¬ f < wnew []; exact hf)]; rfl)
      have hfi : ¬ (f : Int) < 8 := by omega
      clear hF
      go_enter Try.func19, Try.ntmps19
      go_wp2_with (at_builtin; refine wpList_clone8 rfl (.tmp 5) (.tmp 9) rfl rfl rfl rfl HA.out HL.out (by omega) ?_)
      intro V1 cv1 w1 hown1 b1
      have hb1 : Hid (w1.heap[q]? = some (.cells #[.slice A 0 cv, .int .i64 c, .int .i64 (f : Int)] 59 (0, 0))) := Lib.hid ((b1.block q (blk_lt HB.out)).trans HB.out)
      have d1 := blk_cell hb1.out 1
      have d2 := blk_cell hb1.out 2
      simp at d1 d2
      have HO := Lib.hid hown1
      clear hown1
      go_wp2
      go_ret
      rw [HF.out]
      exact ⟨_, rfl, HO.out, b1⟩
  · have hp := List.length_pos_iff.2 hb0
    have hlast : b.getD (b.length - 1) 0 = b.getLastD 0 := by rw [List.getD_eq_getElem?_getD, List.getLastD_eq_getLast?, List.getLast?_eq_getElem?]
    obtain ⟨u, hu⟩ : ∃ u, b.length = u + 1 := ⟨b.length - 1, by omega⟩
    rw [hu] at hl n0 HB HA hlast
    rw [show u + 1 - 1 = u from rfl] at hlast
    have hub : u ≤ 90000 := by omega
    have HU := Lib.hid hu
    have hwu : IntKind.i64.wrap (u : Int) = (u : Int) := IntWalk.i64_in _ (by omega)
    have hu0 : (0 : Int) ≤ (u : Int) := by omega
    have hu2 : (0 : Int) < (u : Int) + 1 := by omega
    clear hu hp
    by_cases h255 : b.getLastD 0 = 255
    · have hwn : wnew b = 7 := if_pos h255
      by_cases hf : f < 7
      · have HF : Hid (F = b ++ [c]) := Lib.hid (by rw [← hF]; unfold vall; rw [if_pos (by show f < wnew b; rw [hwn]; exact hf)]; unfold bytesF; rw [if_neg (by simpa using hn255)])
        have hfi : (f : Int) < 7 := by omega
        rw [h255] at hlast
        clear hF hwn h255
        go_enter Try.func19, Try.ntmps19
        go_wp2_with (at_builtin; refine wpList_clone8 rfl (.tmp 5) (.tmp 9) rfl rfl rfl HU.out HA.out HL.out (by omega) ?_)
        intro V1 cv1 w1 hown1 b1
        have hb1 : Hid (w1.heap[q]? = some (.cells #[.slice A (u + 1) cv, .int .i64 c, .int .i64 (f : Int)] 59 (0, 0))) := Lib.hid ((b1.block q (blk_lt HB.out)).trans HB.out)
        have d1 := blk_cell hb1.out 1
        have d2 := blk_cell hb1.out 2
        simp at d1 d2
        obtain ⟨g, cg, hve, hg1, hg2, hg3, hg4⟩ := own_form hown1 (by omega)
        injection hve with hve1 _ hve2
        subst hve1 hve2
        have f6 := hown1.cellAt u (by omega)
        have e6 : (b.map (Value.int .u8))[u]? = some (.int .u8 (b.getD u 0)) := by
          rw [List.getElem?_map, List.getD_eq_getElem?_getD, List.getElem?_eq_getElem (by rw [HU.out]; omega)]; rfl
        rw [e6, hlast] at f6
        clear e6
        have HO2 := Lib.hid hown1
        clear hown1
        go_wp2_with (at_builtin; refine wpList_append_own _ rfl _ _ 31 rfl w.heap.size 5 i0 (.int .u8 0) 1 1 Try.underlying31 hi hz0 hz1 hz2 rfl (by decide) _ _ _ rfl (HO2.out.alloc _) ⟨w1.heap.size, 0, none⟩ 1 1 [.int .u8 c] rfl rfl (cell_one_new _ _ _) ?k2 ?k3 ?k4 ?k5 ?_)
        case k2 => first | rfl | (intro u hu; simp at hu; subst hu; rfl)
        case k3 => unfold maxLen; omega
        case k4 => omega
        case k5 => have := b1.size; simp; omega
        intro v4 w4 hown4 hg4' _
        have BW : Below w.heap.size w w4 := (b1.alloc b1.size _).grown hg4' (by have := b1.size; simp; omega) (fun k hk => (HO2.out.lt k hk).1)
        have e4 : b.map (Value.int .u8) ++ [Value.int .u8 c] = (b ++ [c]).map (Value.int .u8) := by simp
        rw [e4] at hown4
        obtain ⟨g4, c4, rfl, _, _, _, _⟩ := own_form hown4 (by omega)
        have f7 := hown4.cellAt (u + 1) (by omega)
        have e7 : ((b ++ [c]).map (Value.int .u8))[u + 1]? = some (.int .u8 c) := by
          rw [List.getElem?_map, List.getElem?_append_right (by rw [HU.out]; exact Nat.le_refl _), HU.out, Nat.sub_self]; rfl
        rw [e7] at f7
        have hwu1 : IntKind.i64.wrap ((u : Int) + 1) = (u : Int) + 1 := IntWalk.i64_in _ (by omega)
        have hu3 : (0 : Int) ≤ (u : Int) + 1 := by omega
        have hu4 : (0 : Int) < (u : Int) + 1 + 1 := by omega
        have HO4 := Lib.hid hown4
        clear hg4' e4 e7 hown4 f6
        go_wp2
        go_ret
        refine ⟨_, rfl, ?_, BW⟩
        rw [HF.out, List.length_append, HU.out]
        exact HO4.out
      · have HF : Hid (F = b ++ [0]) := Lib.hid (by rw [← hF]; unfold vall; rw [if_neg (by show ¬ f < wnew b; rw [hwn]; exact hf)]; unfold bytesF; rw [if_pos (by exact h255)])
        have hfi : ¬ (f : Int) < 7 := by omega
        rw [h255] at hlast
        clear hF hwn h255
        go_enter Try.func19, Try.ntmps19
        go_wp2_with (at_builtin; refine wpList_clone8 rfl (.tmp 5) (.tmp 9) rfl rfl rfl HU.out HA.out HL.out (by omega) ?_)
        intro V1 cv1 w1 hown1 b1
        have hb1 : Hid (w1.heap[q]? = some (.cells #[.slice A (u + 1) cv, .int .i64 c, .int .i64 (f : Int)] 59 (0, 0))) := Lib.hid ((b1.block q (blk_lt HB.out)).trans HB.out)
        have d1 := blk_cell hb1.out 1
        have d2 := blk_cell hb1.out 2
        simp at d1 d2
        obtain ⟨g, cg, hve, hg1, hg2, hg3, hg4⟩ := own_form hown1 (by omega)
        injection hve with hve1 _ hve2
        subst hve1 hve2
        have f6 := hown1.cellAt u (by omega)
        have e6 : (b.map (Value.int .u8))[u]? = some (.int .u8 (b.getD u 0)) := by
          rw [List.getElem?_map, List.getD_eq_getElem?_getD, List.getElem?_eq_getElem (by rw [HU.out]; omega)]; rfl
        rw [e6, hlast] at f6
        clear e6
        have HO2 := Lib.hid hown1
        clear hown1
        go_wp2_with (at_builtin; refine wpList_append_own _ rfl _ _ 31 rfl w.heap.size 5 i0 (.int .u8 0) 1 1 Try.underlying31 hi hz0 hz1 hz2 rfl (by decide) _ _ _ rfl (HO2.out.alloc _) ⟨w1.heap.size, 0, none⟩ 1 1 [.int .u8 0] rfl rfl (cell_one_new _ _ _) ?k2 ?k3 ?k4 ?k5 ?_)
        case k2 => first | rfl | (intro u hu; simp at hu; subst hu; rfl)
        case k3 => unfold maxLen; omega
        case k4 => omega
        case k5 => have := b1.size; simp; omega
        intro v4 w4 hown4 hg4' _
        have BW : Below w.heap.size w w4 := (b1.alloc b1.size _).grown hg4' (by have := b1.size; simp; omega) (fun k hk => (HO2.out.lt k hk).1)
        have e4 : b.map (Value.int .u8) ++ [Value.int .u8 0] = (b ++ [0]).map (Value.int .u8) := by simp
        rw [e4] at hown4
        have HO4 := Lib.hid hown4
        clear hg4' e4 hown4 f6
        go_wp2
        go_ret
        refine ⟨_, rfl, ?_, BW⟩
        rw [HF.out, List.length_append, HU.out]
        exact HO4.out
    · have hwn : wnew b = 8 := if_neg h255
      have hlb : (b.getLastD 0 == 255) = false := by simpa using h255
      by_cases hf : f < 8
      · have HF : Hid (F = b ++ [c]) := Lib.hid (by rw [← hF]; unfold vall; rw [if_pos (by show f < wnew b; rw [hwn]; exact hf)]; unfold bytesF; rw [if_neg (by simpa using hn255)])
        have hfi : (f : Int) < 8 := by omega
        clear hF hwn h255
        generalize b.getLastD 0 = x at *
        go_enter Try.func19, Try.ntmps19
        go_wp2_with (at_builtin; refine wpList_clone8 rfl (.tmp 5) (.tmp 9) rfl rfl rfl HU.out HA.out HL.out (by omega) ?_)
        intro V1 cv1 w1 hown1 b1
        have hb1 : Hid (w1.heap[q]? = some (.cells #[.slice A (u + 1) cv, .int .i64 c, .int .i64 (f : Int)] 59 (0, 0))) := Lib.hid ((b1.block q (blk_lt HB.out)).trans HB.out)
        have d1 := blk_cell hb1.out 1
        have d2 := blk_cell hb1.out 2
        simp at d1 d2
        obtain ⟨g, cg, hve, hg1, hg2, hg3, hg4⟩ := own_form hown1 (by omega)
        injection hve with hve1 _ hve2
        subst hve1 hve2
        have f6 := hown1.cellAt u (by omega)
        have e6 : (b.map (Value.int .u8))[u]? = some (.int .u8 (b.getD u 0)) := by
          rw [List.getElem?_map, List.getD_eq_getElem?_getD, List.getElem?_eq_getElem (by rw [HU.out]; omega)]; rfl
        rw [e6, hlast] at f6
        clear e6
        have HO2 := Lib.hid hown1
        clear hown1
        go_wp2_with (at_builtin; refine wpList_append_own _ rfl _ _ 31 rfl w.heap.size 5 i0 (.int .u8 0) 1 1 Try.underlying31 hi hz0 hz1 hz2 rfl (by decide) _ _ _ rfl (HO2.out.alloc _) ⟨w1.heap.size, 0, none⟩ 1 1 [.int .u8 c] rfl rfl (cell_one_new _ _ _) ?k2 ?k3 ?k4 ?k5 ?_)
        case k2 => first | rfl | (intro u hu; simp at hu; subst hu; rfl)
        case k3 => unfold maxLen; omega
        case k4 => omega
        case k5 => have := b1.size; simp; omega
        intro v4 w4 hown4 hg4' _
        have BW : Below w.heap.size w w4 := (b1.alloc b1.size _).grown hg4' (by have := b1.size; simp; omega) (fun k hk => (HO2.out.lt k hk).1)
        have e4 : b.map (Value.int .u8) ++ [Value.int .u8 c] = (b ++ [c]).map (Value.int .u8) := by simp
        rw [e4] at hown4
        obtain ⟨g4, c4, rfl, _, _, _, _⟩ := own_form hown4 (by omega)
        have f7 := hown4.cellAt (u + 1) (by omega)
        have e7 : ((b ++ [c]).map (Value.int .u8))[u + 1]? = some (.int .u8 c) := by
          rw [List.getElem?_map, List.getElem?_append_right (by rw [HU.out]; exact Nat.le_refl _), HU.out, Nat.sub_self]; rfl
        rw [e7] at f7
        have hwu1 : IntKind.i64.wrap ((u : Int) + 1) = (u : Int) + 1 := IntWalk.i64_in _ (by omega)
        have hu3 : (0 : Int) ≤ (u : Int) + 1 := by omega
        have hu4 : (0 : Int) < (u : Int) + 1 + 1 := by omega
        have HO4 := Lib.hid hown4
        clear hg4' e4 e7 hown4 f6
        go_wp2
        go_ret
        refine ⟨_, rfl, ?_, BW⟩
        rw [HF.out, List.length_append, HU.out]
        exact HO4.out
      · have HF : Hid (F = b) := Lib.hid (by rw [← hF]; unfold vall; rw [if_neg (by show ¬ f < wnew b; rw [hwn]; exact hf)]; unfold bytesF; rw [if_neg (by exact h255)])
        have hfi : ¬ (f : Int) < 8 := by omega
        clear hF hwn h255
        generalize b.getLastD 0 = x at *
        go_enter Try.func19, Try.ntmps19
        go_wp2_with (at_builtin; refine wpList_clone8 rfl (.tmp 5) (.tmp 9) rfl rfl rfl HU.out HA.out HL.out (by omega) ?_)
        intro V1 cv1 w1 hown1 b1
        have hb1 : Hid (w1.heap[q]? = some (.cells #[.slice A (u + 1) cv, .int .i64 c, .int .i64 (f : Int)] 59 (0, 0))) := Lib.hid ((b1.block q (blk_lt HB.out)).trans HB.out)
        have d1 := blk_cell hb1.out 1
        have d2 := blk_cell hb1.out 2
        simp at d1 d2
        obtain ⟨g, cg, hve, hg1, hg2, hg3, hg4⟩ := own_form hown1 (by omega)
        injection hve with hve1 _ hve2
        subst hve1 hve2
        have f6 := hown1.cellAt u (by omega)
        have e6 : (b.map (Value.int .u8))[u]? = some (.int .u8 (b.getD u 0)) := by
          rw [List.getElem?_map, List.getD_eq_getElem?_getD, List.getElem?_eq_getElem (by rw [HU.out]; omega)]; rfl
        rw [e6, hlast] at f6
        clear e6
        have HO := Lib.hid hown1
        clear hown1
        go_wp2
        go_ret
        rw [HF.out, HU.out]
        exact ⟨_, rfl, HO.out, b1⟩
end Go.Proofs.Ytpobmnbloifpjaa
