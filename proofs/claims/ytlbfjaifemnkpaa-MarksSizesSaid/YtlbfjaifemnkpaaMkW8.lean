/- marks: MarksSizes walked. -/
import Derived.Test.YtlbfjaifemnkpaaMkW7
import Derived.Test.YtlbfjaifemnkpaaMkSm
import Derived.Laws.Rows
import Derived.Deep.CutRange
import Derived.Deep.CutBlock
set_option linter.unusedVariables false
set_option linter.unusedSimpArgs false
namespace Go.Proofs.Ytlbfjaifemnkpaa
open Go.RowKit
set_option maxRecDepth 100000
structure Z4 where
  s : Nat
  g : Nat
  A : Option Addr
  C : Nat
  cs : List Cp
theorem main_two (h : HV) (cs : List Cp) (l : List Int) (k : Nat) : ∃ r, mainL h cs l k = 255 :: 79 :: r := by
  unfold mainL headL
  exact ⟨_, rfl⟩
theorem mainL_len (h : HV) (cs : List Cp) (l : List Int) (k : Nat) (hl : l.length = h.sn) : (mainL h cs l k).length = 42 + 3 * cs.length + 15 + k + 6 + 3 * k + (if 0 < h.sn then 6 + h.sn else 0) := by
  unfold mainL
  rw [List.length_append, headL_len]
  split
  · rw [segL_len, List.length_append, fldL_len, hl]
    simp
    omega
  · simp
    omega
set_option maxHeartbeats 16000000 in
theorem walk_marksSizes (f : FN) (A0 : Option Addr) (len0 cap0 : Nat) (z0 : List Int) (a1 : Int) (w : World) (w0 : IsRow .i64 w A0 len0 cap0 z0) (s0 : -9223372036854775808 ≤ f.sb ∧ f.sb ≤ 9223372036854775807) (wf1 : (Lit.int .i64 a1).wf = true) :
    Calls Try.prog 6 #[.agg (f.arr A0 len0 cap0), .int .i64 a1] w fun e w' => e = .returned (.bool true) ∧ Below w.heap.size w w' := by
  have MH0 := Lib.hid (fun (u : World) A2 C2 cs SA sn sc l h1 h2 h3 h4 h5 h6 h7 => main_hv f (w := u) (A2 := A2) (C2 := C2) (cs := cs) (SA := SA) (sn := sn) (sc := sc) (l := l) h1 h2 h3 h4 h5 h6 h7)
  have HDV := Lib.hid (fun SA sn sc u hu => head_hv f A0 len0 cap0 z0 SA sn sc u hu s0)
  obtain ⟨fc, hfc⟩ : ∃ fc, f.arr A0 len0 cap0 = fc := ⟨_, rfl⟩
  have hfs : fc.size = 21 := by rw [← hfc]; rfl
  rw [hfc] at HDV ⊢
  have HFS := Lib.hid hfs
  clear hfc hfs
  have hok := mkPN_ok f 8 (by omega)
  obtain ⟨M, hM⟩ : ∃ M, mkPN f 8 = M := ⟨_, rfl⟩
  rw [hM] at hok
  have HOK := Lib.hid hok
  clear hok
  obtain ⟨N, hN⟩ : ∃ N, mkN f = N := ⟨_, rfl⟩
  have hNb : 1 ≤ N ∧ N ≤ 4 := by
    have := within_rng f.nc 4 (by omega)
    rw [← hN]
    unfold mkN
    omega
  obtain ⟨DP, hDP⟩ : ∃ D, mkDP f = D := ⟨_, rfl⟩
  have HDP : Hid (1 ≤ DP ∧ DP ≤ 10) := Lib.hid (by
    have := within_rng f.dp 10 (by omega)
    rw [← hDP]
    unfold mkDP
    omega)
  rw [hM, hN, hDP] at HDV MH0
  clear hM hN hDP
  go_enter Try.func6, Try.ntmps6
  go_wp2_with fail
  obtain ⟨B0, hB0⟩ : ∃ B, w.heap.size = B := ⟨_, rfl⟩
  obtain ⟨Wf, hWf⟩ : ∃ Wf, w.alloc (Obj.cells fc 24) = Wf := ⟨_, rfl⟩
  have HF0 : Hid (MkW w B0 [(fc, 24)] Wf) := Lib.hid (by
    have h0 : MkW w B0 [] w := ⟨fun i c e => by simp at e, Below.refl _ _, by simp; omega⟩
    have h1 := h0.more (by simp; omega) fc 24
    rw [← hWf]; exact h1)
  rw [hWf, hB0]
  have HBE := Lib.hid hB0
  clear hWf hB0
  refine (known17 _).mono ?_
  rintro e W0 ⟨rfl, hb⟩
  have HF1 := Lib.hid (HF0.out.keep hb)
  clear hb HF0
  obtain ⟨lo, hlo⟩ : ∃ lo, W0.heap.size = lo := ⟨_, rfl⟩
  have HLO : Hid (W0.heap.size = lo ∧ B0 < lo ∧ W0.heap[B0]? = some (.cells fc 24 (0, 0))) := Lib.hid ⟨hlo, by have := HF1.out.sz; simp at this; omega, HF1.out.b 0 _ rfl⟩
  clear hlo
  obtain ⟨Q, hQ⟩ : ∃ Q : List Cp → Prop, Q = fun cs => cs.length = N ∧ (∀ i c, cs[i]? = some c → KeyIs M.X M.Y M.OX M.OY f.sb DP f.sg i c) ∧ ((1 ≤ M.TX ∧ M.TX ≤ 832) ∧ (1 ≤ M.TY ∧ M.TY ≤ 832) ∧ cntT M.X M.Y M.TX M.TY ≤ 6) := ⟨_, rfl⟩
  have HQ := Lib.hid hQ
  have HD : Hid (∀ SA sn sc u, Below lo W0 u → lo ≤ u.heap.size → Calls Try.prog 12 #[.agg fc, .slice SA sn sc] u fun e w' => ∃ (A2 : Option Addr) (C2 : Nat) (cs : List Cp), e = .returned (.agg (M.hv A2 N C2 SA sn sc).arr) ∧ CRow u.heap.size w' (.slice A2 N C2) cs ∧ Q cs ∧ Below u.heap.size u w') := Lib.hid fun SA sn sc u hb hl => by
    refine (HDV.out SA sn sc u (IsRow.below w0 ?_)).mono ?_
    · exact (by rw [HBE.out]; exact HF1.out.bel : Below w.heap.size w W0).trans (hb.mono (by have := HLO.out.2.1; have := HBE.out; omega))
    · rintro e w' ⟨A2, C2, cs, he, hl, hc, hk, hb, htx⟩
      exact ⟨A2, C2, cs, he, hc, by rw [HQ.out]; exact ⟨hl, hk, htx⟩, hb⟩
  clear hQ HDV w0 s0
  obtain ⟨q, hq, hq1⟩ : ∃ q : Nat, a1 % 1001 = (q : Int) ∧ q ≤ 1000 := ⟨(a1 % 1001).toNat, by omega, by omega⟩
  obtain ⟨ZR, hZR⟩ : ∃ Z, (repC (.int .u8 0) (fun _ => .int .u8 0) q 0).toArray = Z := ⟨_, rfl⟩
  have MK : Hid (∀ u : World, (Instr.makeSlice 25 (.int .i64 (q : Int)) (.int .i64 (q : Int))).run Try.prog u = .ok (.slice (some ⟨u.heap.size, 0, none⟩) q q) (u.alloc (.cells ZR 5))) := Lib.hid fun u => by rw [← hZR]; exact hmk8 u q (by omega)
  have HZ : Hid (∀ i, i < q → ZR[i]? = some (.int .u8 0)) := Lib.hid fun i hi => by rw [← hZR, List.getElem?_toArray, repC_get hi, if_neg (by omega)]
  clear hZR
  go_wp2_with fail
  refine (within17 a1 1001 _ (by omega) (by omega)).mono ?_
  rintro e wx ⟨rfl, hwx⟩
  subst hwx
  rw [hq]
  go_upto_region 4 with fail
  obtain ⟨VL, hVL⟩ : ∃ VL : Z4 → List (Nat × Nat × Value), VL = fun z => [(0, 12, .agg fc), (1, 13, .int .i64 (q : Int)), (2, 14, .slice (some ⟨z.s, 0, none⟩) q q), (3, 15, .agg (M.hv z.A N z.C (some ⟨z.s, 0, none⟩) q q).arr), (4, 5, .pointer (some ⟨z.g, 0, none⟩))] := ⟨_, rfl⟩
  have hok : ∀ z, manyOk 59 (VL z) := fun z => by rw [hVL]; exact okB_ok rfl
  have HVL := Lib.hid hVL
  have hvi : ∀ z, ∀ x ∈ VL z, x.1 < 6 := fun z => by rw [hVL]; exact ltB_ok rfl
  have HOK := Lib.hid hok
  have HVI := Lib.hid hvi
  clear hVL hok hvi
  refine (wpIn_wide (n := 9)).1 (regionIn_many (N := 59) (w := _) VL (fun L z w' => (Bag L lo W0 w' [(2, z.s, ZR, 5), (4, z.g, (bif L 5 then (M.hv z.A N z.C (some ⟨z.s, 0, none⟩) q q).arr else #[.int .i64 0, .int .i64 0, .int .i64 0, .int .i64 0, .slice none 0 0, .int .i64 0, .int .i64 0, .int .i64 0, .int .i64 0, .int .i64 0, .int .i64 0, .int .i64 0, .int .i64 0, .int .i64 0, .bool false, .bool false, .bool false, .slice none 0 0]), 33)] [(3, 0, .slice z.A N z.C, z.cs)] ∧ (L 3 = true → Q z.cs)) ∧ True) [(1, .int .i64 (q : Int)), (2, .pointer (some ⟨B0, 0, none⟩))] (by kernel_rfl) (by kernel_rfl) rfl (by simp only [List.forall_mem_cons, List.not_mem_nil, false_imp_iff, implies_true, and_true]; exact ⟨rfl, rfl⟩) HVI.out ⟨0, 0, none, 0, []⟩ ?start ?step ?fin)
  case start => exact ⟨⟨by have := Bag.start W0 [(2, 0, ZR, 5), (4, 0, #[.int .i64 0, .int .i64 0, .int .i64 0, .int .i64 0, .slice none 0 0, .int .i64 0, .int .i64 0, .int .i64 0, .int .i64 0, .int .i64 0, .int .i64 0, .int .i64 0, .int .i64 0, .int .i64 0, .bool false, .bool false, .bool false, .slice none 0 0], 33)] [(3, 0, .slice none N 0, ([] : List Cp))]; rw [HLO.out.1] at this; exact this, fun h => (by cases h)⟩, trivial⟩
  case step =>
    intro gg_ hgN hgF ii_ hii_ L z w' hph hs hu
    obtain ⟨hcm, hph⟩ := hph
    have hF1 := hgF (1, .int .i64 (q : Int)) (by simp)
    have hF2 := hgF (2, .pointer (some ⟨B0, 0, none⟩)) (by simp)
    have hL := hu.1
    have hii_ : ii_ < 6 := hii_
    clear hgF
    obtain rfl | rfl | rfl | rfl | rfl | rfl := (by omega : ii_ = 0 ∨ ii_ = 1 ∨ ii_ = 2 ∨ ii_ = 3 ∨ ii_ = 4 ∨ ii_ = 5)
    · skip
      have n3 : L 3 = false := not_yet hL fun h => shut_at hs 3 0 (by kernel_rfl) (h)
      have n5 : L 5 = false := not_yet hL fun h => shut_at hs 5 0 (by kernel_rfl) (h)
      have e2 : (many gg_ L (VL z))[2]?.getD undef = .pointer (some ⟨B0, 0, none⟩) := many_out3 hgN (HOK.out z) (by rw [HVL.out]; rfl) hF2
      refine opIn_run (v := .agg fc) (w' := w') rfl rfl (fun c h => by cases h) (fun _ => trivial) ?_ ⟨z, by exact many_put3 (HOK.out _) (by rw [HVL.out]; rfl) hL, ⟨hcm.1.skip 0 (by simp) (by simp), hcm.2⟩, trivial⟩
      exact run_load_many e2 ((hcm.1.bel.block B0 HLO.out.2.1).trans HLO.out.2.2) Try.underlying24 rfl (by rw [HFS.out]; kernel_rfl)
    · skip
      have n2 : L 2 = false := not_yet hL fun h => shut_at hs 2 1 (by kernel_rfl) (h)
      have n3 : L 3 = false := not_yet hL fun h => shut_at hs 2 1 (by kernel_rfl) (shut_at hs 3 2 (by kernel_rfl) (h))
      have n5 : L 5 = false := not_yet hL fun h => shut_at hs 5 1 (by kernel_rfl) (h)
      have e1 : (many gg_ L (VL z))[1]?.getD undef = .int .i64 (q : Int) := many_out3 hgN (HOK.out z) (by rw [HVL.out]; rfl) hF1
      refine opIn_run (v := .int .i64 (q : Int)) (w' := w') rfl rfl (fun c h => by cases h) (fun _ => trivial) ?_ ⟨z, by exact many_put3 (HOK.out _) (by rw [HVL.out]; rfl) hL, ⟨hcm.1.skip 1 (by simp) (by simp), hcm.2⟩, hph⟩
      go_simp
    · skip
      have y1 : L 1 = true := up_at hu 1 (by kernel_rfl)
      have n3 : L 3 = false := not_yet hL fun h => shut_at hs 3 2 (by kernel_rfl) (h)
      have n5 : L 5 = false := not_yet hL fun h => shut_at hs 5 2 (by kernel_rfl) (h)
      have e13 : (many gg_ L (VL z))[13]?.getD undef = .int .i64 (q : Int) := many_eval3 hgN (HOK.out z) (by rw [HVL.out]; rfl) y1
      refine opIn_run (v := (.slice (some ⟨w'.heap.size, 0, none⟩) q q)) (w' := w'.alloc (.cells ZR 5)) rfl rfl (fun c h => by cases h) (fun _ => trivial) ?_ ⟨{ z with s := w'.heap.size }, by rw [show many gg_ L (VL z) = many gg_ L (VL { z with s := w'.heap.size }) from by rw [HVL.out]; simp only [many, y1, n3, n5, hL, cond_false, cond_true]]; exact many_put3 (HOK.out _) (by rw [HVL.out]; rfl) hL, ⟨hcm.1.new 2 _ _ (by simp [upd, n5]) (by simp) (by simp), hcm.2⟩, trivial⟩
      have q2 := MK.out w'
      go_simp
    · skip
      have y0 : L 0 = true := up_at hu 0 (by kernel_rfl)
      have y2 : L 2 = true := up_at hu 2 (by kernel_rfl)
      have n5 : L 5 = false := not_yet hL fun h => shut_at hs 5 3 (by kernel_rfl) (h)
      have e12 : (many gg_ L (VL z))[12]?.getD undef = .agg fc := many_eval3 hgN (HOK.out z) (by rw [HVL.out]; rfl) y0
      have e14 : (many gg_ L (VL z))[14]?.getD undef = .slice (some ⟨z.s, 0, none⟩) q q := many_eval3 hgN (HOK.out z) (by rw [HVL.out]; rfl) y2
      refine opIn_call (f := 12) (args := #[.agg fc, .slice (some ⟨z.s, 0, none⟩) q q]) (w' := w') rfl rfl (fun c h => by cases h) (fun _ => trivial) rfl (by go_simp) ((callsIn_wide.2 (HD.out (some ⟨z.s, 0, none⟩) q q w' hcm.1.bel hcm.1.sz)).mono ?_)
      rintro e w2 ⟨A2x, C2x, csx, rfl, hrow, hqq, hbb⟩
      exact ⟨_, rfl, { z with A := A2x, C := C2x, cs := csx }, by rw [show many gg_ L (VL z) = many gg_ L (VL { z with A := A2x, C := C2x, cs := csx }) from by rw [HVL.out]; simp only [many, y0, y2, n5, hL, cond_false, cond_true]]; exact many_put3 (HOK.out _) (by rw [HVL.out]; rfl) hL, ⟨hcm.1.call hbb 3 hrow 0 (by simp) (by simp [upd, n5]) (by simp) (by simp), fun _ => hqq⟩, trivial⟩
    · skip
      have n5 : L 5 = false := not_yet hL fun h => shut_at hs 5 4 (by kernel_rfl) (h)
      refine opIn_run (v := (.pointer (some ⟨w'.heap.size, 0, none⟩))) (w' := w'.alloc (.cells #[.int .i64 0, .int .i64 0, .int .i64 0, .int .i64 0, .slice none 0 0, .int .i64 0, .int .i64 0, .int .i64 0, .int .i64 0, .int .i64 0, .int .i64 0, .int .i64 0, .int .i64 0, .int .i64 0, .bool false, .bool false, .bool false, .slice none 0 0] 33)) rfl rfl (fun c h => by cases h) (fun _ => trivial) ?_ ⟨{ z with g := w'.heap.size }, by rw [show many gg_ L (VL z) = many gg_ L (VL { z with g := w'.heap.size }) from by rw [HVL.out]; simp only [many, n5, hL, cond_false, cond_true]]; exact many_put3 (HOK.out _) (by rw [HVL.out]; rfl) hL, ⟨hcm.1.new 4 _ _ (by simp [upd]) (by simp [upd, n5]) (by simp), hcm.2⟩, trivial⟩
      go_simp
    · skip
      have y0 : L 0 = true := up_at hu 0 (by kernel_rfl)
      have y1 : L 1 = true := up_at hu 1 (by kernel_rfl)
      have y2 : L 2 = true := up_at hu 2 (by kernel_rfl)
      have y3 : L 3 = true := up_at hu 3 (by kernel_rfl)
      have y4 : L 4 = true := up_at hu 4 (by kernel_rfl)
      have e5 : (many gg_ L (VL z))[5]?.getD undef = .pointer (some ⟨z.g, 0, none⟩) := many_eval3 hgN (HOK.out z) (by rw [HVL.out]; rfl) y4
      have e15 : (many gg_ L (VL z))[15]?.getD undef = .agg (M.hv z.A N z.C (some ⟨z.s, 0, none⟩) q q).arr := many_eval3 hgN (HOK.out z) (by rw [HVL.out]; rfl) y3
      refine opIn_skip (w' := w'.setRow z.g (M.hv z.A N z.C (some ⟨z.s, 0, none⟩) q q).arr) rfl rfl (fun c h => by cases h) (fun _ => trivial) ?_ ⟨z, by exact many_none 5 _ (by rw [HVL.out]; simp), ⟨hcm.1.put (t := 33) 5 (M.hv z.A N z.C (some ⟨z.s, 0, none⟩) q q).arr (by decide) (by decide) (.tail _ (.head _)) y4 (by simp) (by simp [upd]) (by simp [upd]) (by simp), hcm.2⟩, trivial⟩
      exact run_store_many e5 e15 (hcm.1.b _ (.tail _ (.head _)) y4).2 (by kernel_rfl) (by cases L 5 <;> rfl) (by kernel_rfl)
  case fin =>
    intro L z w' hall hph
    obtain ⟨hcm, hph⟩ := hph
    have l5 := hall 5 (by decide)
    have K2 := hcm.1.b _ (.head _) (hall 2 (by decide))
    have K4 := hcm.1.b _ (.tail _ (.head _)) (hall 4 (by decide))
    have KR := hcm.1.r _ (.head _) (hall 3 (by decide))
    simp only [l5, cond_true] at K2 K4 KR
    have KQ := hcm.2 (hall 3 (by decide))
    have KB := hcm.1.bel
    have KS := hcm.1.sz
    obtain ⟨s, g, A, C, cs⟩ := z
    simp only at K2 K4 KR KQ
    clear hcm l5 hph
    rw [HVL.out]
    dsimp only [manyL, List.set_cons_zero, List.set_cons_succ]
    clear hall HVL HOK HVI
    obtain ⟨W, hW⟩ : ∃ W, W = w' := ⟨_, rfl⟩
    subst hW
    rw [HQ.out] at KQ
    have hrow : CpL W (.slice A N C) cs := KR.cpl
    have hlst : Lst W W.heap.size (some ⟨s, 0, none⟩) ((List.replicate q (0 : Int)).map (Value.int .u8)) := fun i u hu => by
      have hi : i < q := by
        rcases Nat.lt_or_ge i q with h | h
        · exact h
        · rw [List.getElem?_eq_none (by simp; exact h)] at hu; cases hu
      refine ⟨s, 0, rfl, blk_lt K2.2, ?_⟩
      rw [rb_cell K2.2 (0 + i), Nat.zero_add, HZ.out i hi, ← hu]
      simp [hi]
    have MH := MH0.out W A C cs (some ⟨s, 0, none⟩) q q (List.replicate q 0) KQ.1 hrow KQ.2.1 KQ.2.2 hlst (by simp) hq1
    have hlen := mainL_len (M.hv A N C (some ⟨s, 0, none⟩) q q) cs (List.replicate q 0) M.LV (by simp)
    rw [KQ.1] at hlen
    obtain ⟨rr, hrr⟩ := main_two (M.hv A N C (some ⟨s, 0, none⟩) q q) cs (List.replicate q 0) M.LV
    obtain ⟨ML, hML⟩ : ∃ X, mainL (M.hv A N C (some ⟨s, 0, none⟩) q q) cs (List.replicate q 0) M.LV = X := ⟨_, rfl⟩
    rw [hML] at MH hlen hrr
    obtain ⟨ha, hha⟩ : ∃ ha, (M.hv A N C (some ⟨s, 0, none⟩) q q).arr = ha := ⟨_, rfl⟩
    have hg4 : ha[4]? = some (.slice A N C) := by rw [← hha]; rfl
    have hg7 : ha[7]? = some (.int .i64 (M.LV : Int)) := by rw [← hha]; rfl
    have hhs : ha.size = 18 := by rw [← hha]; rfl
    rw [hha] at MH K4
    have hlv : M.LV ≤ 5 := HOK.out.lv
    obtain ⟨LVn, hLVn⟩ : ∃ v, M.LV = v := ⟨_, rfl⟩
    rw [hLVn] at hlv hlen hg7
    simp only at hlen
    have HLEN := Lib.hid hlen
    have HRR := Lib.hid hrr
    have HKK := Lib.hid (And.intro K4 (And.intro hg4 (And.intro hg7 (And.intro KB KS))))
    clear K2 KR KQ hrow hlst hML hha hg4 hg7 hlen hrr KB KS hLVn
    go_wp2_with (refine wpList_load_row rfl 33 _ rfl g rfl 33 ha (0, 0) _ K4.2 Try.underlying33 rfl (by rw [hhs]; kernel_rfl) ?_)
    refine MH.mono ?_
    rintro e Wx ⟨v, rfl, hy, hbx⟩
    obtain ⟨A5, c5, rfl, _⟩ := By.form hy
    have k4 : Wx.cell? ⟨g, 4, none⟩ = some (.slice A N C) := ((hbx.cell (p := ⟨g, 4, none⟩) (blk_lt HKK.out.1.2)).trans (rb_cell HKK.out.1.2 4)).trans HKK.out.2.1
    have k7 : Wx.cell? ⟨g, 7, none⟩ = some (.int .i64 (LVn : Int)) := ((hbx.cell (p := ⟨g, 7, none⟩) (blk_lt HKK.out.1.2)).trans (rb_cell HKK.out.1.2 7)).trans HKK.out.2.2.1
    clear K4 MH
    obtain ⟨gg, cc, hv, hgl, hgl2, _, _⟩ := own_form hy (by rw [HRR.out]; simp)
    cases hv
    have b0 : Wx.cell? ⟨gg, 0, none⟩ = some (.int .u8 255) := by
      have h := World.ownsRow.cellAt hy 0 (by rw [HRR.out]; simp)
      rw [h, HRR.out]; rfl
    have b1 : Wx.cell? ⟨gg, 1, none⟩ = some (.int .u8 79) := by
      have h := World.ownsRow.cellAt hy 1 (by rw [HRR.out]; simp)
      rw [h, HRR.out]; rfl
    obtain ⟨m5, hm5⟩ : ∃ m, ML.length = m := ⟨_, rfl⟩
    have hl5 := HLEN.out
    rw [hm5] at hl5
    rw [hm5]
    have hBX : Below w.heap.size w Wx := by
      have h1 : Below lo W0 Wx := HKK.out.2.2.2.1.trans (hbx.mono HKK.out.2.2.2.2)
      exact (by rw [HBE.out]; exact HF1.out.bel : Below w.heap.size w W0).trans (h1.mono (by have := HLO.out.2.1; have := HBE.out; omega))
    have HBX := Lib.hid hBX
    have hN4 : N ≤ 4 := hNb.2
    clear hy hbx hBX hgl hgl2 hm5
    by_cases hq0 : 0 < q
    · have hqI : (0 : Int) < (q : Int) := by omega
      rw [if_pos hq0] at hl5
      have HL5 := Lib.hid hl5
      clear hl5
      go_upto_region 9 with fail
      rw [show 42 + 3 * (N : Int) + 2 + 13 + (LVn : Int) + 2 + 4 + 3 * (LVn : Int) + 6 + (q : Int) = (m5 : Int) by have := HL5.out; omega]
      have hm2 : (0 : Int) < (m5 : Int) ∧ (1 : Int) < (m5 : Int) ∧ 2 ≤ m5 := by have := HL5.out; omega
      go_wp2
      go_ret
      first | exact HBX.out | exact ⟨rfl, HBX.out⟩
    · have hqI : ¬ (0 : Int) < (q : Int) := by omega
      rw [if_neg hq0] at hl5
      have HL5 := Lib.hid hl5
      clear hl5
      go_upto_region 9 with fail
      rw [show 42 + 3 * (N : Int) + 2 + 13 + (LVn : Int) + 2 + 4 + 3 * (LVn : Int) = (m5 : Int) by have := HL5.out; omega]
      have hm2 : (0 : Int) < (m5 : Int) ∧ (1 : Int) < (m5 : Int) ∧ 2 ≤ m5 := by have := HL5.out; omega
      go_wp2
      go_ret
      first | exact HBX.out | exact ⟨rfl, HBX.out⟩
end Go.Proofs.Ytlbfjaifemnkpaa
