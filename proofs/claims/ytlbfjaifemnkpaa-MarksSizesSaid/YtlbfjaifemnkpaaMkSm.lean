/- marks: MarksSames walked. -/
import Derived.Test.YtlbfjaifemnkpaaMkSf
import Derived.Deep.CutRange
import Derived.Deep.CutBlock
set_option linter.unusedVariables false
set_option linter.unusedSimpArgs false
namespace Go.Proofs.Ytlbfjaifemnkpaa
open Go.RowKit
set_option maxRecDepth 100000
theorem Bag.start (w : World) (bs : List (Nat × Nat × Array Value × TypeId)) (rs : List (Nat × Nat × Value × List Cp)) : Bag (fun _ => false) w.heap.size w w.drew bs rs :=
  ⟨(Below.refl _ _).drew, Nat.le_refl _, fun _ _ h => (by cases h), fun _ _ _ _ h => (by cases h), fun _ _ h => (by cases h), fun _ _ _ _ h => (by cases h)⟩
structure Z3 where
  s1 : Nat
  s2 : Nat
  ga : Nat
  gb : Nat
  A1 : Option Addr
  C1 : Nat
  c1 : List Cp
  A2 : Option Addr
  C2 : Nat
  c2 : List Cp
set_option maxHeartbeats 16000000 in
theorem walk_marksSames (f : FN) (A0 : Option Addr) (len0 cap0 : Nat) (z0 : List Int) (a1 a2 : Int) (w : World) (w0 : IsRow .i64 w A0 len0 cap0 z0) (s0 : -9223372036854775808 ≤ f.sb ∧ f.sb ≤ 9223372036854775807) (wf1 : (Lit.int .i64 a1).wf = true) (wf2 : (Lit.int .i64 a2).wf = true) :
    Calls Try.prog 5 #[.agg (f.arr A0 len0 cap0), .int .i64 a1, .int .i64 a2] w fun e w' => e = .returned (.bool true) ∧ Below w.heap.size w w' := by
  have HDV := Lib.hid (fun SA sn sc u hu => head_hv f A0 len0 cap0 z0 SA sn sc u hu s0)
  obtain ⟨fc, hfc⟩ : ∃ fc, f.arr A0 len0 cap0 = fc := ⟨_, rfl⟩
  have hfs : fc.size = 21 := by rw [← hfc]; rfl
  rw [hfc] at HDV ⊢
  have HFS := Lib.hid hfs
  clear hfc hfs
  have hok := mkPN_ok f 8 (by omega)
  obtain ⟨M, hM⟩ : ∃ M, mkPN f 8 = M := ⟨_, rfl⟩
  rw [hM] at hok
  have HOK := Lib.hid hok
  clear hok
  obtain ⟨N, hN⟩ : ∃ N, mkN f = N := ⟨_, rfl⟩
  have hNb : 1 ≤ N ∧ N ≤ 4 := by
    have := within_rng f.nc 4 (by omega)
    rw [← hN]
    unfold mkN
    omega
  obtain ⟨DP, hDP⟩ : ∃ D, mkDP f = D := ⟨_, rfl⟩
  have HDP : Hid (1 ≤ DP ∧ DP ≤ 10) := Lib.hid (by
    have := within_rng f.dp 10 (by omega)
    rw [← hDP]
    unfold mkDP
    omega)
  rw [hM, hN, hDP] at HDV
  clear hM hN hDP
  go_enter Try.func5, Try.ntmps5
  go_wp2_with fail
  obtain ⟨B0, hB0⟩ : ∃ B, w.heap.size = B := ⟨_, rfl⟩
  obtain ⟨Wf, hWf⟩ : ∃ Wf, w.alloc (Obj.cells fc 24) = Wf := ⟨_, rfl⟩
  have HF0 : Hid (MkW w B0 [(fc, 24)] Wf) := Lib.hid (by
    have h0 : MkW w B0 [] w := ⟨fun i c e => by simp at e, Below.refl _ _, by simp; omega⟩
    have h1 := h0.more (by simp; omega) fc 24
    rw [← hWf]; exact h1)
  rw [hWf, hB0]
  have HBE := Lib.hid hB0
  clear hWf hB0
  refine (known17 _).mono ?_
  rintro e W0 ⟨rfl, hb⟩
  have HF1 := Lib.hid (HF0.out.keep hb)
  clear hb HF0
  obtain ⟨lo, hlo⟩ : ∃ lo, W0.heap.size = lo := ⟨_, rfl⟩
  have HLO : Hid (W0.heap.size = lo ∧ B0 < lo ∧ W0.heap[B0]? = some (.cells fc 24 (0, 0))) := Lib.hid ⟨hlo, by have := HF1.out.sz; simp at this; omega, HF1.out.b 0 _ rfl⟩
  clear hlo
  obtain ⟨Q, hQ⟩ : ∃ Q : List Cp → Prop, Q = fun cs => cs.length = N ∧ (∀ i c, cs[i]? = some c → KeyIs M.X M.Y M.OX M.OY f.sb DP f.sg i c) ∧ (1 ≤ M.TX ∧ M.TX ≤ 832) := ⟨_, rfl⟩
  have HQ := Lib.hid hQ
  have HD : Hid (∀ SA sn sc u, Below lo W0 u → lo ≤ u.heap.size → Calls Try.prog 12 #[.agg fc, .slice SA sn sc] u fun e w' => ∃ (A2 : Option Addr) (C2 : Nat) (cs : List Cp), e = .returned (.agg (M.hv A2 N C2 SA sn sc).arr) ∧ CRow u.heap.size w' (.slice A2 N C2) cs ∧ Q cs ∧ Below u.heap.size u w') := Lib.hid fun SA sn sc u hb hl => by
    refine (HDV.out SA sn sc u (IsRow.below w0 ?_)).mono ?_
    · exact (by rw [HBE.out]; exact HF1.out.bel : Below w.heap.size w W0).trans (hb.mono (by have := HLO.out.2.1; have := HBE.out; omega))
    · rintro e w' ⟨A2, C2, cs, he, hl, hc, hk, hb, htx, _⟩
      exact ⟨A2, C2, cs, he, hc, by rw [HQ.out]; exact ⟨hl, hk, htx⟩, hb⟩
  clear hQ HDV w0 s0
  go_upto_region 3 with fail
  obtain ⟨VL, hVL⟩ : ∃ VL : Z3 → List (Nat × Nat × Value), VL = fun z => [(0, 12, .agg fc), (1, 13, .slice (some ⟨z.s1, 0, none⟩) 1 1), (2, 14, .agg (M.hv z.A1 N z.C1 (some ⟨z.s1, 0, none⟩) 1 1).arr), (3, 15, .agg fc), (4, 16, .slice (some ⟨z.s2, 0, none⟩) 1 1), (5, 17, .agg (M.hv z.A2 N z.C2 (some ⟨z.s2, 0, none⟩) 1 1).arr), (6, 7, .pointer (some ⟨z.ga, 0, none⟩)), (7, 8, .pointer (some ⟨z.gb, 0, none⟩))] := ⟨_, rfl⟩
  have hok : ∀ z, manyOk 152 (VL z) := fun z => by rw [hVL]; exact ⟨by simp, by simp, by simp⟩
  have HVL := Lib.hid hVL
  have hvi : ∀ z, ∀ x ∈ VL z, x.1 < 10 := fun z => by rw [hVL]; simp
  have HOK := Lib.hid hok
  have HVI := Lib.hid hvi
  clear hVL hok hvi
  refine (wpIn_wide (n := 9)).1 (regionIn_many (N := 152) (w := _) VL (fun L z w' => (Bag L lo W0 w' [(1, z.s1, #[.int .u8 1], 5), (4, z.s2, #[.int .u8 1], 5), (6, z.ga, (bif L 8 then (M.hv z.A1 N z.C1 (some ⟨z.s1, 0, none⟩) 1 1).arr else #[.int .i64 0, .int .i64 0, .int .i64 0, .int .i64 0, .slice none 0 0, .int .i64 0, .int .i64 0, .int .i64 0, .int .i64 0, .int .i64 0, .int .i64 0, .int .i64 0, .int .i64 0, .int .i64 0, .bool false, .bool false, .bool false, .slice none 0 0]), 33), (7, z.gb, (bif L 9 then (M.hv z.A2 N z.C2 (some ⟨z.s2, 0, none⟩) 1 1).arr else #[.int .i64 0, .int .i64 0, .int .i64 0, .int .i64 0, .slice none 0 0, .int .i64 0, .int .i64 0, .int .i64 0, .int .i64 0, .int .i64 0, .int .i64 0, .int .i64 0, .int .i64 0, .int .i64 0, .bool false, .bool false, .bool false, .slice none 0 0]), 33)] [(2, 0, .slice z.A1 N z.C1, z.c1), (5, 0, .slice z.A2 N z.C2, z.c2)] ∧ (L 2 = true → Q z.c1) ∧ (L 5 = true → Q z.c2)) ∧ True) [(3, .pointer (some ⟨B0, 0, none⟩))] (by kernel_rfl) (by kernel_rfl) rfl (by simp only [List.forall_mem_cons, List.not_mem_nil, false_imp_iff, implies_true, and_true]; exact rfl) HVI.out ⟨0, 0, 0, 0, none, 0, [], none, 0, []⟩ ?start ?step ?fin)
  case start => exact ⟨⟨by have := Bag.start W0; rw [HLO.out.1] at this; exact this _ _, fun h => (by cases h), fun h => (by cases h)⟩, trivial⟩
  case step =>
    intro gg_ hgN hgF ii_ hii_ L z w' hph hs hu
    obtain ⟨hcm, hph⟩ := hph
    have hF3 := hgF (3, .pointer (some ⟨B0, 0, none⟩)) (by simp)
    have hL := hu.1
    have hii_ : ii_ < 10 := hii_
    clear hgF
    obtain rfl | rfl | rfl | rfl | rfl | rfl | rfl | rfl | rfl | rfl := (by omega : ii_ = 0 ∨ ii_ = 1 ∨ ii_ = 2 ∨ ii_ = 3 ∨ ii_ = 4 ∨ ii_ = 5 ∨ ii_ = 6 ∨ ii_ = 7 ∨ ii_ = 8 ∨ ii_ = 9)
    · skip
      have n2 : L 2 = false := not_yet hL fun h => shut_at hs 2 0 (by kernel_rfl) (h)
      have n5 : L 5 = false := not_yet hL fun h => shut_at hs 2 0 (by kernel_rfl) (shut_at hs 5 2 (by kernel_rfl) (h))
      have n8 : L 8 = false := not_yet hL fun h => shut_at hs 8 0 (by kernel_rfl) (h)
      have n9 : L 9 = false := not_yet hL fun h => shut_at hs 9 0 (by kernel_rfl) (h)
      have e3 : (many gg_ L (VL z))[3]?.getD undef = .pointer (some ⟨B0, 0, none⟩) := many_out hgN (HOK.out z).1 (by rw [HVL.out]; rfl) hF3
      refine opIn_run (v := .agg fc) (w' := w') rfl rfl (fun c h => by cases h) (fun _ => trivial) ?_ ⟨z, by exact many_put (HOK.out _) 0 12 _ (by rw [HVL.out]; simp) hL, ⟨hcm.1.skip 0 (by simp) (by simp), hcm.2⟩, trivial⟩
      exact run_load_many e3 ((hcm.1.bel.block B0 HLO.out.2.1).trans HLO.out.2.2) Try.underlying24 rfl (by rw [HFS.out]; kernel_rfl)
    · skip
      have n2 : L 2 = false := not_yet hL fun h => shut_at hs 2 1 (by kernel_rfl) (h)
      have n5 : L 5 = false := not_yet hL fun h => shut_at hs 2 1 (by kernel_rfl) (shut_at hs 5 2 (by kernel_rfl) (h))
      have n8 : L 8 = false := not_yet hL fun h => shut_at hs 8 1 (by kernel_rfl) (h)
      have n9 : L 9 = false := not_yet hL fun h => shut_at hs 9 1 (by kernel_rfl) (h)
      refine opIn_run (v := (.slice (some ⟨w'.heap.size, 0, none⟩) 1 1)) (w' := w'.alloc (.cells #[.int .u8 1] 5)) rfl rfl (fun c h => by cases h) (fun _ => trivial) ?_ ⟨{ z with s1 := w'.heap.size }, by rw [show many gg_ L (VL z) = many gg_ L (VL { z with s1 := w'.heap.size }) from by rw [HVL.out]; simp only [many, n2, n5, n8, n9, hL, cond_false, cond_true]]; exact many_put (HOK.out _) 1 13 _ (by rw [HVL.out]; simp) hL, ⟨hcm.1.new 1 _ _ (by simp [upd, n8, n9]) (by simp) (by simp), hcm.2⟩, trivial⟩
      go_simp
    · skip
      have y0 : L 0 = true := up_at hu 0 (by kernel_rfl)
      have y1 : L 1 = true := up_at hu 1 (by kernel_rfl)
      have n5 : L 5 = false := not_yet hL fun h => shut_at hs 5 2 (by kernel_rfl) (h)
      have n8 : L 8 = false := not_yet hL fun h => shut_at hs 8 2 (by kernel_rfl) (h)
      have n9 : L 9 = false := not_yet hL fun h => shut_at hs 9 2 (by kernel_rfl) (h)
      have e12 : (many gg_ L (VL z))[12]?.getD undef = .agg fc := many_eval hgN (HOK.out z).1 (by rw [HVL.out]; simp [lookM, y0])
      have e13 : (many gg_ L (VL z))[13]?.getD undef = .slice (some ⟨z.s1, 0, none⟩) 1 1 := many_eval hgN (HOK.out z).1 (by rw [HVL.out]; simp [lookM, y1])
      refine opIn_call (f := 12) (args := #[.agg fc, .slice (some ⟨z.s1, 0, none⟩) 1 1]) (w' := w') rfl rfl (fun c h => by cases h) (fun _ => trivial) rfl (by go_simp) ((callsIn_wide.2 (HD.out (some ⟨z.s1, 0, none⟩) 1 1 w' hcm.1.bel hcm.1.sz)).mono ?_)
      rintro e w2 ⟨A2x, C2x, csx, rfl, hrow, hqq, hbb⟩
      exact ⟨_, rfl, { z with A1 := A2x, C1 := C2x, c1 := csx }, by rw [show many gg_ L (VL z) = many gg_ L (VL { z with A1 := A2x, C1 := C2x, c1 := csx }) from by rw [HVL.out]; simp only [many, y0, y1, n5, n8, n9, hL, cond_false, cond_true]]; exact many_put (HOK.out _) 2 14 _ (by rw [HVL.out]; simp) hL, ⟨hcm.1.call hbb 2 hrow 0 (by simp) (by simp [upd, n8, n9]) (by simp) (by simp), fun _ => hqq, hcm.2.2⟩, trivial⟩
    · skip
      have n5 : L 5 = false := not_yet hL fun h => shut_at hs 5 3 (by kernel_rfl) (h)
      have n8 : L 8 = false := not_yet hL fun h => shut_at hs 5 3 (by kernel_rfl) (shut_at hs 8 5 (by kernel_rfl) (h))
      have n9 : L 9 = false := not_yet hL fun h => shut_at hs 9 3 (by kernel_rfl) (h)
      have e3 : (many gg_ L (VL z))[3]?.getD undef = .pointer (some ⟨B0, 0, none⟩) := many_out hgN (HOK.out z).1 (by rw [HVL.out]; rfl) hF3
      refine opIn_run (v := .agg fc) (w' := w') rfl rfl (fun c h => by cases h) (fun _ => trivial) ?_ ⟨z, by exact many_put (HOK.out _) 3 15 _ (by rw [HVL.out]; simp) hL, ⟨hcm.1.skip 3 (by simp) (by simp), hcm.2⟩, trivial⟩
      exact run_load_many e3 ((hcm.1.bel.block B0 HLO.out.2.1).trans HLO.out.2.2) Try.underlying24 rfl (by rw [HFS.out]; kernel_rfl)
    · skip
      have n5 : L 5 = false := not_yet hL fun h => shut_at hs 5 4 (by kernel_rfl) (h)
      have n8 : L 8 = false := not_yet hL fun h => shut_at hs 5 4 (by kernel_rfl) (shut_at hs 8 5 (by kernel_rfl) (h))
      have n9 : L 9 = false := not_yet hL fun h => shut_at hs 9 4 (by kernel_rfl) (h)
      refine opIn_run (v := (.slice (some ⟨w'.heap.size, 0, none⟩) 1 1)) (w' := w'.alloc (.cells #[.int .u8 1] 5)) rfl rfl (fun c h => by cases h) (fun _ => trivial) ?_ ⟨{ z with s2 := w'.heap.size }, by rw [show many gg_ L (VL z) = many gg_ L (VL { z with s2 := w'.heap.size }) from by rw [HVL.out]; simp only [many, n5, n8, n9, hL, cond_false, cond_true]]; exact many_put (HOK.out _) 4 16 _ (by rw [HVL.out]; simp) hL, ⟨hcm.1.new 4 _ _ (by simp [upd, n8, n9]) (by simp) (by simp), hcm.2⟩, trivial⟩
      go_simp
    · skip
      have y2 : L 2 = true := up_at hu 2 (by kernel_rfl)
      have y3 : L 3 = true := up_at hu 3 (by kernel_rfl)
      have y4 : L 4 = true := up_at hu 4 (by kernel_rfl)
      have n8 : L 8 = false := not_yet hL fun h => shut_at hs 8 5 (by kernel_rfl) (h)
      have n9 : L 9 = false := not_yet hL fun h => shut_at hs 9 5 (by kernel_rfl) (h)
      have e15 : (many gg_ L (VL z))[15]?.getD undef = .agg fc := many_eval hgN (HOK.out z).1 (by rw [HVL.out]; simp [lookM, y3])
      have e16 : (many gg_ L (VL z))[16]?.getD undef = .slice (some ⟨z.s2, 0, none⟩) 1 1 := many_eval hgN (HOK.out z).1 (by rw [HVL.out]; simp [lookM, y4])
      refine opIn_call (f := 12) (args := #[.agg fc, .slice (some ⟨z.s2, 0, none⟩) 1 1]) (w' := w') rfl rfl (fun c h => by cases h) (fun _ => trivial) rfl (by go_simp) ((callsIn_wide.2 (HD.out (some ⟨z.s2, 0, none⟩) 1 1 w' hcm.1.bel hcm.1.sz)).mono ?_)
      rintro e w2 ⟨A2x, C2x, csx, rfl, hrow, hqq, hbb⟩
      exact ⟨_, rfl, { z with A2 := A2x, C2 := C2x, c2 := csx }, by rw [show many gg_ L (VL z) = many gg_ L (VL { z with A2 := A2x, C2 := C2x, c2 := csx }) from by rw [HVL.out]; simp only [many, y2, y3, y4, n8, n9, hL, cond_false, cond_true]]; exact many_put (HOK.out _) 5 17 _ (by rw [HVL.out]; simp) hL, ⟨hcm.1.call hbb 5 hrow 0 (by simp) (by simp [upd, n8, n9]) (by simp) (by simp), hcm.2.1, fun _ => hqq⟩, trivial⟩
    · skip
      have n8 : L 8 = false := not_yet hL fun h => shut_at hs 8 6 (by kernel_rfl) (h)
      have n9 : L 9 = false := not_yet hL fun h => shut_at hs 9 6 (by kernel_rfl) (h)
      refine opIn_run (v := (.pointer (some ⟨w'.heap.size, 0, none⟩))) (w' := w'.alloc (.cells #[.int .i64 0, .int .i64 0, .int .i64 0, .int .i64 0, .slice none 0 0, .int .i64 0, .int .i64 0, .int .i64 0, .int .i64 0, .int .i64 0, .int .i64 0, .int .i64 0, .int .i64 0, .int .i64 0, .bool false, .bool false, .bool false, .slice none 0 0] 33)) rfl rfl (fun c h => by cases h) (fun _ => trivial) ?_ ⟨{ z with ga := w'.heap.size }, by rw [show many gg_ L (VL z) = many gg_ L (VL { z with ga := w'.heap.size }) from by rw [HVL.out]; simp only [many, n8, n9, hL, cond_false, cond_true]]; exact many_put (HOK.out _) 6 7 _ (by rw [HVL.out]; simp) hL, ⟨hcm.1.new 6 _ _ (by simp [upd]) (by simp [upd, n8]) (by simp), hcm.2⟩, trivial⟩
      go_simp
    · skip
      have n8 : L 8 = false := not_yet hL fun h => shut_at hs 8 7 (by kernel_rfl) (h)
      have n9 : L 9 = false := not_yet hL fun h => shut_at hs 9 7 (by kernel_rfl) (h)
      refine opIn_run (v := (.pointer (some ⟨w'.heap.size, 0, none⟩))) (w' := w'.alloc (.cells #[.int .i64 0, .int .i64 0, .int .i64 0, .int .i64 0, .slice none 0 0, .int .i64 0, .int .i64 0, .int .i64 0, .int .i64 0, .int .i64 0, .int .i64 0, .int .i64 0, .int .i64 0, .int .i64 0, .bool false, .bool false, .bool false, .slice none 0 0] 33)) rfl rfl (fun c h => by cases h) (fun _ => trivial) ?_ ⟨{ z with gb := w'.heap.size }, by rw [show many gg_ L (VL z) = many gg_ L (VL { z with gb := w'.heap.size }) from by rw [HVL.out]; simp only [many, n8, n9, hL, cond_false, cond_true]]; exact many_put (HOK.out _) 7 8 _ (by rw [HVL.out]; simp) hL, ⟨hcm.1.new 7 _ _ (by simp [upd]) (by simp [upd, n9]) (by simp), hcm.2⟩, trivial⟩
      go_simp
    · skip
      have y0 : L 0 = true := up_at hu 0 (by kernel_rfl)
      have y1 : L 1 = true := up_at hu 1 (by kernel_rfl)
      have y2 : L 2 = true := up_at hu 2 (by kernel_rfl)
      have y5 : L 5 = true := up_at hu 5 (by kernel_rfl)
      have y6 : L 6 = true := up_at hu 6 (by kernel_rfl)
      have y7 : L 7 = true := up_at hu 7 (by kernel_rfl)
      have n9 : L 9 = false := not_yet hL fun h => shut_at hs 9 8 (by kernel_rfl) (h)
      have e7 : (many gg_ L (VL z))[7]?.getD undef = .pointer (some ⟨z.ga, 0, none⟩) := many_eval hgN (HOK.out z).1 (by rw [HVL.out]; simp [lookM, y6])
      have e14 : (many gg_ L (VL z))[14]?.getD undef = .agg (M.hv z.A1 N z.C1 (some ⟨z.s1, 0, none⟩) 1 1).arr := many_eval hgN (HOK.out z).1 (by rw [HVL.out]; simp [lookM, y2])
      refine opIn_skip (w' := w'.setRow z.ga (M.hv z.A1 N z.C1 (some ⟨z.s1, 0, none⟩) 1 1).arr) rfl rfl (fun c h => by cases h) (fun _ => trivial) ?_ ⟨z, by exact many_none 8 _ (by rw [HVL.out]; simp), ⟨hcm.1.put (t := 33) 8 (M.hv z.A1 N z.C1 (some ⟨z.s1, 0, none⟩) 1 1).arr (by decide) (by decide) (.tail _ (.tail _ (.head _))) y6 (by simp) (by simp [upd]) (by simp [upd]) (by simp), hcm.2⟩, trivial⟩
      exact run_store_many e7 e14 (hcm.1.b _ (.tail _ (.tail _ (.head _))) y6).2 (by kernel_rfl) (by cases L 8 <;> rfl) (by kernel_rfl)
    · skip
      have y0 : L 0 = true := up_at hu 0 (by kernel_rfl)
      have y1 : L 1 = true := up_at hu 1 (by kernel_rfl)
      have y2 : L 2 = true := up_at hu 2 (by kernel_rfl)
      have y3 : L 3 = true := up_at hu 3 (by kernel_rfl)
      have y4 : L 4 = true := up_at hu 4 (by kernel_rfl)
      have y5 : L 5 = true := up_at hu 5 (by kernel_rfl)
      have y6 : L 6 = true := up_at hu 6 (by kernel_rfl)
      have y7 : L 7 = true := up_at hu 7 (by kernel_rfl)
      have y8 : L 8 = true := up_at hu 8 (by kernel_rfl)
      have e8 : (many gg_ L (VL z))[8]?.getD undef = .pointer (some ⟨z.gb, 0, none⟩) := many_eval hgN (HOK.out z).1 (by rw [HVL.out]; simp [lookM, y7])
      have e17 : (many gg_ L (VL z))[17]?.getD undef = .agg (M.hv z.A2 N z.C2 (some ⟨z.s2, 0, none⟩) 1 1).arr := many_eval hgN (HOK.out z).1 (by rw [HVL.out]; simp [lookM, y5])
      refine opIn_skip (w' := w'.setRow z.gb (M.hv z.A2 N z.C2 (some ⟨z.s2, 0, none⟩) 1 1).arr) rfl rfl (fun c h => by cases h) (fun _ => trivial) ?_ ⟨z, by exact many_none 9 _ (by rw [HVL.out]; simp), ⟨hcm.1.put (t := 33) 9 (M.hv z.A2 N z.C2 (some ⟨z.s2, 0, none⟩) 1 1).arr (by decide) (by decide) (.tail _ (.tail _ (.tail _ (.head _)))) y7 (by simp) (by simp [upd]) (by simp [upd]) (by simp), hcm.2⟩, trivial⟩
      exact run_store_many e8 e17 (hcm.1.b _ (.tail _ (.tail _ (.tail _ (.head _)))) y7).2 (by kernel_rfl) (by cases L 9 <;> rfl) (by kernel_rfl)
  case fin =>
    intro L z w' hall hph
    obtain ⟨hcm, hph⟩ := hph
    have l8 := hall 8 (by decide)
    have l9 := hall 9 (by decide)
    have K1 := hcm.1.b _ (.head _) (hall 1 (by decide))
    have K4 := hcm.1.b _ (.tail _ (.head _)) (hall 4 (by decide))
    have K6 := hcm.1.b _ (.tail _ (.tail _ (.head _))) (hall 6 (by decide))
    have K7 := hcm.1.b _ (.tail _ (.tail _ (.tail _ (.head _)))) (hall 7 (by decide))
    have KR1 := hcm.1.r _ (.head _) (hall 2 (by decide))
    have KR2 := hcm.1.r _ (.tail _ (.head _)) (hall 5 (by decide))
    have KN := hcm.1.ne _ (.tail _ (.tail _ (.head _))) _ (.tail _ (.tail _ (.tail _ (.head _)))) (hall 6 (by decide)) (hall 7 (by decide)) (show (6 : Nat) ≠ 7 by decide)
    have KRN := hcm.1.rn _ (.head _) _ (.tail _ (.head _)) (hall 2 (by decide)) (hall 5 (by decide)) (show (2 : Nat) ≠ 5 by decide)
    simp only [l8, l9, cond_true] at K1 K4 K6 K7 KR1 KR2 KN KRN
    have KQ1 := hcm.2.1 (hall 2 (by decide))
    have KQ2 := hcm.2.2 (hall 5 (by decide))
    have KB := hcm.1.bel
    obtain ⟨s1, s2, ga, gb, A1, C1, c1, A2, C2, c2⟩ := z
    simp only at K1 K4 K6 K7 KR1 KR2 KN KRN KQ1 KQ2
    clear hcm l8 l9 hph
    rw [HVL.out]
    dsimp only [manyL, List.set_cons_zero, List.set_cons_succ]
    clear hall HVL HOK HVI
    obtain ⟨W, hW⟩ : ∃ W, W = w' := ⟨_, rfl⟩
    subst hW
    rw [HQ.out] at KQ1 KQ2
    obtain ⟨g1, cur1, rfl, hg1, hb1, hc1, hm1⟩ := KR1.opened KQ1.1 hNb.1
    obtain ⟨g2, cur2, rfl, hg2, hb2, hc2, hm2⟩ := KR2.opened KQ2.1 hNb.1
    have HT : Hid (HTwo lo W0 W ga g1 s1 gb g2 s2 (M.hv (some ⟨g1, 0, none⟩) N C1 (some ⟨s1, 0, none⟩) 1 1) (M.hv (some ⟨g2, 0, none⟩) N C2 (some ⟨s2, 0, none⟩) 1 1) c1 c2 1 1) := Lib.hid
      ⟨⟨K6.2, KR1.cpl, ⟨cur1, hb1⟩, K1.2, rfl, ⟨rfl, rfl⟩, KQ1.1, hNb.2, hc1, hm1⟩, ⟨K7.2, KR2.cpl, ⟨cur2, hb2⟩, K4.2, rfl, ⟨rfl, rfl⟩, KQ2.1, hNb.2, hc2, hm2⟩, KN, fun e => KRN g1 rfl (by rw [e]; rfl), KB, K7.1, hg2⟩
    have HLK : Hid (likeL c1 c2) := Lib.hid ⟨KQ1.1.trans KQ2.1.symm, fun i x y hx hy => by
      obtain ⟨k1, k2, k3, k4, _⟩ := KQ1.2.1 i x hx
      obtain ⟨j1, j2, j3, j4, _⟩ := KQ2.2.1 i y hy
      unfold likeC
      rw [k1, k2, k3, k4, j1, j2, j3, j4]
      simp⟩
    have HL2 : Hid (c1.length = N ∧ c2.length = N ∧ lo ≤ W.heap.size) := Lib.hid ⟨KQ1.1, KQ2.1, by have := blk_lt hb2; omega⟩
    have HKB : Hid (∀ (i : Nat) (c : Cp), c2[i]? = some c → 1 ≤ c.d ∧ c.d ≤ 10 ∧ 1 ≤ c.dx ∧ c.dx ≤ 3) := Lib.hid fun i c hc => by
      obtain ⟨j1, j2, j3, j4, _⟩ := KQ2.2.1 i c hc
      have kb := cpK_bd (sb := f.sb) (DP := DP) i HDP.out
      rw [← j1, ← j3, ← j4] at kb
      omega
    have HSM : Hid ((M.hv (some ⟨g1, 0, none⟩) N C1 (some ⟨s1, 0, none⟩) 1 1).same (M.hv (some ⟨g2, 0, none⟩) N C2 (some ⟨s2, 0, none⟩) 1 1) c1 c2 [1] [1]) := Lib.hid ⟨⟨rfl, rfl, rfl, rfl⟩, HLK.out, ⟨rfl, rfl, rfl, rfl, rfl, rfl, rfl, rfl, rfl, rfl, rfl, rfl⟩, rfl⟩
    have HMB : Hid ((0 ≤ M.X ∧ M.X < 100) ∧ (0 ≤ M.OY ∧ M.OY < 100) ∧ (0 ≤ M.TX ∧ M.TX ≤ 832) ∧ (0 ≤ M.ST ∧ M.ST < 64)) := Lib.hid (by
      have h1 := HOK.out.x; have h2 := HOK.out.ox; have h3 := HOK.out.oy; have h4 := HOK.out.st; have h5 := KQ1.2.2
      omega)
    clear K1 K4 K6 K7 KR1 KR2 KN KRN KQ1 KQ2 KB hb1 hb2 hg1 hg2 hm1 hm2 hc1 HD
    go_wp2_with (first | (refine wpList_load_row rfl 33 _ rfl ga rfl 33 _ (0, 0) _ (HT.out.a.blk) Try.underlying33 rfl (by kernel_rfl) ?_) | (refine wpList_load_row rfl 33 _ rfl gb rfl 33 _ (0, 0) _ (HT.out.b.blk) Try.underlying33 rfl (by kernel_rfl) ?_))
    refine (same_hv HT.out.a.ok HT.out.b.ok).mono ?_
    rintro e W2 ⟨⟨b, rfl, hbi⟩, hb⟩
    obtain rfl : b = true := hbi.2 HSM.out
    have HT2 := Lib.hid (HT.out.below hb)
    clear hb hbi HT
    have c4 : W2.cell? ⟨gb, 4, none⟩ = some (.slice (some ⟨g2, 0, none⟩) N C2) := rb_cell HT2.out.b.blk 4
    go_wp2_with fail
    refine (within17 a2 (N : Int) W2 (by omega) (by omega)).mono ?_
    rintro e w' ⟨rfl, rfl⟩
    obtain ⟨k, hk⟩ : ∃ k : Nat, a2 % (N : Int) = (k : Int) := ⟨(a2 % (N : Int)).toNat, by have := within_rng a2 (N : Int) (by omega); omega⟩
    have hkN : k < N := by have := within_rng a2 (N : Int) (by omega); omega
    rw [hk]
    clear hk
    go_wp2_with fail
    refine (within17 a1 12 W2 (by omega) (by omega)).mono ?_
    rintro e w' ⟨rfl, rfl⟩
    obtain ⟨v, hv⟩ : ∃ v : Int, a1 % 12 = v := ⟨_, rfl⟩
    have hvb : 0 ≤ v ∧ v < 12 := by have := within_rng a1 12 (by omega); omega
    rw [hv]
    clear hv
    go_upto_block 0 with fail
    go_cut [] from 30 to 141 (fun wx => ∃ (h2 : HV) (cs2 : List Cp) (l2 : List Int), Hid (Below lo W0 wx ∧ wx.heap[ga]? = some (.cells (M.hv (some ⟨g1, 0, none⟩) N C1 (some ⟨s1, 0, none⟩) 1 1).arr 33 (0, 0)) ∧ wx.heap[gb]? = some (.cells h2.arr 33 (0, 0)) ∧ HdOk wx (M.hv (some ⟨g1, 0, none⟩) N C1 (some ⟨s1, 0, none⟩) 1 1) c1 [1] ∧ HdOk wx h2 cs2 l2 ∧ ¬ (M.hv (some ⟨g1, 0, none⟩) N C1 (some ⟨s1, 0, none⟩) 1 1).same h2 c1 cs2 [1] l2 ∧ ¬ h2.same (M.hv (some ⟨g1, 0, none⟩) N C1 (some ⟨s1, 0, none⟩) 1 1) cs2 c1 l2 [1]))
    case first =>
      have hMb : (0 ≤ M.X ∧ M.X < 100) ∧ (0 ≤ M.OY ∧ M.OY < 100) ∧ (0 ≤ M.TX ∧ M.TX ≤ 832) ∧ (0 ≤ M.ST ∧ M.ST < 64) := HMB.out
      obtain ⟨m1, m2, m3, m4⟩ := hMb
      rcases (by omega : v = 0 ∨ v = 1 ∨ v = 2 ∨ v = 3 ∨ v = 4 ∨ v = 5 ∨ v = 6 ∨ v = 7 ∨ v = 8 ∨ v = 9 ∨ v = 10 ∨ v = 11) with rfl | rfl | rfl | rfl | rfl | rfl | rfl | rfl | rfl | rfl | rfl | rfl
      · -- X
        have c0 : W2.cell? ⟨gb, 0, none⟩ = some (.int .i64 M.X) := rb_cell HT2.out.b.blk 0
        have f0 : W2.frozen? ⟨gb, 0, none⟩ = false := blk_frozen HT2.out.b.blk 0
        have H3 := Lib.hid (HT2.out.setb 0 (.int .i64 (M.X + 1)) { (M.hv (some ⟨g2, 0, none⟩) N C2 (some ⟨s2, 0, none⟩) 1 1) with X := M.X + 1 } rfl ⟨rfl, rfl, rfl, rfl, rfl⟩)
        go_wp2_with fail
        go_meet
        exact ⟨{ (M.hv (some ⟨g2, 0, none⟩) N C2 (some ⟨s2, 0, none⟩) 1 1) with X := M.X + 1 }, c2, [1], Lib.hid ⟨H3.out.bel, H3.out.a.blk, H3.out.b.blk, H3.out.a.ok, H3.out.b.ok, fun h => absurd h.1.1 (by show ¬ (M.X = M.X + 1); omega), fun h => absurd h.1.1 (by show ¬ (M.X + 1 = M.X); omega)⟩⟩
      · -- OY
        have c0 : W2.cell? ⟨gb, 3, none⟩ = some (.int .i64 M.OY) := rb_cell HT2.out.b.blk 3
        have f0 : W2.frozen? ⟨gb, 3, none⟩ = false := blk_frozen HT2.out.b.blk 3
        have H3 := Lib.hid (HT2.out.setb 3 (.int .i64 (M.OY + 1)) { (M.hv (some ⟨g2, 0, none⟩) N C2 (some ⟨s2, 0, none⟩) 1 1) with OY := M.OY + 1 } rfl ⟨rfl, rfl, rfl, rfl, rfl⟩)
        go_wp2_with fail
        go_meet
        exact ⟨{ (M.hv (some ⟨g2, 0, none⟩) N C2 (some ⟨s2, 0, none⟩) 1 1) with OY := M.OY + 1 }, c2, [1], Lib.hid ⟨H3.out.bel, H3.out.a.blk, H3.out.b.blk, H3.out.a.ok, H3.out.b.ok, fun h => absurd h.1.2.2.2 (by show ¬ (M.OY = M.OY + 1); omega), fun h => absurd h.1.2.2.2 (by show ¬ (M.OY + 1 = M.OY); omega)⟩⟩
      · -- Depth
        obtain ⟨c, hc⟩ : ∃ c, c2[k]? = some c := ⟨_, List.getElem?_eq_getElem (by rw [HL2.out.2.1]; exact hkN)⟩
        obtain ⟨ci, hci⟩ : ∃ ci, c1[k]? = some ci := ⟨_, List.getElem?_eq_getElem (by rw [HL2.out.1]; exact hkN)⟩
        have hlk := HLK.out.2 k ci c hci hc
        have KB : Hid (1 ≤ c.d ∧ c.d ≤ 10 ∧ 1 ≤ c.dx ∧ c.dx ≤ 3) := Lib.hid (HKB.out k c hc)
        have HR : Hid (HTwo lo W0 W2 ga g1 s1 gb g2 s2 (M.hv (some ⟨g1, 0, none⟩) N C1 (some ⟨s1, 0, none⟩) 1 1) (M.hv (some ⟨g2, 0, none⟩) N C2 (some ⟨s2, 0, none⟩) 1 1) c1 c2 1 1) := HT2
        obtain ⟨cur, hcur⟩ := HR.out.b.rowb
        obtain ⟨g', cap', e1, _, _, _, d0, d1, d2, d3, d4⟩ := HR.out.b.row k c hc
        injection e1 with e1 e2 e3
        injection e1 with e1
        injection e1 with e1
        subst e1
        have hkI : (k : Int) < (N : Int) ∧ (0 : Int) ≤ (k : Int) := by omega
        have f0 : W2.frozen? ⟨g2, k * 5, none⟩ = false := blk_frozen hcur _
        have H3 := Lib.hid (HT2.out.setc (j := 0) (c' := { c with d := c.d + 1 }) (v := .int .i64 (c.d + 1)) hc (by decide) rfl rfl rfl rfl rfl)
        obtain ⟨di, hdi⟩ : ∃ d, c.d = d := ⟨_, rfl⟩
        obtain ⟨dxi, hdxi⟩ : ∃ d, c.dx = d := ⟨_, rfl⟩
        obtain ⟨sgi, hsgi⟩ : ∃ d, c.sg = d := ⟨_, rfl⟩
        have hdb : 1 ≤ di ∧ di ≤ 10 := by have := KB.out; omega
        have hdxb : 1 ≤ dxi ∧ dxi ≤ 3 := by have := KB.out; omega
        rw [hdi] at d0
        rw [hdxi] at d2
        rw [hsgi] at d1
        have HNL : Hid (¬ likeL c1 (c2.set k { c with d := c.d + 1 }) ∧ ¬ likeL (c2.set k { c with d := c.d + 1 }) c1) := Lib.hid (by
          have hk2 : (c2.set k { c with d := c.d + 1 })[k]? = some { c with d := c.d + 1 } := List.getElem?_set_self (by rw [HL2.out.2.1]; exact hkN)
          refine ⟨fun h => ?_, fun h => ?_⟩
          · have h1 := h.2 k _ _ hci hk2
            have h2 := HLK.out.2 k _ _ hci hc
            unfold likeC at h1 h2
            simp only [Bool.and_eq_true, decide_eq_true_eq, beq_iff_eq] at h1 h2
            omega
          · have h1 := h.2 k _ _ hk2 hci
            have h2 := HLK.out.2 k _ _ hci hc
            unfold likeC at h1 h2
            simp only [Bool.and_eq_true, decide_eq_true_eq, beq_iff_eq] at h1 h2
            omega)
        rw [hdi, hdxi, hsgi] at H3 HNL
        have HD := Lib.hid (And.intro hdi (And.intro hdxi hsgi))
        clear hc hci hlk KB hcur hdi hdxi hsgi d3 d4 e2 e3
        have c4 : W2.cell? ⟨gb, 4, none⟩ = some (.slice (some ⟨g2, 0, none⟩) N C2) := rb_cell HT2.out.b.blk 4
        go_wp2_with fail
        go_meet
        exact ⟨(M.hv (some ⟨g2, 0, none⟩) N C2 (some ⟨s2, 0, none⟩) 1 1), _, [1], Lib.hid ⟨H3.out.bel, H3.out.a.blk, H3.out.b.blk, H3.out.a.ok, H3.out.b.ok, fun h => absurd h.2.1 HNL.out.1, fun h => absurd h.2.1 HNL.out.2⟩⟩
      · -- Signed
        obtain ⟨c, hc⟩ : ∃ c, c2[k]? = some c := ⟨_, List.getElem?_eq_getElem (by rw [HL2.out.2.1]; exact hkN)⟩
        obtain ⟨ci, hci⟩ : ∃ ci, c1[k]? = some ci := ⟨_, List.getElem?_eq_getElem (by rw [HL2.out.1]; exact hkN)⟩
        have hlk := HLK.out.2 k ci c hci hc
        have KB : Hid (1 ≤ c.d ∧ c.d ≤ 10 ∧ 1 ≤ c.dx ∧ c.dx ≤ 3) := Lib.hid (HKB.out k c hc)
        have HR : Hid (HTwo lo W0 W2.drew ga g1 s1 gb g2 s2 (M.hv (some ⟨g1, 0, none⟩) N C1 (some ⟨s1, 0, none⟩) 1 1) (M.hv (some ⟨g2, 0, none⟩) N C2 (some ⟨s2, 0, none⟩) 1 1) c1 c2 1 1) := Lib.hid (HT2.out.below (Below.refl _ _).drew)
        obtain ⟨cur, hcur⟩ := HR.out.b.rowb
        obtain ⟨g', cap', e1, _, _, _, d0, d1, d2, d3, d4⟩ := HR.out.b.row k c hc
        injection e1 with e1 e2 e3
        injection e1 with e1
        injection e1 with e1
        subst e1
        have hkI : (k : Int) < (N : Int) ∧ (0 : Int) ≤ (k : Int) := by omega
        have f0 : W2.drew.frozen? ⟨g2, k * 5 + 1, none⟩ = false := blk_frozen hcur _
        have H3 := Lib.hid (HT2.out.setc (j := 1) (c' := { c with sg := !c.sg }) (v := .bool (!c.sg)) hc (by decide) rfl rfl rfl rfl rfl)
        obtain ⟨di, hdi⟩ : ∃ d, c.d = d := ⟨_, rfl⟩
        obtain ⟨dxi, hdxi⟩ : ∃ d, c.dx = d := ⟨_, rfl⟩
        obtain ⟨sgi, hsgi⟩ : ∃ d, c.sg = d := ⟨_, rfl⟩
        have hdb : 1 ≤ di ∧ di ≤ 10 := by have := KB.out; omega
        have hdxb : 1 ≤ dxi ∧ dxi ≤ 3 := by have := KB.out; omega
        rw [hdi] at d0
        rw [hdxi] at d2
        rw [hsgi] at d1
        have HNL : Hid (¬ likeL c1 (c2.set k { c with sg := !c.sg }) ∧ ¬ likeL (c2.set k { c with sg := !c.sg }) c1) := Lib.hid (by
          have hk2 : (c2.set k { c with sg := !c.sg })[k]? = some { c with sg := !c.sg } := List.getElem?_set_self (by rw [HL2.out.2.1]; exact hkN)
          refine ⟨fun h => ?_, fun h => ?_⟩
          · have h1 := h.2 k _ _ hci hk2
            have h2 := HLK.out.2 k _ _ hci hc
            unfold likeC at h1 h2
            simp only [Bool.and_eq_true, decide_eq_true_eq, beq_iff_eq] at h1 h2
            have := h1.1.1.2.symm.trans h2.1.1.2; revert this; cases c.sg <;> decide
          · have h1 := h.2 k _ _ hk2 hci
            have h2 := HLK.out.2 k _ _ hci hc
            unfold likeC at h1 h2
            simp only [Bool.and_eq_true, decide_eq_true_eq, beq_iff_eq] at h1 h2
            have := h1.1.1.2.trans h2.1.1.2; revert this; cases c.sg <;> decide)
        rw [hdi, hdxi, hsgi] at H3 HNL
        have HD := Lib.hid (And.intro hdi (And.intro hdxi hsgi))
        clear hc hci hlk KB hcur hdi hdxi hsgi d3 d4 e2 e3
        have c4 : W2.drew.cell? ⟨gb, 4, none⟩ = some (.slice (some ⟨g2, 0, none⟩) N C2) := rb_cell HR.out.b.blk 4
        go_upto_region 15 with fail
        refine wp_region_still_tail 14 (by kernel_rfl) (by kernel_rfl) ?_
        simp only [List.take_succ_cons, List.take_zero, List.drop_succ_cons, List.drop_zero]
        repeat still_step
        refine wpStill_nil ?_
        change wpList _ _ _ _ _ W2.drew
        go_wp2_with fail
        go_meet
        have H4 := Lib.hid (H3.out.below ((Below.refl _ _).drew))
        exact ⟨(M.hv (some ⟨g2, 0, none⟩) N C2 (some ⟨s2, 0, none⟩) 1 1), _, [1], Lib.hid ⟨H4.out.bel, H4.out.a.blk, H4.out.b.blk, H4.out.a.ok, H4.out.b.ok, fun h => absurd h.2.1 HNL.out.1, fun h => absurd h.2.1 HNL.out.2⟩⟩
      · -- Dx
        obtain ⟨c, hc⟩ : ∃ c, c2[k]? = some c := ⟨_, List.getElem?_eq_getElem (by rw [HL2.out.2.1]; exact hkN)⟩
        obtain ⟨ci, hci⟩ : ∃ ci, c1[k]? = some ci := ⟨_, List.getElem?_eq_getElem (by rw [HL2.out.1]; exact hkN)⟩
        have hlk := HLK.out.2 k ci c hci hc
        have KB : Hid (1 ≤ c.d ∧ c.d ≤ 10 ∧ 1 ≤ c.dx ∧ c.dx ≤ 3) := Lib.hid (HKB.out k c hc)
        have HR : Hid (HTwo lo W0 W2 ga g1 s1 gb g2 s2 (M.hv (some ⟨g1, 0, none⟩) N C1 (some ⟨s1, 0, none⟩) 1 1) (M.hv (some ⟨g2, 0, none⟩) N C2 (some ⟨s2, 0, none⟩) 1 1) c1 c2 1 1) := HT2
        obtain ⟨cur, hcur⟩ := HR.out.b.rowb
        obtain ⟨g', cap', e1, _, _, _, d0, d1, d2, d3, d4⟩ := HR.out.b.row k c hc
        injection e1 with e1 e2 e3
        injection e1 with e1
        injection e1 with e1
        subst e1
        have hkI : (k : Int) < (N : Int) ∧ (0 : Int) ≤ (k : Int) := by omega
        have f0 : W2.frozen? ⟨g2, k * 5 + 2, none⟩ = false := blk_frozen hcur _
        have H3 := Lib.hid (HT2.out.setc (j := 2) (c' := { c with dx := c.dx + 1 }) (v := .int .i64 (c.dx + 1)) hc (by decide) rfl rfl rfl rfl rfl)
        obtain ⟨di, hdi⟩ : ∃ d, c.d = d := ⟨_, rfl⟩
        obtain ⟨dxi, hdxi⟩ : ∃ d, c.dx = d := ⟨_, rfl⟩
        obtain ⟨sgi, hsgi⟩ : ∃ d, c.sg = d := ⟨_, rfl⟩
        have hdb : 1 ≤ di ∧ di ≤ 10 := by have := KB.out; omega
        have hdxb : 1 ≤ dxi ∧ dxi ≤ 3 := by have := KB.out; omega
        rw [hdi] at d0
        rw [hdxi] at d2
        rw [hsgi] at d1
        have HNL : Hid (¬ likeL c1 (c2.set k { c with dx := c.dx + 1 }) ∧ ¬ likeL (c2.set k { c with dx := c.dx + 1 }) c1) := Lib.hid (by
          have hk2 : (c2.set k { c with dx := c.dx + 1 })[k]? = some { c with dx := c.dx + 1 } := List.getElem?_set_self (by rw [HL2.out.2.1]; exact hkN)
          refine ⟨fun h => ?_, fun h => ?_⟩
          · have h1 := h.2 k _ _ hci hk2
            have h2 := HLK.out.2 k _ _ hci hc
            unfold likeC at h1 h2
            simp only [Bool.and_eq_true, decide_eq_true_eq, beq_iff_eq] at h1 h2
            omega
          · have h1 := h.2 k _ _ hk2 hci
            have h2 := HLK.out.2 k _ _ hci hc
            unfold likeC at h1 h2
            simp only [Bool.and_eq_true, decide_eq_true_eq, beq_iff_eq] at h1 h2
            omega)
        rw [hdi, hdxi, hsgi] at H3 HNL
        have HD := Lib.hid (And.intro hdi (And.intro hdxi hsgi))
        clear hc hci hlk KB hcur hdi hdxi hsgi d3 d4 e2 e3
        have c4 : W2.cell? ⟨gb, 4, none⟩ = some (.slice (some ⟨g2, 0, none⟩) N C2) := rb_cell HT2.out.b.blk 4
        go_wp2_with fail
        go_meet
        exact ⟨(M.hv (some ⟨g2, 0, none⟩) N C2 (some ⟨s2, 0, none⟩) 1 1), _, [1], Lib.hid ⟨H3.out.bel, H3.out.a.blk, H3.out.b.blk, H3.out.a.ok, H3.out.b.ok, fun h => absurd h.2.1 HNL.out.1, fun h => absurd h.2.1 HNL.out.2⟩⟩
      · -- Comps cut
        have c4 : W2.cell? ⟨gb, 4, none⟩ = some (.slice (some ⟨g2, 0, none⟩) N C2) := rb_cell HT2.out.b.blk 4
        have f0 : W2.frozen? ⟨gb, 4, none⟩ = false := blk_frozen HT2.out.b.blk 4
        have hcp := HT2.out.b.cp
        have hkI : (k : Int) ≤ (C2 : Int) ∧ (0 : Int) ≤ (k : Int) := ⟨by have : N ≤ C2 := hcp.1; omega, by omega⟩
        have H3 := Lib.hid (HT2.out.setg 4 (.slice (some ⟨g2, 0, none⟩) k C2) { (M.hv (some ⟨g2, 0, none⟩) N C2 (some ⟨s2, 0, none⟩) 1 1) with N := k } (c2.take k) s2 1 rfl rfl rfl (HT2.out.b.row.take (k := k) (Nat.le_of_lt (HL2.out.2.1.symm ▸ hkN))) (by rw [List.length_take, HL2.out.2.1]; exact Nat.min_eq_left (Nat.le_of_lt hkN)) (Nat.le_of_lt hkN) HT2.out.b.com ⟨rfl, rfl⟩)
        have hlt : Hid ((c2.take k).length = k ∧ c1.length = N) := Lib.hid ⟨by rw [List.length_take, HL2.out.2.1]; exact Nat.min_eq_left (by omega), HL2.out.1⟩
        go_wp2_with fail
        go_meet
        exact ⟨_, c2.take k, [1], Lib.hid ⟨H3.out.bel, H3.out.a.blk, H3.out.b.blk, H3.out.a.ok, H3.out.b.ok, fun h => absurd h.2.1.1 (by rw [hlt.out.1, hlt.out.2]; omega), fun h => absurd h.2.1.1 (by rw [hlt.out.1, hlt.out.2]; omega)⟩⟩
      · -- TX
        have c0 : W2.cell? ⟨gb, 5, none⟩ = some (.int .i64 M.TX) := rb_cell HT2.out.b.blk 5
        have f0 : W2.frozen? ⟨gb, 5, none⟩ = false := blk_frozen HT2.out.b.blk 5
        have H3 := Lib.hid (HT2.out.setb 5 (.int .i64 (M.TX + 1)) { (M.hv (some ⟨g2, 0, none⟩) N C2 (some ⟨s2, 0, none⟩) 1 1) with TX := M.TX + 1 } rfl ⟨rfl, rfl, rfl, rfl, rfl⟩)
        go_wp2_with fail
        go_meet
        exact ⟨{ (M.hv (some ⟨g2, 0, none⟩) N C2 (some ⟨s2, 0, none⟩) 1 1) with TX := M.TX + 1 }, c2, [1], Lib.hid ⟨H3.out.bel, H3.out.a.blk, H3.out.b.blk, H3.out.a.ok, H3.out.b.ok, fun h => absurd h.2.2.1.1 (by show ¬ (M.TX = M.TX + 1); omega), fun h => absurd h.2.2.1.1 (by show ¬ (M.TX + 1 = M.TX); omega)⟩⟩
      · -- ST
        have c0 : W2.cell? ⟨gb, 11, none⟩ = some (.int .i64 M.ST) := rb_cell HT2.out.b.blk 11
        have f0 : W2.frozen? ⟨gb, 11, none⟩ = false := blk_frozen HT2.out.b.blk 11
        have H3 := Lib.hid (HT2.out.setb 11 (.int .i64 (M.ST + 1)) { (M.hv (some ⟨g2, 0, none⟩) N C2 (some ⟨s2, 0, none⟩) 1 1) with ST := M.ST + 1 } rfl ⟨rfl, rfl, rfl, rfl, rfl⟩)
        go_wp2_with fail
        go_meet
        exact ⟨{ (M.hv (some ⟨g2, 0, none⟩) N C2 (some ⟨s2, 0, none⟩) 1 1) with ST := M.ST + 1 }, c2, [1], Lib.hid ⟨H3.out.bel, H3.out.a.blk, H3.out.b.blk, H3.out.a.ok, H3.out.b.ok, fun h => absurd h.2.2.1.2.2.2.2.2.2.1 (by show ¬ (M.ST = M.ST + 1); omega), fun h => absurd h.2.2.1.2.2.2.2.2.2.1 (by show ¬ (M.ST + 1 = M.ST); omega)⟩⟩
      · -- EP
        have c0 : W2.cell? ⟨gb, 16, none⟩ = some (.bool M.EP) := rb_cell HT2.out.b.blk 16
        have f0 : W2.frozen? ⟨gb, 16, none⟩ = false := blk_frozen HT2.out.b.blk 16
        have H3 := Lib.hid (HT2.out.setb 16 (.bool (!M.EP)) { (M.hv (some ⟨g2, 0, none⟩) N C2 (some ⟨s2, 0, none⟩) 1 1) with EP := !M.EP } rfl ⟨rfl, rfl, rfl, rfl, rfl⟩)
        go_wp2_with fail
        go_meet
        exact ⟨{ (M.hv (some ⟨g2, 0, none⟩) N C2 (some ⟨s2, 0, none⟩) 1 1) with EP := !M.EP }, c2, [1], Lib.hid ⟨H3.out.bel, H3.out.a.blk, H3.out.b.blk, H3.out.a.ok, H3.out.b.ok, fun h => absurd h.2.2.1.2.2.2.2.2.2.2.2.2.2.2 (by show ¬ (M.EP = !M.EP); cases M.EP <;> decide), fun h => absurd h.2.2.1.2.2.2.2.2.2.2.2.2.2.2 (by show ¬ ((!M.EP) = M.EP); cases M.EP <;> decide)⟩⟩
      · -- RC
        have c0 : W2.cell? ⟨gb, 14, none⟩ = some (.bool M.RC) := rb_cell HT2.out.b.blk 14
        have f0 : W2.frozen? ⟨gb, 14, none⟩ = false := blk_frozen HT2.out.b.blk 14
        have H3 := Lib.hid (HT2.out.setb 14 (.bool (!M.RC)) { (M.hv (some ⟨g2, 0, none⟩) N C2 (some ⟨s2, 0, none⟩) 1 1) with RC := !M.RC } rfl ⟨rfl, rfl, rfl, rfl, rfl⟩)
        go_wp2_with fail
        go_meet
        exact ⟨{ (M.hv (some ⟨g2, 0, none⟩) N C2 (some ⟨s2, 0, none⟩) 1 1) with RC := !M.RC }, c2, [1], Lib.hid ⟨H3.out.bel, H3.out.a.blk, H3.out.b.blk, H3.out.a.ok, H3.out.b.ok, fun h => absurd h.2.2.1.2.2.2.2.2.2.2.2.2.1 (by show ¬ (M.RC = !M.RC); cases M.RC <;> decide), fun h => absurd h.2.2.1.2.2.2.2.2.2.2.2.2.1 (by show ¬ ((!M.RC) = M.RC); cases M.RC <;> decide)⟩⟩
      · -- Comment
        have HA3 := Lib.hid (HT2.out.below ((Below.refl W2.heap.size W2).alloc (Nat.le_refl _) (Obj.cells #[.int .u8 2] 5)))
        have f0 : (W2.alloc (Obj.cells #[.int .u8 2] 5)).frozen? ⟨gb, 17, none⟩ = false := blk_frozen HA3.out.b.blk 17
        have c17 : (W2.alloc (Obj.cells #[.int .u8 2] 5)).cell? ⟨gb, 17, none⟩ = some (.slice (some ⟨s2, 0, none⟩) 1 1) := rb_cell HA3.out.b.blk 17
        have H3 := Lib.hid (HA3.out.setg 17 (.slice (some ⟨W2.heap.size, 0, none⟩) 1 1) { (M.hv (some ⟨g2, 0, none⟩) N C2 (some ⟨s2, 0, none⟩) 1 1) with SA := some ⟨W2.heap.size, 0, none⟩ } c2 W2.heap.size 2 rfl rfl rfl HA3.out.b.row HL2.out.2.1 (Nat.le_refl _) (World.alloc_heap_new W2 _) ⟨rfl, rfl⟩)
        go_wp2_with fail
        go_meet
        exact ⟨_, c2, [2], Lib.hid ⟨H3.out.bel, H3.out.a.blk, H3.out.b.blk, H3.out.a.ok, H3.out.b.ok, fun h => absurd h.2.2.2 (by decide), fun h => absurd h.2.2.2 (by decide)⟩⟩
      · -- Data
        obtain ⟨c, hc⟩ : ∃ c, c2[k]? = some c := ⟨_, List.getElem?_eq_getElem (by rw [HL2.out.2.1]; exact hkN)⟩
        obtain ⟨cur, hcur⟩ := HT2.out.b.rowb
        obtain ⟨g', cap', e1, _, _, _, d0, d1, d2, d3, d4⟩ := HT2.out.b.row k c hc
        injection e1 with e1 e2 e3
        injection e1 with e1
        injection e1 with e1
        subst e1
        have hkI : (k : Int) < (N : Int) ∧ (0 : Int) ≤ (k : Int) := by omega
        have f0 : W2.frozen? ⟨g2, k * 5 + 4, none⟩ = false := blk_frozen hcur _
        have c4 : W2.cell? ⟨gb, 4, none⟩ = some (.slice (some ⟨g2, 0, none⟩) N C2) := rb_cell HT2.out.b.blk 4
        have H3 := Lib.hid (HT2.out.setc (j := 4) (c' := { c with A := none, n := 0, cap := 0 }) (v := .slice none 0 0) hc (by decide) rfl rfl rfl rfl rfl)
        have HLK3 : Hid (likeL c1 (c2.set k { c with A := none, n := 0, cap := 0 })) := Lib.hid ⟨by rw [List.length_set]; exact HLK.out.1, fun i x y hx hy => by
          by_cases hik : i = k
          · subst hik
            rw [List.getElem?_set_self (by rw [HL2.out.2.1]; exact hkN)] at hy
            injection hy with hy
            have := HLK.out.2 i x c hx hc
            subst hy
            exact this
          · rw [List.getElem?_set_ne (fun e => hik e.symm)] at hy
            exact HLK.out.2 i x y hx hy⟩
        clear d0 d1 d2 d3 hc hcur e2 e3
        go_wp2_with (first | (refine wpList_load_row rfl 33 _ rfl ga rfl 33 _ (0, 0) _ (H3.out.a.blk) Try.underlying33 rfl (by kernel_rfl) ?_) | (refine wpList_load_row rfl 33 _ rfl gb rfl 33 _ (0, 0) _ (H3.out.b.blk) Try.underlying33 rfl (by kernel_rfl) ?_))
        refine (same_hv H3.out.a.ok H3.out.b.ok).mono ?_
        rintro e W4 ⟨⟨b, rfl, hbi⟩, hb⟩
        obtain rfl : b = true := hbi.2 ⟨⟨rfl, rfl, rfl, rfl⟩, HLK3.out, ⟨rfl, rfl, rfl, rfl, rfl, rfl, rfl, rfl, rfl, rfl, rfl, rfl⟩, rfl⟩
        have HB4 : Hid (Below lo W0 W4) := Lib.hid (H3.out.bel.trans (hb.mono (by have := H3.out.bel.size; have := HLO.out.1; omega)))
        clear hb hbi H3 HLK3 c4 f0 d4
        go_wp2_with fail
        go_ret
        exact ⟨rfl, by rw [HBE.out]; exact HF1.out.bel.trans (HB4.out.mono (by have := HLO.out.2.1; omega))⟩
    case rest =>
      obtain ⟨h2, cs2, l2, HC⟩ := hcut
      obtain ⟨W3, hW3⟩ : ∃ W3, W3 = wc := ⟨wc, rfl⟩
      subst hW3
      go_wp2_with (first | (refine wpList_load_row rfl 33 _ rfl ga rfl 33 _ (0, 0) _ (HC.out.2.1) Try.underlying33 rfl (by kernel_rfl) ?_) | (refine wpList_load_row rfl 33 _ rfl gb rfl 33 _ (0, 0) _ (HC.out.2.2.1) Try.underlying33 rfl (by kernel_rfl) ?_))
      refine (same_hv HC.out.2.2.2.1 HC.out.2.2.2.2.1).mono ?_
      rintro e W4 ⟨⟨b, rfl, hbi⟩, hb⟩
      obtain rfl : b = false := by cases b; rfl; exact absurd (hbi.1 rfl) HC.out.2.2.2.2.2.1
      have HC4 : Hid (Below lo W0 W4 ∧ W4.heap[ga]? = some (.cells (M.hv (some ⟨g1, 0, none⟩) N C1 (some ⟨s1, 0, none⟩) 1 1).arr 33 (0, 0)) ∧ W4.heap[gb]? = some (.cells h2.arr 33 (0, 0)) ∧ HdOk W4 (M.hv (some ⟨g1, 0, none⟩) N C1 (some ⟨s1, 0, none⟩) 1 1) c1 [1] ∧ HdOk W4 h2 cs2 l2) := Lib.hid ⟨HC.out.1.trans (hb.mono (by have := HC.out.1.size; have := HLO.out.1; omega)), (hb.block _ (blk_lt HC.out.2.1)).trans HC.out.2.1, (hb.block _ (blk_lt HC.out.2.2.1)).trans HC.out.2.2.1, HC.out.2.2.2.1.below hb, HC.out.2.2.2.2.1.below hb⟩
      clear hb hbi
      go_wp2_with (first | (refine wpList_load_row_g rfl 33 _ rfl ga rfl 33 _ (0, 0) _ (HC4.out.2.1) Try.underlying33 rfl (by kernel_rfl) ?_) | (refine wpList_load_row_g rfl 33 _ rfl gb rfl 33 _ (0, 0) _ (HC4.out.2.2.1) Try.underlying33 rfl (by kernel_rfl) ?_))
      refine (same_hv HC4.out.2.2.2.2 HC4.out.2.2.2.1).mono ?_
      rintro e W5 ⟨⟨b, rfl, hbi⟩, hb⟩
      obtain rfl : b = false := by cases b; rfl; exact absurd (hbi.1 rfl) HC.out.2.2.2.2.2.2
      have HB5 : Hid (Below lo W0 W5) := Lib.hid (HC4.out.1.trans (hb.mono (by have := HC4.out.1.size; have := HLO.out.1; omega)))
      clear hb hbi HC4 HC
      go_wp2_with fail
      go_ret
      exact ⟨rfl, by rw [HBE.out]; exact HF1.out.bel.trans (HB5.out.mono (by have := HLO.out.2.1; omega))⟩
end Go.Proofs.Ytlbfjaifemnkpaa
