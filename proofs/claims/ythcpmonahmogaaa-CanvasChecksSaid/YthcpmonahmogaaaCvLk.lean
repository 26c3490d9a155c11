/- canvas: CanvasChecks walked. -/
import Derived.Test.YthcpmonahmogaaaCvRc
import Derived.Test.YthcpmonahmogaaaCvFw
import Derived.Test.YthcpmonahmogaaaCvLa
import Derived.Test.YthcpmonahmogaaaCvQ0
import Derived.Test.YthcpmonahmogaaaCvK
import Derived.Deep.CutRange
import Derived.StillTailTactics
import Derived.Deep.CutBlock
set_option linter.unusedVariables false
set_option linter.unusedSimpArgs false
namespace Go.Proofs.Ythcpmonahmogaaa
open Go.RowKit
attribute [local go_sem ↓] appSem_eq
set_option maxRecDepth 100000
set_option maxHeartbeats 16000000 in
theorem walk_canvasChecks (x y ox oy : Int) (AC : Option Addr) (N0 cC : Nat) (cs0 : List Cp) (zs : Nat → List Int) (tx ty lv bw bh pr st od ly : Int) (rct sop eph : Bool) (f : FN) (A0 : Option Addr) (len0 cap0 : Nat) (z0 : List Int) (wh n : Int) (w : World) (i0 : ImgIn w AC N0 cC cs0 zs) (w0 : IsRow .i64 w A0 len0 cap0 z0) (s0 : -9223372036854775808 ≤ f.sb ∧ f.sb ≤ 9223372036854775807) (w1_ : (Lit.int .i64 wh).wf = true) (w2_ : (Lit.int .i64 n).wf = true) :
    Calls Try.prog 3 #[.agg #[.int .i64 x, .int .i64 y, .int .i64 ox, .int .i64 oy, .slice AC N0 cC], .agg #[.int .i64 tx, .int .i64 ty, .int .i64 lv, .int .i64 bw, .int .i64 bh, .int .i64 pr, .int .i64 st, .int .i64 od, .int .i64 ly, .bool rct, .bool sop, .bool eph], .agg (f.arr A0 len0 cap0), .int .i64 wh, .int .i64 n] w fun e w' => e = .returned (.bool true) ∧ Below w.heap.size w w' := by
  clear w1_ w2_
  have MK := Lib.hid (fun u hu => make_any f A0 len0 cap0 z0 12 u (by omega) hu s0)
  obtain ⟨fc, hfc⟩ : ∃ fc, f.arr A0 len0 cap0 = fc := ⟨_, rfl⟩
  have hfs : fc.size = 21 := by rw [← hfc]; rfl
  rw [hfc] at MK ⊢
  have HFS := Lib.hid hfs
  have HI0 := Lib.hid i0
  have HR0 := Lib.hid w0
  clear hfc hfs i0 w0 s0
  obtain ⟨B, hB⟩ : ∃ B, w.heap.size = B := ⟨_, rfl⟩
  obtain ⟨w1, hw1⟩ : ∃ w1, ((w.alloc (.cells #[.int .i64 x, .int .i64 y, .int .i64 ox, .int .i64 oy, .slice AC N0 cC] 24)).alloc (.cells #[.int .i64 tx, .int .i64 ty, .int .i64 lv, .int .i64 bw, .int .i64 bh, .int .i64 pr, .int .i64 st, .int .i64 od, .int .i64 ly, .bool rct, .bool sop, .bool eph] 26)).alloc (.cells fc 29) = w1 := ⟨_, rfl⟩
  have HM1 : Hid (MkW w B [(#[.int .i64 x, .int .i64 y, .int .i64 ox, .int .i64 oy, .slice AC N0 cC], 24), (#[.int .i64 tx, .int .i64 ty, .int .i64 lv, .int .i64 bw, .int .i64 bh, .int .i64 pr, .int .i64 st, .int .i64 od, .int .i64 ly, .bool rct, .bool sop, .bool eph], 26), (fc, 29)] w1) := Lib.hid (by
    have h0 : MkW w B [] w := ⟨fun i c e => by simp at e, Below.refl _ _, by simp; omega⟩
    have h1 := ((h0.more (by simp; omega) #[.int .i64 x, .int .i64 y, .int .i64 ox, .int .i64 oy, .slice AC N0 cC] 24).more (by simp; omega) #[.int .i64 tx, .int .i64 ty, .int .i64 lv, .int .i64 bw, .int .i64 bh, .int .i64 pr, .int .i64 st, .int .i64 od, .int .i64 ly, .bool rct, .bool sop, .bool eph] 26).more (by simp; omega) fc 29
    rw [← hw1]; exact h1)
  have HE := Lib.hid (And.intro hw1 hB)
  clear hw1 hB
  go_enter Try.func3, Try.ntmps3
  go_upto_region 1 with fail
  rw [show ((w.alloc (.cells #[.int .i64 x, .int .i64 y, .int .i64 ox, .int .i64 oy, .slice AC N0 cC] 24)).alloc (.cells #[.int .i64 tx, .int .i64 ty, .int .i64 lv, .int .i64 bw, .int .i64 bh, .int .i64 pr, .int .i64 st, .int .i64 od, .int .i64 ly, .bool rct, .bool sop, .bool eph] 26)).alloc (.cells fc 29) = w1 from HE.out.1, HE.out.2]
  go_wp2_with fail
  refine (known12 _).mono ?_
  rintro e w2 ⟨rfl, hb⟩
  have HM2 := Lib.hid (HM1.out.keep hb)
  have HWB : Hid (w.heap.size = B) := Lib.hid HE.out.2
  clear hb HM1 HE
  have HP2 : Hid (ImgIn w AC N0 cC cs0 zs) := HI0
  have CF : Hid (Calls Try.prog 11 #[.agg #[.int .i64 x, .int .i64 y, .int .i64 ox, .int .i64 oy, .slice AC N0 cC]] w2 fun e w' => e = .returned (.bool (fewF cs0)) ∧ Below w2.heap.size w2 w') := Lib.hid (by
    have h := few_any (cC := cC) (w := w2) x y ox oy (HI0.out.at'.keep (by rw [HWB.out]; exact HM2.out.bel)) (by rw [HI0.out.lcs]; exact HI0.out.lcap)
    rw [HI0.out.lcs] at h
    exact h)
  obtain ⟨g0, g1, g2, g3, g4⟩ := img_cells (show w2.heap[B]? = some (.cells #[.int .i64 x, .int .i64 y, .int .i64 ox, .int .i64 oy, .slice AC N0 cC] 24 (0, 0)) from HM2.out.b 0 _ rfl)
  go_wp2_with fail
  refine CF.out.mono ?_
  rintro e w3 ⟨rfl, hb⟩
  have HM3 := Lib.hid (HM2.out.keep hb)
  clear hb HM2 CF g0 g1 g2 g3 g4
  obtain ⟨fw, hfw⟩ : ∃ v, fewF cs0 = v := ⟨_, rfl⟩
  have HFW := Lib.hid hfw
  rw [hfw]
  clear hfw
  have HBW : Hid (Below w.heap.size w w3) := Lib.hid (by rw [HWB.out]; exact HM3.out.bel)
  cases fw
  case false =>
    go_wp2
    go_ret
    first | exact HBW.out | exact ⟨rfl, HBW.out⟩
  case true =>
  have HPC : Hid (∃ ds, Pic w3 AC cC cs0 ds) := Lib.hid (by
    have h := HFW.out
    unfold fewF at h
    rw [Bool.and_eq_true] at h
    exact ⟨_, (HI0.out.pic (of_decide_eq_true h.2) (fun c hc => of_decide_eq_true (List.all_eq_true.1 h.1 c hc))).keep HBW.out⟩)
  obtain ⟨ds, hPic⟩ := HPC.out
  have HPIC := Lib.hid hPic
  obtain ⟨F0, hF0⟩ : ∃ v, frameF x y ox oy cs0 tx ty lv bw bh pr st od ly rct = v := ⟨_, rfl⟩
  obtain ⟨K0, hK0⟩ : ∃ v, (if F0 = 0 then firstBad x y ox oy ds cs0 0 else F0) = v := ⟨_, rfl⟩
  have HN0 : Hid (cs0.length = N0) := Lib.hid HI0.out.lcs
  have C1 : Hid (∀ u, Below w3.heap.size w3 u → Calls Try.prog 12 #[.agg #[.int .i64 x, .int .i64 y, .int .i64 ox, .int .i64 oy, .slice AC N0 cC], .agg #[.int .i64 tx, .int .i64 ty, .int .i64 lv, .int .i64 bw, .int .i64 bh, .int .i64 pr, .int .i64 st, .int .i64 od, .int .i64 ly, .bool rct, .bool sop, .bool eph]] u fun e w' => e = .returned (.int .i64 K0) ∧ Below u.heap.size u w') := Lib.hid fun u hu => by
    have p := HPIC.out.keep hu
    have h := check_any ds x y ox oy tx ty lv bw bh pr st od ly rct sop eph p.at' p.cap p.dat
    rw [HN0.out, hF0, hK0] at h
    exact h
  have D1 : Hid (∀ u, Below w3.heap.size w3 u → Calls Try.prog 13 #[.agg #[.int .i64 x, .int .i64 y, .int .i64 ox, .int .i64 oy, .slice AC N0 cC], .agg #[.int .i64 tx, .int .i64 ty, .int .i64 lv, .int .i64 bw, .int .i64 bh, .int .i64 pr, .int .i64 st, .int .i64 od, .int .i64 ly, .bool rct, .bool sop, .bool eph]] u fun e w' => e = .returned (.int .i64 K0) ∧ Below u.heap.size u w') := Lib.hid fun u hu => by
    have p := HPIC.out.keep hu
    have h := rcheck_any (cC := cC) ds x y ox oy tx ty lv bw bh pr st od ly rct sop eph p.at' p.few p.dat
    rw [HN0.out, hF0, hK0] at h
    exact h
  have E1 : Hid (∀ u, Below w3.heap.size w3 u → Calls Try.prog 14 #[.agg #[.int .i64 x, .int .i64 y, .int .i64 ox, .int .i64 oy, .slice AC N0 cC], .agg #[.int .i64 tx, .int .i64 ty, .int .i64 lv, .int .i64 bw, .int .i64 bh, .int .i64 pr, .int .i64 st, .int .i64 od, .int .i64 ly, .bool rct, .bool sop, .bool eph]] u fun e w' => e = .returned (.int .i64 F0) ∧ Below u.heap.size u w') := Lib.hid fun u hu => by
    have p := HPIC.out.keep hu
    have h := frame_any x y ox oy tx ty lv bw bh pr st od ly rct sop eph p.at' p.cap
    rw [HN0.out, hF0] at h
    exact h
  have G1 : Hid (∀ u, Below w3.heap.size w3 u → Calls Try.prog 15 #[.agg #[.int .i64 x, .int .i64 y, .int .i64 ox, .int .i64 oy, .slice AC N0 cC], .agg #[.int .i64 tx, .int .i64 ty, .int .i64 lv, .int .i64 bw, .int .i64 bh, .int .i64 pr, .int .i64 st, .int .i64 od, .int .i64 ly, .bool rct, .bool sop, .bool eph]] u fun e w' => e = .returned (.int .i64 F0) ∧ Below u.heap.size u w') := Lib.hid fun u hu => by
    have p := HPIC.out.keep hu
    have h := rframe_any (cC := cC) x y ox oy tx ty lv bw bh pr st od ly rct sop eph p.at' p.few
    rw [HN0.out, hF0] at h
    exact h
  clear hF0 hK0 hPic HPC HPIC HFW HP2 HI0
  go_upto_region 5 with fail
  obtain ⟨VL, hVL⟩ : ∃ VL : Unit → List (Nat × Nat × Value), VL = fun z => [(0, 21, .agg #[.int .i64 x, .int .i64 y, .int .i64 ox, .int .i64 oy, .slice AC N0 cC]), (1, 22, .agg #[.int .i64 tx, .int .i64 ty, .int .i64 lv, .int .i64 bw, .int .i64 bh, .int .i64 pr, .int .i64 st, .int .i64 od, .int .i64 ly, .bool rct, .bool sop, .bool eph]), (2, 23, .int .i64 K0), (3, 24, .agg #[.int .i64 x, .int .i64 y, .int .i64 ox, .int .i64 oy, .slice AC N0 cC]), (4, 25, .agg #[.int .i64 tx, .int .i64 ty, .int .i64 lv, .int .i64 bw, .int .i64 bh, .int .i64 pr, .int .i64 st, .int .i64 od, .int .i64 ly, .bool rct, .bool sop, .bool eph]), (5, 26, .int .i64 K0), (6, 27, .bool false), (7, 28, .bool false), (8, 29, .agg #[.int .i64 x, .int .i64 y, .int .i64 ox, .int .i64 oy, .slice AC N0 cC]), (9, 30, .agg #[.int .i64 tx, .int .i64 ty, .int .i64 lv, .int .i64 bw, .int .i64 bh, .int .i64 pr, .int .i64 st, .int .i64 od, .int .i64 ly, .bool rct, .bool sop, .bool eph]), (10, 31, .int .i64 F0), (11, 32, .agg #[.int .i64 x, .int .i64 y, .int .i64 ox, .int .i64 oy, .slice AC N0 cC]), (12, 33, .agg #[.int .i64 tx, .int .i64 ty, .int .i64 lv, .int .i64 bw, .int .i64 bh, .int .i64 pr, .int .i64 st, .int .i64 od, .int .i64 ly, .bool rct, .bool sop, .bool eph]), (13, 34, .int .i64 F0), (14, 35, .bool false), (15, 36, .bool false)] := ⟨_, rfl⟩
  have hok : ∀ z, manyOk 162 (VL z) := fun z => by rw [hVL]; exact ⟨by simp, by simp, by simp⟩
  have HVL := Lib.hid hVL
  have hvi : ∀ z, ∀ x ∈ VL z, x.1 < 16 := fun z => by rw [hVL]; simp
  have HOK := Lib.hid hok
  have HVI := Lib.hid hvi
  clear hVL hok hvi
  refine (wpIn_wide (n := 9)).1 (regionIn_many (N := 162) (w := w3) VL (fun L z w' => (Below w3.heap.size w3 w') ∧ True) [(5, .pointer (some ⟨B, 0, none⟩)), (6, .pointer (some ⟨B + 1, 0, none⟩))] (by kernel_rfl) (by kernel_rfl) rfl (by simp only [List.forall_mem_cons, List.not_mem_nil, false_imp_iff, implies_true, and_true]; exact ⟨rfl, rfl⟩) HVI.out () ?start ?step ?fin)
  case start => exact ⟨below_drewN (Below.refl _ w3) 1, trivial⟩
  case step =>
    intro gg_ hgN hgF ii_ hii_ L z w' hph hs hu
    obtain ⟨hcm, hph⟩ := hph
    have hF5 := hgF (5, .pointer (some ⟨B, 0, none⟩)) (by simp)
    have hF6 := hgF (6, .pointer (some ⟨B + 1, 0, none⟩)) (by simp)
    have hL := hu.1
    have hii_ : ii_ < 16 := hii_
    clear hgF
    obtain rfl | rfl | rfl | rfl | rfl | rfl | rfl | rfl | rfl | rfl | rfl | rfl | rfl | rfl | rfl | rfl := (by omega : ii_ = 0 ∨ ii_ = 1 ∨ ii_ = 2 ∨ ii_ = 3 ∨ ii_ = 4 ∨ ii_ = 5 ∨ ii_ = 6 ∨ ii_ = 7 ∨ ii_ = 8 ∨ ii_ = 9 ∨ ii_ = 10 ∨ ii_ = 11 ∨ ii_ = 12 ∨ ii_ = 13 ∨ ii_ = 14 ∨ ii_ = 15)
    · skip
      obtain ⟨g0, g1, g2, g3, g4⟩ := img_cells ((hcm.block B (by have h := HM3.out.sz; simp at h; omega)).trans (show w3.heap[B]? = some (.cells #[.int .i64 x, .int .i64 y, .int .i64 ox, .int .i64 oy, .slice AC N0 cC] 24 (0, 0)) from HM3.out.b 0 _ rfl))
      have e5 : (many gg_ L (VL z))[5]?.getD undef = .pointer (some ⟨B, 0, none⟩) := many_out hgN (HOK.out z).1 (by rw [HVL.out]; rfl) hF5
      refine opIn_run (v := .agg #[.int .i64 x, .int .i64 y, .int .i64 ox, .int .i64 oy, .slice AC N0 cC]) (w' := w') rfl rfl (fun c h => by cases h) (fun _ => trivial) ?_ ⟨z, by exact many_put (HOK.out _) 0 21 _ (by rw [HVL.out]; simp) hL, hcm, hph⟩
      go_simp
    · skip
      obtain ⟨k0, k1, k2, k3, k4, k5, k6, k7, k8, k9, k10, k11⟩ := par_cells ((hcm.block (B + 1) (by have h := HM3.out.sz; simp at h; omega)).trans (show w3.heap[B + 1]? = some (.cells #[.int .i64 tx, .int .i64 ty, .int .i64 lv, .int .i64 bw, .int .i64 bh, .int .i64 pr, .int .i64 st, .int .i64 od, .int .i64 ly, .bool rct, .bool sop, .bool eph] 26 (0, 0)) from HM3.out.b 1 _ rfl))
      have e6 : (many gg_ L (VL z))[6]?.getD undef = .pointer (some ⟨B + 1, 0, none⟩) := many_out hgN (HOK.out z).1 (by rw [HVL.out]; rfl) hF6
      refine opIn_run (v := .agg #[.int .i64 tx, .int .i64 ty, .int .i64 lv, .int .i64 bw, .int .i64 bh, .int .i64 pr, .int .i64 st, .int .i64 od, .int .i64 ly, .bool rct, .bool sop, .bool eph]) (w' := w') rfl rfl (fun c h => by cases h) (fun _ => trivial) ?_ ⟨z, by exact many_put (HOK.out _) 1 22 _ (by rw [HVL.out]; simp) hL, hcm, hph⟩
      go_simp
    · skip
      have y0 : L 0 = true := up_at hu 0 (by kernel_rfl)
      have y1 : L 1 = true := up_at hu 1 (by kernel_rfl)
      have e21 : (many gg_ L (VL z))[21]?.getD undef = .agg #[.int .i64 x, .int .i64 y, .int .i64 ox, .int .i64 oy, .slice AC N0 cC] := many_eval hgN (HOK.out z).1 (by rw [HVL.out]; simp [lookM, y0])
      have e22 : (many gg_ L (VL z))[22]?.getD undef = .agg #[.int .i64 tx, .int .i64 ty, .int .i64 lv, .int .i64 bw, .int .i64 bh, .int .i64 pr, .int .i64 st, .int .i64 od, .int .i64 ly, .bool rct, .bool sop, .bool eph] := many_eval hgN (HOK.out z).1 (by rw [HVL.out]; simp [lookM, y1])
      refine opIn_call (f := 12) (args := #[.agg #[.int .i64 x, .int .i64 y, .int .i64 ox, .int .i64 oy, .slice AC N0 cC], .agg #[.int .i64 tx, .int .i64 ty, .int .i64 lv, .int .i64 bw, .int .i64 bh, .int .i64 pr, .int .i64 st, .int .i64 od, .int .i64 ly, .bool rct, .bool sop, .bool eph]]) (w' := w') rfl rfl (fun c h => by cases h) (fun _ => trivial) rfl (by go_simp) ((callsIn_wide.2 (C1.out w' hcm)).mono ?_)
      rintro e w2 ⟨rfl, hb⟩
      exact ⟨_, rfl, z, by exact many_put (HOK.out _) 2 23 _ (by rw [HVL.out]; simp) hL, hcm.trans (hb.mono hcm.size), trivial⟩
    · skip
      obtain ⟨g0, g1, g2, g3, g4⟩ := img_cells ((hcm.block B (by have h := HM3.out.sz; simp at h; omega)).trans (show w3.heap[B]? = some (.cells #[.int .i64 x, .int .i64 y, .int .i64 ox, .int .i64 oy, .slice AC N0 cC] 24 (0, 0)) from HM3.out.b 0 _ rfl))
      have e5 : (many gg_ L (VL z))[5]?.getD undef = .pointer (some ⟨B, 0, none⟩) := many_out hgN (HOK.out z).1 (by rw [HVL.out]; rfl) hF5
      refine opIn_run (v := .agg #[.int .i64 x, .int .i64 y, .int .i64 ox, .int .i64 oy, .slice AC N0 cC]) (w' := w') rfl rfl (fun c h => by cases h) (fun _ => trivial) ?_ ⟨z, by exact many_put (HOK.out _) 3 24 _ (by rw [HVL.out]; simp) hL, hcm, hph⟩
      go_simp
    · skip
      obtain ⟨k0, k1, k2, k3, k4, k5, k6, k7, k8, k9, k10, k11⟩ := par_cells ((hcm.block (B + 1) (by have h := HM3.out.sz; simp at h; omega)).trans (show w3.heap[B + 1]? = some (.cells #[.int .i64 tx, .int .i64 ty, .int .i64 lv, .int .i64 bw, .int .i64 bh, .int .i64 pr, .int .i64 st, .int .i64 od, .int .i64 ly, .bool rct, .bool sop, .bool eph] 26 (0, 0)) from HM3.out.b 1 _ rfl))
      have e6 : (many gg_ L (VL z))[6]?.getD undef = .pointer (some ⟨B + 1, 0, none⟩) := many_out hgN (HOK.out z).1 (by rw [HVL.out]; rfl) hF6
      refine opIn_run (v := .agg #[.int .i64 tx, .int .i64 ty, .int .i64 lv, .int .i64 bw, .int .i64 bh, .int .i64 pr, .int .i64 st, .int .i64 od, .int .i64 ly, .bool rct, .bool sop, .bool eph]) (w' := w') rfl rfl (fun c h => by cases h) (fun _ => trivial) ?_ ⟨z, by exact many_put (HOK.out _) 4 25 _ (by rw [HVL.out]; simp) hL, hcm, hph⟩
      go_simp
    · skip
      have y2 : L 2 = true := up_at hu 2 (by kernel_rfl)
      have y3 : L 3 = true := up_at hu 3 (by kernel_rfl)
      have y4 : L 4 = true := up_at hu 4 (by kernel_rfl)
      have e24 : (many gg_ L (VL z))[24]?.getD undef = .agg #[.int .i64 x, .int .i64 y, .int .i64 ox, .int .i64 oy, .slice AC N0 cC] := many_eval hgN (HOK.out z).1 (by rw [HVL.out]; simp [lookM, y3])
      have e25 : (many gg_ L (VL z))[25]?.getD undef = .agg #[.int .i64 tx, .int .i64 ty, .int .i64 lv, .int .i64 bw, .int .i64 bh, .int .i64 pr, .int .i64 st, .int .i64 od, .int .i64 ly, .bool rct, .bool sop, .bool eph] := many_eval hgN (HOK.out z).1 (by rw [HVL.out]; simp [lookM, y4])
      refine opIn_call (f := 13) (args := #[.agg #[.int .i64 x, .int .i64 y, .int .i64 ox, .int .i64 oy, .slice AC N0 cC], .agg #[.int .i64 tx, .int .i64 ty, .int .i64 lv, .int .i64 bw, .int .i64 bh, .int .i64 pr, .int .i64 st, .int .i64 od, .int .i64 ly, .bool rct, .bool sop, .bool eph]]) (w' := w') rfl rfl (fun c h => by cases h) (fun _ => trivial) rfl (by go_simp) ((callsIn_wide.2 (D1.out w' hcm)).mono ?_)
      rintro e w2 ⟨rfl, hb⟩
      exact ⟨_, rfl, z, by exact many_put (HOK.out _) 5 26 _ (by rw [HVL.out]; simp) hL, hcm.trans (hb.mono hcm.size), trivial⟩
    · skip
      have y2 : L 2 = true := up_at hu 2 (by kernel_rfl)
      have y5 : L 5 = true := up_at hu 5 (by kernel_rfl)
      have e23 : (many gg_ L (VL z))[23]?.getD undef = .int .i64 K0 := many_eval hgN (HOK.out z).1 (by rw [HVL.out]; simp [lookM, y2])
      have e26 : (many gg_ L (VL z))[26]?.getD undef = .int .i64 K0 := many_eval hgN (HOK.out z).1 (by rw [HVL.out]; simp [lookM, y5])
      refine opIn_run (v := .bool false) (w' := w') rfl rfl (fun c h => by cases h) (fun _ => trivial) ?_ ⟨z, by exact many_put (HOK.out _) 6 27 _ (by rw [HVL.out]; simp) hL, hcm, hph⟩
      go_simp
    · skip
      have y5 : L 5 = true := up_at hu 5 (by kernel_rfl)
      have y6 : L 6 = true := up_at hu 6 (by kernel_rfl)
      have e27 : (many gg_ L (VL z))[27]?.getD undef = .bool false := many_eval hgN (HOK.out z).1 (by rw [HVL.out]; simp [lookM, y6])
      refine opIn_run (v := .bool false) (w' := w') rfl rfl (fun c h => by cases h) (fun _ => trivial) ?_ ⟨z, by exact many_put (HOK.out _) 7 28 _ (by rw [HVL.out]; simp) hL, hcm, hph⟩
      go_simp
    · skip
      have y7 : L 7 = true := up_at hu 7 (by kernel_rfl)
      obtain ⟨g0, g1, g2, g3, g4⟩ := img_cells ((hcm.block B (by have h := HM3.out.sz; simp at h; omega)).trans (show w3.heap[B]? = some (.cells #[.int .i64 x, .int .i64 y, .int .i64 ox, .int .i64 oy, .slice AC N0 cC] 24 (0, 0)) from HM3.out.b 0 _ rfl))
      have e5 : (many gg_ L (VL z))[5]?.getD undef = .pointer (some ⟨B, 0, none⟩) := many_out hgN (HOK.out z).1 (by rw [HVL.out]; rfl) hF5
      have e28 : (many gg_ L (VL z))[28]?.getD undef = .bool false := many_eval hgN (HOK.out z).1 (by rw [HVL.out]; simp [lookM, y7])
      refine opIn_run_g (v := .agg #[.int .i64 x, .int .i64 y, .int .i64 ox, .int .i64 oy, .slice AC N0 cC]) (w' := w') (j := 7) (b := false) rfl rfl (by simp [yielded, many_some hgN (show 28 < 162 by decide) e28]) (fun c h => by cases h) (fun _ => trivial) ?_ ⟨z, by exact many_put (HOK.out _) 8 29 _ (by rw [HVL.out]; simp) hL, hcm, hph⟩
      go_simp
    · skip
      have y7 : L 7 = true := up_at hu 7 (by kernel_rfl)
      obtain ⟨k0, k1, k2, k3, k4, k5, k6, k7, k8, k9, k10, k11⟩ := par_cells ((hcm.block (B + 1) (by have h := HM3.out.sz; simp at h; omega)).trans (show w3.heap[B + 1]? = some (.cells #[.int .i64 tx, .int .i64 ty, .int .i64 lv, .int .i64 bw, .int .i64 bh, .int .i64 pr, .int .i64 st, .int .i64 od, .int .i64 ly, .bool rct, .bool sop, .bool eph] 26 (0, 0)) from HM3.out.b 1 _ rfl))
      have e6 : (many gg_ L (VL z))[6]?.getD undef = .pointer (some ⟨B + 1, 0, none⟩) := many_out hgN (HOK.out z).1 (by rw [HVL.out]; rfl) hF6
      have e28 : (many gg_ L (VL z))[28]?.getD undef = .bool false := many_eval hgN (HOK.out z).1 (by rw [HVL.out]; simp [lookM, y7])
      refine opIn_run_g (v := .agg #[.int .i64 tx, .int .i64 ty, .int .i64 lv, .int .i64 bw, .int .i64 bh, .int .i64 pr, .int .i64 st, .int .i64 od, .int .i64 ly, .bool rct, .bool sop, .bool eph]) (w' := w') (j := 7) (b := false) rfl rfl (by simp [yielded, many_some hgN (show 28 < 162 by decide) e28]) (fun c h => by cases h) (fun _ => trivial) ?_ ⟨z, by exact many_put (HOK.out _) 9 30 _ (by rw [HVL.out]; simp) hL, hcm, hph⟩
      go_simp
    · skip
      have y7 : L 7 = true := up_at hu 7 (by kernel_rfl)
      have y8 : L 8 = true := up_at hu 8 (by kernel_rfl)
      have y9 : L 9 = true := up_at hu 9 (by kernel_rfl)
      have e28 : (many gg_ L (VL z))[28]?.getD undef = .bool false := many_eval hgN (HOK.out z).1 (by rw [HVL.out]; simp [lookM, y7])
      have e29 : (many gg_ L (VL z))[29]?.getD undef = .agg #[.int .i64 x, .int .i64 y, .int .i64 ox, .int .i64 oy, .slice AC N0 cC] := many_eval hgN (HOK.out z).1 (by rw [HVL.out]; simp [lookM, y8])
      have e30 : (many gg_ L (VL z))[30]?.getD undef = .agg #[.int .i64 tx, .int .i64 ty, .int .i64 lv, .int .i64 bw, .int .i64 bh, .int .i64 pr, .int .i64 st, .int .i64 od, .int .i64 ly, .bool rct, .bool sop, .bool eph] := many_eval hgN (HOK.out z).1 (by rw [HVL.out]; simp [lookM, y9])
      refine opIn_call_g (f := 14) (args := #[.agg #[.int .i64 x, .int .i64 y, .int .i64 ox, .int .i64 oy, .slice AC N0 cC], .agg #[.int .i64 tx, .int .i64 ty, .int .i64 lv, .int .i64 bw, .int .i64 bh, .int .i64 pr, .int .i64 st, .int .i64 od, .int .i64 ly, .bool rct, .bool sop, .bool eph]]) (w' := w') (j := 7) (b := false) rfl rfl (by simp [yielded, many_some hgN (show 28 < 162 by decide) e28]) (fun c h => by cases h) (fun _ => trivial) rfl (by go_simp) ((callsIn_wide.2 (E1.out w' hcm)).mono ?_)
      rintro e w2 ⟨rfl, hb⟩
      exact ⟨_, rfl, z, by exact many_put (HOK.out _) 10 31 _ (by rw [HVL.out]; simp) hL, hcm.trans (hb.mono hcm.size), trivial⟩
    · skip
      have y7 : L 7 = true := up_at hu 7 (by kernel_rfl)
      obtain ⟨g0, g1, g2, g3, g4⟩ := img_cells ((hcm.block B (by have h := HM3.out.sz; simp at h; omega)).trans (show w3.heap[B]? = some (.cells #[.int .i64 x, .int .i64 y, .int .i64 ox, .int .i64 oy, .slice AC N0 cC] 24 (0, 0)) from HM3.out.b 0 _ rfl))
      have e5 : (many gg_ L (VL z))[5]?.getD undef = .pointer (some ⟨B, 0, none⟩) := many_out hgN (HOK.out z).1 (by rw [HVL.out]; rfl) hF5
      have e28 : (many gg_ L (VL z))[28]?.getD undef = .bool false := many_eval hgN (HOK.out z).1 (by rw [HVL.out]; simp [lookM, y7])
      refine opIn_run_g (v := .agg #[.int .i64 x, .int .i64 y, .int .i64 ox, .int .i64 oy, .slice AC N0 cC]) (w' := w') (j := 7) (b := false) rfl rfl (by simp [yielded, many_some hgN (show 28 < 162 by decide) e28]) (fun c h => by cases h) (fun _ => trivial) ?_ ⟨z, by exact many_put (HOK.out _) 11 32 _ (by rw [HVL.out]; simp) hL, hcm, hph⟩
      go_simp
    · skip
      have y7 : L 7 = true := up_at hu 7 (by kernel_rfl)
      obtain ⟨k0, k1, k2, k3, k4, k5, k6, k7, k8, k9, k10, k11⟩ := par_cells ((hcm.block (B + 1) (by have h := HM3.out.sz; simp at h; omega)).trans (show w3.heap[B + 1]? = some (.cells #[.int .i64 tx, .int .i64 ty, .int .i64 lv, .int .i64 bw, .int .i64 bh, .int .i64 pr, .int .i64 st, .int .i64 od, .int .i64 ly, .bool rct, .bool sop, .bool eph] 26 (0, 0)) from HM3.out.b 1 _ rfl))
      have e6 : (many gg_ L (VL z))[6]?.getD undef = .pointer (some ⟨B + 1, 0, none⟩) := many_out hgN (HOK.out z).1 (by rw [HVL.out]; rfl) hF6
      have e28 : (many gg_ L (VL z))[28]?.getD undef = .bool false := many_eval hgN (HOK.out z).1 (by rw [HVL.out]; simp [lookM, y7])
      refine opIn_run_g (v := .agg #[.int .i64 tx, .int .i64 ty, .int .i64 lv, .int .i64 bw, .int .i64 bh, .int .i64 pr, .int .i64 st, .int .i64 od, .int .i64 ly, .bool rct, .bool sop, .bool eph]) (w' := w') (j := 7) (b := false) rfl rfl (by simp [yielded, many_some hgN (show 28 < 162 by decide) e28]) (fun c h => by cases h) (fun _ => trivial) ?_ ⟨z, by exact many_put (HOK.out _) 12 33 _ (by rw [HVL.out]; simp) hL, hcm, hph⟩
      go_simp
    · skip
      have y7 : L 7 = true := up_at hu 7 (by kernel_rfl)
      have y10 : L 10 = true := up_at hu 10 (by kernel_rfl)
      have y11 : L 11 = true := up_at hu 11 (by kernel_rfl)
      have y12 : L 12 = true := up_at hu 12 (by kernel_rfl)
      have e28 : (many gg_ L (VL z))[28]?.getD undef = .bool false := many_eval hgN (HOK.out z).1 (by rw [HVL.out]; simp [lookM, y7])
      have e32 : (many gg_ L (VL z))[32]?.getD undef = .agg #[.int .i64 x, .int .i64 y, .int .i64 ox, .int .i64 oy, .slice AC N0 cC] := many_eval hgN (HOK.out z).1 (by rw [HVL.out]; simp [lookM, y11])
      have e33 : (many gg_ L (VL z))[33]?.getD undef = .agg #[.int .i64 tx, .int .i64 ty, .int .i64 lv, .int .i64 bw, .int .i64 bh, .int .i64 pr, .int .i64 st, .int .i64 od, .int .i64 ly, .bool rct, .bool sop, .bool eph] := many_eval hgN (HOK.out z).1 (by rw [HVL.out]; simp [lookM, y12])
      refine opIn_call_g (f := 15) (args := #[.agg #[.int .i64 x, .int .i64 y, .int .i64 ox, .int .i64 oy, .slice AC N0 cC], .agg #[.int .i64 tx, .int .i64 ty, .int .i64 lv, .int .i64 bw, .int .i64 bh, .int .i64 pr, .int .i64 st, .int .i64 od, .int .i64 ly, .bool rct, .bool sop, .bool eph]]) (w' := w') (j := 7) (b := false) rfl rfl (by simp [yielded, many_some hgN (show 28 < 162 by decide) e28]) (fun c h => by cases h) (fun _ => trivial) rfl (by go_simp) ((callsIn_wide.2 (G1.out w' hcm)).mono ?_)
      rintro e w2 ⟨rfl, hb⟩
      exact ⟨_, rfl, z, by exact many_put (HOK.out _) 13 34 _ (by rw [HVL.out]; simp) hL, hcm.trans (hb.mono hcm.size), trivial⟩
    · skip
      have y7 : L 7 = true := up_at hu 7 (by kernel_rfl)
      have y10 : L 10 = true := up_at hu 10 (by kernel_rfl)
      have y13 : L 13 = true := up_at hu 13 (by kernel_rfl)
      have e28 : (many gg_ L (VL z))[28]?.getD undef = .bool false := many_eval hgN (HOK.out z).1 (by rw [HVL.out]; simp [lookM, y7])
      have e31 : (many gg_ L (VL z))[31]?.getD undef = .int .i64 F0 := many_eval hgN (HOK.out z).1 (by rw [HVL.out]; simp [lookM, y10])
      have e34 : (many gg_ L (VL z))[34]?.getD undef = .int .i64 F0 := many_eval hgN (HOK.out z).1 (by rw [HVL.out]; simp [lookM, y13])
      refine opIn_run_g (v := .bool false) (w' := w') (j := 7) (b := false) rfl rfl (by simp [yielded, many_some hgN (show 28 < 162 by decide) e28]) (fun c h => by cases h) (fun _ => trivial) ?_ ⟨z, by exact many_put (HOK.out _) 14 35 _ (by rw [HVL.out]; simp) hL, hcm, hph⟩
      go_simp
    · skip
      have y7 : L 7 = true := up_at hu 7 (by kernel_rfl)
      have y14 : L 14 = true := up_at hu 14 (by kernel_rfl)
      have e28 : (many gg_ L (VL z))[28]?.getD undef = .bool false := many_eval hgN (HOK.out z).1 (by rw [HVL.out]; simp [lookM, y7])
      have e35 : (many gg_ L (VL z))[35]?.getD undef = .bool false := many_eval hgN (HOK.out z).1 (by rw [HVL.out]; simp [lookM, y14])
      refine opIn_run (v := .bool false) (w' := w') rfl rfl (fun c h => by cases h) (fun _ => trivial) ?_ ⟨z, by exact many_put (HOK.out _) 15 36 _ (by rw [HVL.out]; simp) hL, hcm, hph⟩
      go_simp
  case fin =>
    intro L z w' hall hph
    obtain ⟨hcm, hph⟩ := hph
    rw [HVL.out]
    dsimp only [manyL, List.set_cons_zero, List.set_cons_succ]
    clear hall HVL HOK HVI
    obtain ⟨w4, hw4⟩ : ∃ u, u = w' := ⟨_, rfl⟩
    subst hw4
    have HM4 := Lib.hid (HM3.out.keep hcm)
    clear hcm C1 D1 E1 G1 HM3 HN0 HBW
    have MK1 := MK.out w4 (IsRow.below HR0.out (by rw [HWB.out]; exact HM4.out.bel))
    go_wp2_with (refine wpList_load_row rfl 29 _ rfl (B + 1 + 1) rfl 29 fc (0, 0) _ (show w4.heap[B + 1 + 1]? = _ from HM4.out.b 2 _ rfl) Try.underlying29 rfl (by rw [HFS.out]; kernel_rfl) ?_)
    refine MK1.mono ?_
    rintro e w5 ⟨A2, C2, cs, rfl, hcl, hCR, hKY, hb, hfx⟩
    try simp only at hfx
    try simp only at hKY
    have HW5 : Hid (Below w.heap.size w w5 ∧ Below B w w5) := Lib.hid ⟨(by rw [HWB.out]; exact HM4.out.bel.trans (hb.mono (by have h := HM4.out.sz; simp at h; omega))), HM4.out.bel.trans (hb.mono (by have h := HM4.out.sz; simp at h; omega))⟩
    have hN : 1 ≤ mkN f ∧ mkN f ≤ 4 := by
      have := within_rng f.nc 4 (by omega)
      unfold mkN
      omega
    have hD : 1 ≤ mkDP f ∧ mkDP f ≤ 10 := by
      have := within_rng f.dp 10 (by omega)
      unfold mkDP
      omega
    have hok := mkPN_ok f 12 (by omega)
    have hfr := frame_ok12 f hcl hKY hfx
    have hcn : ∀ c ∈ cs, c.n ≤ 4096 := fun c hc => by
      obtain ⟨k, hk, rfl⟩ := List.getElem_of_mem hc
      obtain ⟨o1, o2, o3, o4, _⟩ := hok
      exact key_n hD (by omega) (by omega) (hKY k cs[k] (List.getElem?_eq_getElem hk))
    have hCR2 : CRow w4.heap.size w5 (.slice A2 cs.length C2) cs := by rw [hcl]; exact hCR
    obtain ⟨ds2, hPic2, hds2⟩ := hCR2.pic (by omega) (by omega) (fun c hc => Nat.le_trans (hcn c hc) (by omega))
    have hfb := made_good f hcl hKY hds2
    obtain ⟨N, hNN⟩ : ∃ N, mkN f = N := ⟨_, rfl⟩
    rw [hNN] at hcl hN
    obtain ⟨M, hM⟩ : ∃ M, mkPN f 12 = M := ⟨_, rfl⟩
    rw [hM] at hfr hfb
    rw [hM, hNN]
    have HNN := Lib.hid hcn
    clear hok hfx hKY hCR hds2 hcn hM hNN MK MK1 hD
    obtain ⟨X, Y, OX, OY, TX, TY, LV, BW, BH, PR, ST, OD, LY, RC, SO, EP⟩ := M
    simp only at hfr hfb
    have HCR := Lib.hid hCR2
    have HPIC := Lib.hid hPic2
    have HCL := Lib.hid hcl
    have HGO : Hid (frameF X Y OX OY cs TX TY (LV : Int) (BW : Int) (BH : Int) (PR : Int) ST OD (LY : Int) RC = 0 ∧ firstBad X Y OX OY ds2 cs 0 = 0) := Lib.hid ⟨hfr, hfb⟩
    have HZ4 : Hid (B + 3 ≤ w4.heap.size ∧ w4.heap.size ≤ w5.heap.size) := Lib.hid ⟨by have h := HM4.out.sz; simpa using h, hb.size⟩
    clear hCR2 hPic2 hcl hfr hfb hb HM4 HR0 HFS
    go_upto_region 8 with fail
    obtain ⟨bm, hbm⟩ : ∃ bm, w5.heap.size = bm := ⟨_, rfl⟩
    obtain ⟨w6, hw6⟩ : ∃ W3, (w5.alloc (Obj.cells #[.int .i64 X, .int .i64 Y, .int .i64 OX, .int .i64 OY, .slice A2 N C2] 24)).alloc (Obj.cells #[.int .i64 TX, .int .i64 TY, .int .i64 (LV : Int), .int .i64 (BW : Int), .int .i64 (BH : Int), .int .i64 (PR : Int), .int .i64 ST, .int .i64 OD, .int .i64 (LY : Int), .bool RC, .bool SO, .bool EP] 26) = W3 := ⟨_, rfl⟩
    have HM6 : Hid (MkW w5 bm [(#[.int .i64 X, .int .i64 Y, .int .i64 OX, .int .i64 OY, .slice A2 N C2], 24), (#[.int .i64 TX, .int .i64 TY, .int .i64 (LV : Int), .int .i64 (BW : Int), .int .i64 (BH : Int), .int .i64 (PR : Int), .int .i64 ST, .int .i64 OD, .int .i64 (LY : Int), .bool RC, .bool SO, .bool EP], 26)] w6) := Lib.hid (by
      have h0 : MkW w5 bm [] w5 := ⟨fun i c e => by simp at e, Below.refl _ _, by simp; omega⟩
      have h1 := (h0.more (by simp; omega) #[.int .i64 X, .int .i64 Y, .int .i64 OX, .int .i64 OY, .slice A2 N C2] 24).more (by simp; omega) #[.int .i64 TX, .int .i64 TY, .int .i64 (LV : Int), .int .i64 (BW : Int), .int .i64 (BH : Int), .int .i64 (PR : Int), .int .i64 ST, .int .i64 OD, .int .i64 (LY : Int), .bool RC, .bool SO, .bool EP] 26
      rw [← hw6]; exact h1)
    rw [hw6, hbm]
    have HBM := Lib.hid hbm
    clear hw6 hbm
    have HP6 : Hid (Pic w6 A2 C2 cs ds2) := Lib.hid (HPIC.out.keep (by rw [HBM.out]; exact HM6.out.bel))
    have CK : Hid (∀ u, Below w6.heap.size w6 u → Calls Try.prog 12 #[.agg #[.int .i64 X, .int .i64 Y, .int .i64 OX, .int .i64 OY, .slice A2 N C2], .agg #[.int .i64 TX, .int .i64 TY, .int .i64 (LV : Int), .int .i64 (BW : Int), .int .i64 (BH : Int), .int .i64 (PR : Int), .int .i64 ST, .int .i64 OD, .int .i64 (LY : Int), .bool RC, .bool SO, .bool EP]] u fun e w' => e = .returned (.int .i64 0) ∧ Below u.heap.size u w') := Lib.hid fun u hu => by
      have p := HP6.out.keep hu
      have h := check_any ds2 X Y OX OY TX TY (LV : Int) (BW : Int) (BH : Int) (PR : Int) ST OD (LY : Int) RC SO EP p.at' p.cap p.dat
      rw [HGO.out.1, HGO.out.2, HCL.out] at h
      exact h
    have CE : Hid (∀ u, Below w6.heap.size w6 u → Calls Try.prog 14 #[.agg #[.int .i64 X, .int .i64 Y, .int .i64 OX, .int .i64 OY, .slice A2 N C2], .agg #[.int .i64 TX, .int .i64 TY, .int .i64 (LV : Int), .int .i64 (BW : Int), .int .i64 (BH : Int), .int .i64 (PR : Int), .int .i64 ST, .int .i64 OD, .int .i64 (LY : Int), .bool RC, .bool SO, .bool EP]] u fun e w' => e = .returned (.int .i64 0) ∧ Below u.heap.size u w') := Lib.hid fun u hu => by
      have p := HP6.out.keep hu
      have h := frame_any X Y OX OY TX TY (LV : Int) (BW : Int) (BH : Int) (PR : Int) ST OD (LY : Int) RC SO EP p.at' p.cap
      rw [HGO.out.1, HCL.out] at h
      exact h
    obtain ⟨g0, g1, g2, g3, g4⟩ := img_cells (show w6.heap[bm]? = some (.cells #[.int .i64 X, .int .i64 Y, .int .i64 OX, .int .i64 OY, .slice A2 N C2] 24 (0, 0)) from HM6.out.b 0 _ rfl)
    obtain ⟨k0, k1, k2, k3, k4, k5, k6, k7, k8, k9, k10, k11⟩ := par_cells (show w6.heap[bm + 1]? = some (.cells #[.int .i64 TX, .int .i64 TY, .int .i64 (LV : Int), .int .i64 (BW : Int), .int .i64 (BH : Int), .int .i64 (PR : Int), .int .i64 ST, .int .i64 OD, .int .i64 (LY : Int), .bool RC, .bool SO, .bool EP] 26 (0, 0)) from HM6.out.b 1 _ rfl)
    go_wp2_with fail
    refine (CK.out _ (Below.refl _ _)).mono ?_
    rintro e w7 ⟨rfl, hb⟩
    have HM7 := Lib.hid (HM6.out.keep hb)
    have HB7 := Lib.hid hb
    clear hb g0 g1 g2 g3 g4 k0 k1 k2 k3 k4 k5 k6 k7 k8 k9 k10 k11
    obtain ⟨g0, g1, g2, g3, g4⟩ := img_cells (show w7.heap[bm]? = some (.cells #[.int .i64 X, .int .i64 Y, .int .i64 OX, .int .i64 OY, .slice A2 N C2] 24 (0, 0)) from HM7.out.b 0 _ rfl)
    obtain ⟨k0, k1, k2, k3, k4, k5, k6, k7, k8, k9, k10, k11⟩ := par_cells (show w7.heap[bm + 1]? = some (.cells #[.int .i64 TX, .int .i64 TY, .int .i64 (LV : Int), .int .i64 (BW : Int), .int .i64 (BH : Int), .int .i64 (PR : Int), .int .i64 ST, .int .i64 OD, .int .i64 (LY : Int), .bool RC, .bool SO, .bool EP] 26 (0, 0)) from HM7.out.b 1 _ rfl)
    go_wp2_with fail
    refine (CE.out _ HB7.out).mono ?_
    rintro e w8 ⟨rfl, hb⟩
    have HM8 := Lib.hid (HM7.out.keep hb)
    have HB8 : Hid (Below w6.heap.size w6 w8) := Lib.hid (HB7.out.trans (hb.mono HB7.out.size))
    clear hb g0 g1 g2 g3 g4 k0 k1 k2 k3 k4 k5 k6 k7 k8 k9 k10 k11 CK CE HM7 HB7
    go_upto_region 10 with fail
    have HP8 : Hid (Pic w8 A2 C2 cs ds2) := Lib.hid (HP6.out.keep HB8.out)
    have HC8 : Hid (CRow w4.heap.size w8 (.slice A2 cs.length C2) cs) := Lib.hid (HCR.out.below (HBM.out ▸ HM8.out.bel))
    obtain ⟨cg, hcg⟩ : ∃ cg, A2 = some ⟨cg, 0, none⟩ := by
      obtain ⟨g, cap, hv, _⟩ := own_form HC8.out.own (by have := HCL.out; omega)
      injection hv with h1
      exact ⟨g, h1⟩
    subst hcg
    obtain ⟨g0, g1, g2, g3, g4⟩ := img_cells (show w8.heap[bm]? = some (.cells #[.int .i64 X, .int .i64 Y, .int .i64 OX, .int .i64 OY, .slice (some ⟨cg, 0, none⟩) N C2] 24 (0, 0)) from HM8.out.b 0 _ rfl)
    obtain ⟨k0, k1, k2, k3, k4, k5, k6, k7, k8, k9, k10, k11⟩ := par_cells (show w8.heap[bm + 1]? = some (.cells #[.int .i64 TX, .int .i64 TY, .int .i64 (LV : Int), .int .i64 (BW : Int), .int .i64 (BH : Int), .int .i64 (PR : Int), .int .i64 ST, .int .i64 OD, .int .i64 (LY : Int), .bool RC, .bool SO, .bool EP] 26 (0, 0)) from HM8.out.b 1 _ rfl)
    obtain ⟨ci, hci⟩ : ∃ ci : Nat, n % (N : Int) = (ci : Int) := ⟨(n % (N : Int)).toNat, by have := within_rng n N (by omega); omega⟩
    have hciN : ci < N := by have := within_rng n N (by omega); omega
    have CW : Hid (∀ u, Calls Try.prog 17 #[.int .i64 n, .int .i64 (N : Int)] u fun e w' => e = .returned (.int .i64 (ci : Int)) ∧ w' = u) := Lib.hid fun u => by
      have h := within12 n N u (by omega) (by omega)
      rw [hci] at h
      exact h.mono fun e w' hh => ⟨hh.1, hh.2.symm⟩
    have HCI := Lib.hid hci
    have hciI : (ci : Int) < (N : Int) ∧ (0 : Int) ≤ (ci : Int) := by omega
    obtain ⟨hci1, hci2⟩ := hciI
    clear hci
    obtain ⟨wd, hwd⟩ : ∃ wd, w8.drew = wd := ⟨_, rfl⟩
    have hdd : Below w8.heap.size w8 wd := by rw [← hwd]; exact below_drewN (Below.refl _ _) 1
    have HM9 := Lib.hid (HM8.out.keep hdd)
    have HP9 : Hid (Pic wd (some ⟨cg, 0, none⟩) C2 cs ds2) := Lib.hid (HP8.out.keep hdd)
    have HC9 : Hid (CRow w4.heap.size wd (.slice (some ⟨cg, 0, none⟩) cs.length C2) cs) := Lib.hid (HC8.out.below hdd)
    clear g0 g1 g2 g3 g4 k0 k1 k2 k3 k4 k5 k6 k7 k8 k9 k10 k11 hdd HM8 HP8 HC8
    obtain ⟨g0, g1, g2, g3, g4⟩ := img_cells (show wd.heap[bm]? = some (.cells #[.int .i64 X, .int .i64 Y, .int .i64 OX, .int .i64 OY, .slice (some ⟨cg, 0, none⟩) N C2] 24 (0, 0)) from HM9.out.b 0 _ rfl)
    obtain ⟨k0, k1, k2, k3, k4, k5, k6, k7, k8, k9, k10, k11⟩ := par_cells (show wd.heap[bm + 1]? = some (.cells #[.int .i64 TX, .int .i64 TY, .int .i64 (LV : Int), .int .i64 (BW : Int), .int .i64 (BH : Int), .int .i64 (PR : Int), .int .i64 ST, .int .i64 OD, .int .i64 (LY : Int), .bool RC, .bool SO, .bool EP] 26 (0, 0)) from HM9.out.b 1 _ rfl)
    refine wp_region_still_lit (by kernel_rfl) (by kernel_rfl) ?_
    rw [show ({ w8 with drawn := w8.drawn + 1 } : World) = wd from hwd]
    repeat still_step
    still_call (CW.out wd)
    repeat still_step
    refine wpStill_nil ?_
    clear hwd
    go_upto_region 11 with fail
    go_cut [14] from 16 to 161 (fun v wx => ∃ z, v = .slice (some ⟨z, 0, none⟩) 16 16 ∧ Hid (Below wd.heap.size wd wx ∧ wd.heap.size ≤ z ∧ wx.heap[z]? = some (.cells #[.pointer (some ⟨bm, 0, none⟩), .pointer (some ⟨bm, 1, none⟩), .pointer (some ⟨bm, 2, none⟩), .pointer (some ⟨bm, 3, none⟩), .pointer (some ⟨bm + 1, 0, none⟩), .pointer (some ⟨bm + 1, 1, none⟩), .pointer (some ⟨bm + 1, 2, none⟩), .pointer (some ⟨bm + 1, 3, none⟩), .pointer (some ⟨bm + 1, 4, none⟩), .pointer (some ⟨bm + 1, 5, none⟩), .pointer (some ⟨bm + 1, 6, none⟩), .pointer (some ⟨bm + 1, 7, none⟩), .pointer (some ⟨bm + 1, 8, none⟩), .pointer (some ⟨cg, ci * 5, none⟩), .pointer (some ⟨cg, ci * 5 + 2, none⟩), .pointer (some ⟨cg, ci * 5 + 3, none⟩)] 41 (0, 0))))
    case first =>
     clear g0 g1 g2 g3 g4 k0 k1 k2 k3 k4 k5 k6 k7 k8 k9 k10 k11
     obtain ⟨VL, hVL⟩ : ∃ VL : Nat → List (Nat × Nat × Value), VL = fun z => [(0, 60, .pointer (some ⟨bm, 0, none⟩)), (1, 61, .pointer (some ⟨bm, 1, none⟩)), (2, 62, .pointer (some ⟨bm, 2, none⟩)), (3, 63, .pointer (some ⟨bm, 3, none⟩)), (4, 64, .pointer (some ⟨bm + 1, 0, none⟩)), (5, 65, .pointer (some ⟨bm + 1, 1, none⟩)), (6, 66, .pointer (some ⟨bm + 1, 2, none⟩)), (7, 67, .pointer (some ⟨bm + 1, 3, none⟩)), (8, 68, .pointer (some ⟨bm + 1, 4, none⟩)), (9, 69, .pointer (some ⟨bm + 1, 5, none⟩)), (10, 70, .pointer (some ⟨bm + 1, 6, none⟩)), (11, 71, .pointer (some ⟨bm + 1, 7, none⟩)), (12, 72, .pointer (some ⟨bm + 1, 8, none⟩)), (13, 73, .pointer (some ⟨cg, ci * 5, none⟩)), (14, 74, .pointer (some ⟨cg, ci * 5, none⟩)), (15, 75, .pointer (some ⟨cg, ci * 5, none⟩)), (16, 76, .pointer (some ⟨cg, ci * 5, none⟩)), (17, 77, .pointer (some ⟨cg, ci * 5, none⟩)), (18, 78, .pointer (some ⟨cg, ci * 5 + 2, none⟩)), (19, 79, .pointer (some ⟨cg, ci * 5, none⟩)), (20, 80, .pointer (some ⟨cg, ci * 5, none⟩)), (21, 81, .pointer (some ⟨cg, ci * 5 + 3, none⟩)), (22, 82, .slice (some ⟨z, 0, none⟩) 16 16), (23, 14, .slice (some ⟨z, 0, none⟩) 16 16)] := ⟨_, rfl⟩
     have hok : ∀ z, manyOk 162 (VL z) := fun z => by rw [hVL]; exact ⟨by simp, by simp, by simp⟩
     have HVL := Lib.hid hVL
     have hvi : ∀ z, ∀ x ∈ VL z, x.1 < 24 := fun z => by rw [hVL]; simp
     have HOK := Lib.hid hok
     have HVI := Lib.hid hvi
     clear hVL hok hvi
     refine (wpIn_wide (n := 9)).1 (regionIn_many (N := 162) (w := _) VL (fun L z w' => (bif L 22 then (Below wd.heap.size wd w' ∧ wd.heap.size ≤ z ∧ w'.heap[z]? = some (.cells #[.pointer (some ⟨bm, 0, none⟩), .pointer (some ⟨bm, 1, none⟩), .pointer (some ⟨bm, 2, none⟩), .pointer (some ⟨bm, 3, none⟩), .pointer (some ⟨bm + 1, 0, none⟩), .pointer (some ⟨bm + 1, 1, none⟩), .pointer (some ⟨bm + 1, 2, none⟩), .pointer (some ⟨bm + 1, 3, none⟩), .pointer (some ⟨bm + 1, 4, none⟩), .pointer (some ⟨bm + 1, 5, none⟩), .pointer (some ⟨bm + 1, 6, none⟩), .pointer (some ⟨bm + 1, 7, none⟩), .pointer (some ⟨bm + 1, 8, none⟩), .pointer (some ⟨cg, ci * 5, none⟩), .pointer (some ⟨cg, ci * 5 + 2, none⟩), .pointer (some ⟨cg, ci * 5 + 3, none⟩)] 41 (0, 0))) else Below wd.heap.size wd w')) [(11, .pointer (some ⟨bm, 0, none⟩)), (12, .pointer (some ⟨bm + 1, 0, none⟩)), (13, .pointer (some ⟨cg, ci * 5, none⟩))] (by kernel_rfl) (by kernel_rfl) rfl (by simp only [List.forall_mem_cons, List.not_mem_nil, false_imp_iff, implies_true, and_true]; exact ⟨rfl, rfl, rfl⟩) HVI.out 0 ?start ?step ?fin)
     case start => exact below_drewN (Below.refl _ _) 1
     case step =>
       intro gg_ hgN hgF ii_ hii_ L z w' hph hs hu
       have hF11 := hgF (11, .pointer (some ⟨bm, 0, none⟩)) (by simp)
       have hF12 := hgF (12, .pointer (some ⟨bm + 1, 0, none⟩)) (by simp)
       have hF13 := hgF (13, .pointer (some ⟨cg, ci * 5, none⟩)) (by simp)
       have hL := hu.1
       have hii_ : ii_ < 24 := hii_
       clear hgF
       obtain rfl | rfl | rfl | rfl | rfl | rfl | rfl | rfl | rfl | rfl | rfl | rfl | rfl | rfl | rfl | rfl | rfl | rfl | rfl | rfl | rfl | rfl | rfl | rfl := (by omega : ii_ = 0 ∨ ii_ = 1 ∨ ii_ = 2 ∨ ii_ = 3 ∨ ii_ = 4 ∨ ii_ = 5 ∨ ii_ = 6 ∨ ii_ = 7 ∨ ii_ = 8 ∨ ii_ = 9 ∨ ii_ = 10 ∨ ii_ = 11 ∨ ii_ = 12 ∨ ii_ = 13 ∨ ii_ = 14 ∨ ii_ = 15 ∨ ii_ = 16 ∨ ii_ = 17 ∨ ii_ = 18 ∨ ii_ = 19 ∨ ii_ = 20 ∨ ii_ = 21 ∨ ii_ = 22 ∨ ii_ = 23)
       · skip
         have n22 : L 22 = false := not_yet hL fun h => shut_at hs 22 0 (by kernel_rfl) (h)
         have n23 : L 23 = false := not_yet hL fun h => shut_at hs 23 0 (by kernel_rfl) (h)
         try simp only [n22, n23, hL, cond_true, cond_false] at hph
         have e11 : (many gg_ L (VL z))[11]?.getD undef = .pointer (some ⟨bm, 0, none⟩) := many_out hgN (HOK.out z).1 (by rw [HVL.out]; rfl) hF11
         refine opIn_run (v := .pointer (some ⟨bm, 0, none⟩)) (w' := w') rfl rfl (fun c h => by cases h) (fun _ => trivial) ?_ ⟨z, by exact many_put (HOK.out _) 0 60 _ (by rw [HVL.out]; simp) hL, by simp only [upd, n22, n23, hL, Nat.reduceBEq, cond_true, cond_false]; exact hph⟩
         go_simp
       · skip
         have n22 : L 22 = false := not_yet hL fun h => shut_at hs 22 1 (by kernel_rfl) (h)
         have n23 : L 23 = false := not_yet hL fun h => shut_at hs 23 1 (by kernel_rfl) (h)
         try simp only [n22, n23, hL, cond_true, cond_false] at hph
         have e11 : (many gg_ L (VL z))[11]?.getD undef = .pointer (some ⟨bm, 0, none⟩) := many_out hgN (HOK.out z).1 (by rw [HVL.out]; rfl) hF11
         refine opIn_run (v := .pointer (some ⟨bm, 1, none⟩)) (w' := w') rfl rfl (fun c h => by cases h) (fun _ => trivial) ?_ ⟨z, by exact many_put (HOK.out _) 1 61 _ (by rw [HVL.out]; simp) hL, by simp only [upd, n22, n23, hL, Nat.reduceBEq, cond_true, cond_false]; exact hph⟩
         go_simp
       · skip
         have n22 : L 22 = false := not_yet hL fun h => shut_at hs 22 2 (by kernel_rfl) (h)
         have n23 : L 23 = false := not_yet hL fun h => shut_at hs 23 2 (by kernel_rfl) (h)
         try simp only [n22, n23, hL, cond_true, cond_false] at hph
         have e11 : (many gg_ L (VL z))[11]?.getD undef = .pointer (some ⟨bm, 0, none⟩) := many_out hgN (HOK.out z).1 (by rw [HVL.out]; rfl) hF11
         refine opIn_run (v := .pointer (some ⟨bm, 2, none⟩)) (w' := w') rfl rfl (fun c h => by cases h) (fun _ => trivial) ?_ ⟨z, by exact many_put (HOK.out _) 2 62 _ (by rw [HVL.out]; simp) hL, by simp only [upd, n22, n23, hL, Nat.reduceBEq, cond_true, cond_false]; exact hph⟩
         go_simp
       · skip
         have n22 : L 22 = false := not_yet hL fun h => shut_at hs 22 3 (by kernel_rfl) (h)
         have n23 : L 23 = false := not_yet hL fun h => shut_at hs 23 3 (by kernel_rfl) (h)
         try simp only [n22, n23, hL, cond_true, cond_false] at hph
         have e11 : (many gg_ L (VL z))[11]?.getD undef = .pointer (some ⟨bm, 0, none⟩) := many_out hgN (HOK.out z).1 (by rw [HVL.out]; rfl) hF11
         refine opIn_run (v := .pointer (some ⟨bm, 3, none⟩)) (w' := w') rfl rfl (fun c h => by cases h) (fun _ => trivial) ?_ ⟨z, by exact many_put (HOK.out _) 3 63 _ (by rw [HVL.out]; simp) hL, by simp only [upd, n22, n23, hL, Nat.reduceBEq, cond_true, cond_false]; exact hph⟩
         go_simp
       · skip
         have n22 : L 22 = false := not_yet hL fun h => shut_at hs 22 4 (by kernel_rfl) (h)
         have n23 : L 23 = false := not_yet hL fun h => shut_at hs 23 4 (by kernel_rfl) (h)
         try simp only [n22, n23, hL, cond_true, cond_false] at hph
         have e12 : (many gg_ L (VL z))[12]?.getD undef = .pointer (some ⟨bm + 1, 0, none⟩) := many_out hgN (HOK.out z).1 (by rw [HVL.out]; rfl) hF12
         refine opIn_run (v := .pointer (some ⟨bm + 1, 0, none⟩)) (w' := w') rfl rfl (fun c h => by cases h) (fun _ => trivial) ?_ ⟨z, by exact many_put (HOK.out _) 4 64 _ (by rw [HVL.out]; simp) hL, by simp only [upd, n22, n23, hL, Nat.reduceBEq, cond_true, cond_false]; exact hph⟩
         go_simp
       · skip
         have n22 : L 22 = false := not_yet hL fun h => shut_at hs 22 5 (by kernel_rfl) (h)
         have n23 : L 23 = false := not_yet hL fun h => shut_at hs 23 5 (by kernel_rfl) (h)
         try simp only [n22, n23, hL, cond_true, cond_false] at hph
         have e12 : (many gg_ L (VL z))[12]?.getD undef = .pointer (some ⟨bm + 1, 0, none⟩) := many_out hgN (HOK.out z).1 (by rw [HVL.out]; rfl) hF12
         refine opIn_run (v := .pointer (some ⟨bm + 1, 1, none⟩)) (w' := w') rfl rfl (fun c h => by cases h) (fun _ => trivial) ?_ ⟨z, by exact many_put (HOK.out _) 5 65 _ (by rw [HVL.out]; simp) hL, by simp only [upd, n22, n23, hL, Nat.reduceBEq, cond_true, cond_false]; exact hph⟩
         go_simp
       · skip
         have n22 : L 22 = false := not_yet hL fun h => shut_at hs 22 6 (by kernel_rfl) (h)
         have n23 : L 23 = false := not_yet hL fun h => shut_at hs 23 6 (by kernel_rfl) (h)
         try simp only [n22, n23, hL, cond_true, cond_false] at hph
         have e12 : (many gg_ L (VL z))[12]?.getD undef = .pointer (some ⟨bm + 1, 0, none⟩) := many_out hgN (HOK.out z).1 (by rw [HVL.out]; rfl) hF12
         refine opIn_run (v := .pointer (some ⟨bm + 1, 2, none⟩)) (w' := w') rfl rfl (fun c h => by cases h) (fun _ => trivial) ?_ ⟨z, by exact many_put (HOK.out _) 6 66 _ (by rw [HVL.out]; simp) hL, by simp only [upd, n22, n23, hL, Nat.reduceBEq, cond_true, cond_false]; exact hph⟩
         go_simp
       · skip
         have n22 : L 22 = false := not_yet hL fun h => shut_at hs 22 7 (by kernel_rfl) (h)
         have n23 : L 23 = false := not_yet hL fun h => shut_at hs 23 7 (by kernel_rfl) (h)
         try simp only [n22, n23, hL, cond_true, cond_false] at hph
         have e12 : (many gg_ L (VL z))[12]?.getD undef = .pointer (some ⟨bm + 1, 0, none⟩) := many_out hgN (HOK.out z).1 (by rw [HVL.out]; rfl) hF12
         refine opIn_run (v := .pointer (some ⟨bm + 1, 3, none⟩)) (w' := w') rfl rfl (fun c h => by cases h) (fun _ => trivial) ?_ ⟨z, by exact many_put (HOK.out _) 7 67 _ (by rw [HVL.out]; simp) hL, by simp only [upd, n22, n23, hL, Nat.reduceBEq, cond_true, cond_false]; exact hph⟩
         go_simp
       · skip
         have n22 : L 22 = false := not_yet hL fun h => shut_at hs 22 8 (by kernel_rfl) (h)
         have n23 : L 23 = false := not_yet hL fun h => shut_at hs 23 8 (by kernel_rfl) (h)
         try simp only [n22, n23, hL, cond_true, cond_false] at hph
         have e12 : (many gg_ L (VL z))[12]?.getD undef = .pointer (some ⟨bm + 1, 0, none⟩) := many_out hgN (HOK.out z).1 (by rw [HVL.out]; rfl) hF12
         refine opIn_run (v := .pointer (some ⟨bm + 1, 4, none⟩)) (w' := w') rfl rfl (fun c h => by cases h) (fun _ => trivial) ?_ ⟨z, by exact many_put (HOK.out _) 8 68 _ (by rw [HVL.out]; simp) hL, by simp only [upd, n22, n23, hL, Nat.reduceBEq, cond_true, cond_false]; exact hph⟩
         go_simp
       · skip
         have n22 : L 22 = false := not_yet hL fun h => shut_at hs 22 9 (by kernel_rfl) (h)
         have n23 : L 23 = false := not_yet hL fun h => shut_at hs 23 9 (by kernel_rfl) (h)
         try simp only [n22, n23, hL, cond_true, cond_false] at hph
         have e12 : (many gg_ L (VL z))[12]?.getD undef = .pointer (some ⟨bm + 1, 0, none⟩) := many_out hgN (HOK.out z).1 (by rw [HVL.out]; rfl) hF12
         refine opIn_run (v := .pointer (some ⟨bm + 1, 5, none⟩)) (w' := w') rfl rfl (fun c h => by cases h) (fun _ => trivial) ?_ ⟨z, by exact many_put (HOK.out _) 9 69 _ (by rw [HVL.out]; simp) hL, by simp only [upd, n22, n23, hL, Nat.reduceBEq, cond_true, cond_false]; exact hph⟩
         go_simp
       · skip
         have n22 : L 22 = false := not_yet hL fun h => shut_at hs 22 10 (by kernel_rfl) (h)
         have n23 : L 23 = false := not_yet hL fun h => shut_at hs 23 10 (by kernel_rfl) (h)
         try simp only [n22, n23, hL, cond_true, cond_false] at hph
         have e12 : (many gg_ L (VL z))[12]?.getD undef = .pointer (some ⟨bm + 1, 0, none⟩) := many_out hgN (HOK.out z).1 (by rw [HVL.out]; rfl) hF12
         refine opIn_run (v := .pointer (some ⟨bm + 1, 6, none⟩)) (w' := w') rfl rfl (fun c h => by cases h) (fun _ => trivial) ?_ ⟨z, by exact many_put (HOK.out _) 10 70 _ (by rw [HVL.out]; simp) hL, by simp only [upd, n22, n23, hL, Nat.reduceBEq, cond_true, cond_false]; exact hph⟩
         go_simp
       · skip
         have n22 : L 22 = false := not_yet hL fun h => shut_at hs 22 11 (by kernel_rfl) (h)
         have n23 : L 23 = false := not_yet hL fun h => shut_at hs 23 11 (by kernel_rfl) (h)
         try simp only [n22, n23, hL, cond_true, cond_false] at hph
         have e12 : (many gg_ L (VL z))[12]?.getD undef = .pointer (some ⟨bm + 1, 0, none⟩) := many_out hgN (HOK.out z).1 (by rw [HVL.out]; rfl) hF12
         refine opIn_run (v := .pointer (some ⟨bm + 1, 7, none⟩)) (w' := w') rfl rfl (fun c h => by cases h) (fun _ => trivial) ?_ ⟨z, by exact many_put (HOK.out _) 11 71 _ (by rw [HVL.out]; simp) hL, by simp only [upd, n22, n23, hL, Nat.reduceBEq, cond_true, cond_false]; exact hph⟩
         go_simp
       · skip
         have n22 : L 22 = false := not_yet hL fun h => shut_at hs 22 12 (by kernel_rfl) (h)
         have n23 : L 23 = false := not_yet hL fun h => shut_at hs 23 12 (by kernel_rfl) (h)
         try simp only [n22, n23, hL, cond_true, cond_false] at hph
         have e12 : (many gg_ L (VL z))[12]?.getD undef = .pointer (some ⟨bm + 1, 0, none⟩) := many_out hgN (HOK.out z).1 (by rw [HVL.out]; rfl) hF12
         refine opIn_run (v := .pointer (some ⟨bm + 1, 8, none⟩)) (w' := w') rfl rfl (fun c h => by cases h) (fun _ => trivial) ?_ ⟨z, by exact many_put (HOK.out _) 12 72 _ (by rw [HVL.out]; simp) hL, by simp only [upd, n22, n23, hL, Nat.reduceBEq, cond_true, cond_false]; exact hph⟩
         go_simp
       · skip
         have n22 : L 22 = false := not_yet hL fun h => shut_at hs 14 13 (by kernel_rfl) (shut_at hs 15 14 (by kernel_rfl) (shut_at hs 22 15 (by kernel_rfl) (h)))
         have n23 : L 23 = false := not_yet hL fun h => shut_at hs 23 13 (by kernel_rfl) (h)
         try simp only [n22, n23, hL, cond_true, cond_false] at hph
         have e13 : (many gg_ L (VL z))[13]?.getD undef = .pointer (some ⟨cg, ci * 5, none⟩) := many_out hgN (HOK.out z).1 (by rw [HVL.out]; rfl) hF13
         refine opIn_run (v := .pointer (some ⟨cg, ci * 5, none⟩)) (w' := w') rfl rfl (fun c h => by cases h) (fun _ => trivial) ?_ ⟨z, by exact many_put (HOK.out _) 13 73 _ (by rw [HVL.out]; simp) hL, by simp only [upd, n22, n23, hL, Nat.reduceBEq, cond_true, cond_false]; exact hph⟩
         go_simp
       · skip
         have y13 : L 13 = true := up_at hu 13 (by kernel_rfl)
         have n22 : L 22 = false := not_yet hL fun h => shut_at hs 15 14 (by kernel_rfl) (shut_at hs 22 15 (by kernel_rfl) (h))
         have n23 : L 23 = false := not_yet hL fun h => shut_at hs 23 14 (by kernel_rfl) (h)
         try simp only [y13, n22, n23, hL, cond_true, cond_false] at hph
         have e73 : (many gg_ L (VL z))[73]?.getD undef = .pointer (some ⟨cg, ci * 5, none⟩) := many_eval hgN (HOK.out z).1 (by rw [HVL.out]; simp [lookM, y13])
         refine opIn_run (v := .pointer (some ⟨cg, ci * 5, none⟩)) (w' := w') rfl rfl (fun c h => by cases h) (fun _ => trivial) ?_ ⟨z, by exact many_put (HOK.out _) 14 74 _ (by rw [HVL.out]; simp) hL, by simp only [upd, y13, n22, n23, hL, Nat.reduceBEq, cond_true, cond_false]; exact hph⟩
         go_simp
       · skip
         have y14 : L 14 = true := up_at hu 14 (by kernel_rfl)
         have n22 : L 22 = false := not_yet hL fun h => shut_at hs 22 15 (by kernel_rfl) (h)
         have n23 : L 23 = false := not_yet hL fun h => shut_at hs 23 15 (by kernel_rfl) (h)
         try simp only [y14, n22, n23, hL, cond_true, cond_false] at hph
         have e74 : (many gg_ L (VL z))[74]?.getD undef = .pointer (some ⟨cg, ci * 5, none⟩) := many_eval hgN (HOK.out z).1 (by rw [HVL.out]; simp [lookM, y14])
         refine opIn_run (v := .pointer (some ⟨cg, ci * 5, none⟩)) (w' := w') rfl rfl (fun c h => by cases h) (fun _ => trivial) ?_ ⟨z, by exact many_put (HOK.out _) 15 75 _ (by rw [HVL.out]; simp) hL, by simp only [upd, y14, n22, n23, hL, Nat.reduceBEq, cond_true, cond_false]; exact hph⟩
         go_simp
       · skip
         have n22 : L 22 = false := not_yet hL fun h => shut_at hs 17 16 (by kernel_rfl) (shut_at hs 18 17 (by kernel_rfl) (shut_at hs 22 18 (by kernel_rfl) (h)))
         have n23 : L 23 = false := not_yet hL fun h => shut_at hs 23 16 (by kernel_rfl) (h)
         try simp only [n22, n23, hL, cond_true, cond_false] at hph
         have e13 : (many gg_ L (VL z))[13]?.getD undef = .pointer (some ⟨cg, ci * 5, none⟩) := many_out hgN (HOK.out z).1 (by rw [HVL.out]; rfl) hF13
         refine opIn_run (v := .pointer (some ⟨cg, ci * 5, none⟩)) (w' := w') rfl rfl (fun c h => by cases h) (fun _ => trivial) ?_ ⟨z, by exact many_put (HOK.out _) 16 76 _ (by rw [HVL.out]; simp) hL, by simp only [upd, n22, n23, hL, Nat.reduceBEq, cond_true, cond_false]; exact hph⟩
         go_simp
       · skip
         have y16 : L 16 = true := up_at hu 16 (by kernel_rfl)
         have n22 : L 22 = false := not_yet hL fun h => shut_at hs 18 17 (by kernel_rfl) (shut_at hs 22 18 (by kernel_rfl) (h))
         have n23 : L 23 = false := not_yet hL fun h => shut_at hs 23 17 (by kernel_rfl) (h)
         try simp only [y16, n22, n23, hL, cond_true, cond_false] at hph
         have e76 : (many gg_ L (VL z))[76]?.getD undef = .pointer (some ⟨cg, ci * 5, none⟩) := many_eval hgN (HOK.out z).1 (by rw [HVL.out]; simp [lookM, y16])
         refine opIn_run (v := .pointer (some ⟨cg, ci * 5, none⟩)) (w' := w') rfl rfl (fun c h => by cases h) (fun _ => trivial) ?_ ⟨z, by exact many_put (HOK.out _) 17 77 _ (by rw [HVL.out]; simp) hL, by simp only [upd, y16, n22, n23, hL, Nat.reduceBEq, cond_true, cond_false]; exact hph⟩
         go_simp
       · skip
         have y17 : L 17 = true := up_at hu 17 (by kernel_rfl)
         have n22 : L 22 = false := not_yet hL fun h => shut_at hs 22 18 (by kernel_rfl) (h)
         have n23 : L 23 = false := not_yet hL fun h => shut_at hs 23 18 (by kernel_rfl) (h)
         try simp only [y17, n22, n23, hL, cond_true, cond_false] at hph
         have e77 : (many gg_ L (VL z))[77]?.getD undef = .pointer (some ⟨cg, ci * 5, none⟩) := many_eval hgN (HOK.out z).1 (by rw [HVL.out]; simp [lookM, y17])
         refine opIn_run (v := .pointer (some ⟨cg, ci * 5 + 2, none⟩)) (w' := w') rfl rfl (fun c h => by cases h) (fun _ => trivial) ?_ ⟨z, by exact many_put (HOK.out _) 18 78 _ (by rw [HVL.out]; simp) hL, by simp only [upd, y17, n22, n23, hL, Nat.reduceBEq, cond_true, cond_false]; exact hph⟩
         go_simp
       · skip
         have n22 : L 22 = false := not_yet hL fun h => shut_at hs 20 19 (by kernel_rfl) (shut_at hs 21 20 (by kernel_rfl) (shut_at hs 22 21 (by kernel_rfl) (h)))
         have n23 : L 23 = false := not_yet hL fun h => shut_at hs 23 19 (by kernel_rfl) (h)
         try simp only [n22, n23, hL, cond_true, cond_false] at hph
         have e13 : (many gg_ L (VL z))[13]?.getD undef = .pointer (some ⟨cg, ci * 5, none⟩) := many_out hgN (HOK.out z).1 (by rw [HVL.out]; rfl) hF13
         refine opIn_run (v := .pointer (some ⟨cg, ci * 5, none⟩)) (w' := w') rfl rfl (fun c h => by cases h) (fun _ => trivial) ?_ ⟨z, by exact many_put (HOK.out _) 19 79 _ (by rw [HVL.out]; simp) hL, by simp only [upd, n22, n23, hL, Nat.reduceBEq, cond_true, cond_false]; exact hph⟩
         go_simp
       · skip
         have y19 : L 19 = true := up_at hu 19 (by kernel_rfl)
         have n22 : L 22 = false := not_yet hL fun h => shut_at hs 21 20 (by kernel_rfl) (shut_at hs 22 21 (by kernel_rfl) (h))
         have n23 : L 23 = false := not_yet hL fun h => shut_at hs 23 20 (by kernel_rfl) (h)
         try simp only [y19, n22, n23, hL, cond_true, cond_false] at hph
         have e79 : (many gg_ L (VL z))[79]?.getD undef = .pointer (some ⟨cg, ci * 5, none⟩) := many_eval hgN (HOK.out z).1 (by rw [HVL.out]; simp [lookM, y19])
         refine opIn_run (v := .pointer (some ⟨cg, ci * 5, none⟩)) (w' := w') rfl rfl (fun c h => by cases h) (fun _ => trivial) ?_ ⟨z, by exact many_put (HOK.out _) 20 80 _ (by rw [HVL.out]; simp) hL, by simp only [upd, y19, n22, n23, hL, Nat.reduceBEq, cond_true, cond_false]; exact hph⟩
         go_simp
       · skip
         have y20 : L 20 = true := up_at hu 20 (by kernel_rfl)
         have n22 : L 22 = false := not_yet hL fun h => shut_at hs 22 21 (by kernel_rfl) (h)
         have n23 : L 23 = false := not_yet hL fun h => shut_at hs 23 21 (by kernel_rfl) (h)
         try simp only [y20, n22, n23, hL, cond_true, cond_false] at hph
         have e80 : (many gg_ L (VL z))[80]?.getD undef = .pointer (some ⟨cg, ci * 5, none⟩) := many_eval hgN (HOK.out z).1 (by rw [HVL.out]; simp [lookM, y20])
         refine opIn_run (v := .pointer (some ⟨cg, ci * 5 + 3, none⟩)) (w' := w') rfl rfl (fun c h => by cases h) (fun _ => trivial) ?_ ⟨z, by exact many_put (HOK.out _) 21 81 _ (by rw [HVL.out]; simp) hL, by simp only [upd, y20, n22, n23, hL, Nat.reduceBEq, cond_true, cond_false]; exact hph⟩
         go_simp
       · skip
         have y0 : L 0 = true := up_at hu 0 (by kernel_rfl)
         have y1 : L 1 = true := up_at hu 1 (by kernel_rfl)
         have y2 : L 2 = true := up_at hu 2 (by kernel_rfl)
         have y3 : L 3 = true := up_at hu 3 (by kernel_rfl)
         have y4 : L 4 = true := up_at hu 4 (by kernel_rfl)
         have y5 : L 5 = true := up_at hu 5 (by kernel_rfl)
         have y6 : L 6 = true := up_at hu 6 (by kernel_rfl)
         have y7 : L 7 = true := up_at hu 7 (by kernel_rfl)
         have y8 : L 8 = true := up_at hu 8 (by kernel_rfl)
         have y9 : L 9 = true := up_at hu 9 (by kernel_rfl)
         have y10 : L 10 = true := up_at hu 10 (by kernel_rfl)
         have y11 : L 11 = true := up_at hu 11 (by kernel_rfl)
         have y12 : L 12 = true := up_at hu 12 (by kernel_rfl)
         have y15 : L 15 = true := up_at hu 15 (by kernel_rfl)
         have y18 : L 18 = true := up_at hu 18 (by kernel_rfl)
         have y21 : L 21 = true := up_at hu 21 (by kernel_rfl)
         have n23 : L 23 = false := not_yet hL fun h => shut_at hs 23 22 (by kernel_rfl) (h)
         try simp only [y0, y1, y2, y3, y4, y5, y6, y7, y8, y9, y10, y11, y12, y15, y18, y21, n23, hL, cond_true, cond_false] at hph
         have e60 : (many gg_ L (VL z))[60]?.getD undef = .pointer (some ⟨bm, 0, none⟩) := many_eval hgN (HOK.out z).1 (by rw [HVL.out]; simp [lookM, y0])
         have e61 : (many gg_ L (VL z))[61]?.getD undef = .pointer (some ⟨bm, 1, none⟩) := many_eval hgN (HOK.out z).1 (by rw [HVL.out]; simp [lookM, y1])
         have e62 : (many gg_ L (VL z))[62]?.getD undef = .pointer (some ⟨bm, 2, none⟩) := many_eval hgN (HOK.out z).1 (by rw [HVL.out]; simp [lookM, y2])
         have e63 : (many gg_ L (VL z))[63]?.getD undef = .pointer (some ⟨bm, 3, none⟩) := many_eval hgN (HOK.out z).1 (by rw [HVL.out]; simp [lookM, y3])
         have e64 : (many gg_ L (VL z))[64]?.getD undef = .pointer (some ⟨bm + 1, 0, none⟩) := many_eval hgN (HOK.out z).1 (by rw [HVL.out]; simp [lookM, y4])
         have e65 : (many gg_ L (VL z))[65]?.getD undef = .pointer (some ⟨bm + 1, 1, none⟩) := many_eval hgN (HOK.out z).1 (by rw [HVL.out]; simp [lookM, y5])
         have e66 : (many gg_ L (VL z))[66]?.getD undef = .pointer (some ⟨bm + 1, 2, none⟩) := many_eval hgN (HOK.out z).1 (by rw [HVL.out]; simp [lookM, y6])
         have e67 : (many gg_ L (VL z))[67]?.getD undef = .pointer (some ⟨bm + 1, 3, none⟩) := many_eval hgN (HOK.out z).1 (by rw [HVL.out]; simp [lookM, y7])
         have e68 : (many gg_ L (VL z))[68]?.getD undef = .pointer (some ⟨bm + 1, 4, none⟩) := many_eval hgN (HOK.out z).1 (by rw [HVL.out]; simp [lookM, y8])
         have e69 : (many gg_ L (VL z))[69]?.getD undef = .pointer (some ⟨bm + 1, 5, none⟩) := many_eval hgN (HOK.out z).1 (by rw [HVL.out]; simp [lookM, y9])
         have e70 : (many gg_ L (VL z))[70]?.getD undef = .pointer (some ⟨bm + 1, 6, none⟩) := many_eval hgN (HOK.out z).1 (by rw [HVL.out]; simp [lookM, y10])
         have e71 : (many gg_ L (VL z))[71]?.getD undef = .pointer (some ⟨bm + 1, 7, none⟩) := many_eval hgN (HOK.out z).1 (by rw [HVL.out]; simp [lookM, y11])
         have e72 : (many gg_ L (VL z))[72]?.getD undef = .pointer (some ⟨bm + 1, 8, none⟩) := many_eval hgN (HOK.out z).1 (by rw [HVL.out]; simp [lookM, y12])
         have e75 : (many gg_ L (VL z))[75]?.getD undef = .pointer (some ⟨cg, ci * 5, none⟩) := many_eval hgN (HOK.out z).1 (by rw [HVL.out]; simp [lookM, y15])
         have e78 : (many gg_ L (VL z))[78]?.getD undef = .pointer (some ⟨cg, ci * 5 + 2, none⟩) := many_eval hgN (HOK.out z).1 (by rw [HVL.out]; simp [lookM, y18])
         have e81 : (many gg_ L (VL z))[81]?.getD undef = .pointer (some ⟨cg, ci * 5 + 3, none⟩) := many_eval hgN (HOK.out z).1 (by rw [HVL.out]; simp [lookM, y21])
         refine opIn_run (v := (.slice (some ⟨w'.heap.size, 0, none⟩) 16 16)) (w' := w'.alloc (.cells #[.pointer (some ⟨bm, 0, none⟩), .pointer (some ⟨bm, 1, none⟩), .pointer (some ⟨bm, 2, none⟩), .pointer (some ⟨bm, 3, none⟩), .pointer (some ⟨bm + 1, 0, none⟩), .pointer (some ⟨bm + 1, 1, none⟩), .pointer (some ⟨bm + 1, 2, none⟩), .pointer (some ⟨bm + 1, 3, none⟩), .pointer (some ⟨bm + 1, 4, none⟩), .pointer (some ⟨bm + 1, 5, none⟩), .pointer (some ⟨bm + 1, 6, none⟩), .pointer (some ⟨bm + 1, 7, none⟩), .pointer (some ⟨bm + 1, 8, none⟩), .pointer (some ⟨cg, ci * 5, none⟩), .pointer (some ⟨cg, ci * 5 + 2, none⟩), .pointer (some ⟨cg, ci * 5 + 3, none⟩)] 41)) rfl rfl (fun c h => by cases h) (fun _ => trivial) ?_ ⟨w'.heap.size, by rw [show many gg_ L (VL z) = many gg_ L (VL w'.heap.size) from by rw [HVL.out]; simp only [many, y0, y1, y2, y3, y4, y5, y6, y7, y8, y9, y10, y11, y12, y15, y18, y21, n23, hL, cond_false, cond_true]]; exact many_put (HOK.out _) 22 82 _ (by rw [HVL.out]; simp) hL, by simp only [upd, y0, y1, y2, y3, y4, y5, y6, y7, y8, y9, y10, y11, y12, y15, y18, y21, n23, hL, Nat.reduceBEq, cond_true, cond_false]; exact ⟨hph.alloc hph.size _, hph.size, World.alloc_heap_new w' _⟩⟩
         clear hph
         go_simp
       · skip
         have y0 : L 0 = true := up_at hu 0 (by kernel_rfl)
         have y1 : L 1 = true := up_at hu 1 (by kernel_rfl)
         have y2 : L 2 = true := up_at hu 2 (by kernel_rfl)
         have y3 : L 3 = true := up_at hu 3 (by kernel_rfl)
         have y4 : L 4 = true := up_at hu 4 (by kernel_rfl)
         have y5 : L 5 = true := up_at hu 5 (by kernel_rfl)
         have y6 : L 6 = true := up_at hu 6 (by kernel_rfl)
         have y7 : L 7 = true := up_at hu 7 (by kernel_rfl)
         have y8 : L 8 = true := up_at hu 8 (by kernel_rfl)
         have y9 : L 9 = true := up_at hu 9 (by kernel_rfl)
         have y10 : L 10 = true := up_at hu 10 (by kernel_rfl)
         have y11 : L 11 = true := up_at hu 11 (by kernel_rfl)
         have y12 : L 12 = true := up_at hu 12 (by kernel_rfl)
         have y13 : L 13 = true := up_at hu 13 (by kernel_rfl)
         have y14 : L 14 = true := up_at hu 14 (by kernel_rfl)
         have y15 : L 15 = true := up_at hu 15 (by kernel_rfl)
         have y16 : L 16 = true := up_at hu 16 (by kernel_rfl)
         have y17 : L 17 = true := up_at hu 17 (by kernel_rfl)
         have y18 : L 18 = true := up_at hu 18 (by kernel_rfl)
         have y19 : L 19 = true := up_at hu 19 (by kernel_rfl)
         have y20 : L 20 = true := up_at hu 20 (by kernel_rfl)
         have y21 : L 21 = true := up_at hu 21 (by kernel_rfl)
         have y22 : L 22 = true := up_at hu 22 (by kernel_rfl)
         try simp only [y0, y1, y2, y3, y4, y5, y6, y7, y8, y9, y10, y11, y12, y13, y14, y15, y16, y17, y18, y19, y20, y21, y22, hL, cond_true, cond_false] at hph
         have e82 : (many gg_ L (VL z))[82]?.getD undef = .slice (some ⟨z, 0, none⟩) 16 16 := many_eval hgN (HOK.out z).1 (by rw [HVL.out]; simp [lookM, y22])
         refine opIn_run (v := .slice (some ⟨z, 0, none⟩) 16 16) (w' := w') rfl rfl (fun c h => by cases h) (fun _ => trivial) ?_ ⟨z, by exact many_put (HOK.out _) 23 14 _ (by rw [HVL.out]; simp) hL, by simp only [upd, y0, y1, y2, y3, y4, y5, y6, y7, y8, y9, y10, y11, y12, y13, y14, y15, y16, y17, y18, y19, y20, y21, y22, hL, Nat.reduceBEq, cond_true, cond_false]; exact hph⟩
         go_simp
     case fin =>
       intro L z w' hall hph
       have l22 := hall 22 (by decide)
       simp only [l22, cond_true] at hph
       clear l22
       rw [HVL.out]
       dsimp only [manyL, List.set_cons_zero, List.set_cons_succ]
       clear hall HVL HOK HVI
       have HPH := Lib.hid hph
       clear hph
       go_wp2_with fail
       go_meet
       exact ⟨_, rfl, HPH⟩
    case rest =>
    obtain ⟨lb, rfl, HLB⟩ := hcut
    obtain ⟨W, hW⟩ : ∃ W, W = wc := ⟨_, rfl⟩
    subst hW
    obtain ⟨kk, hkk⟩ : ∃ kk : Nat, wh % (20 : Int) = (kk : Int) := ⟨(wh % (20 : Int)).toNat, by have := within_rng wh 20 (by omega); omega⟩
    have hkk20 : kk < 20 := by have := within_rng wh 20 (by omega); omega
    have CW2 : Hid (∀ u, Calls Try.prog 17 #[.int .i64 wh, .int .i64 20] u fun e w' => e = .returned (.int .i64 (kk : Int)) ∧ w' = u) := Lib.hid fun u => by
      have h := within12 wh 20 u (by omega) (by omega)
      rw [hkk] at h
      exact h.mono fun e w' hh => ⟨hh.1, hh.2.symm⟩
    clear hkk CW g0 g1 g2 g3 g4 k0 k1 k2 k3 k4 k5 k6 k7 k8 k9 k10 k11
    go_wp2_with fail
    obtain ⟨V, hV⟩ : ∃ u, u = W := ⟨_, rfl⟩
    subst hV
    have HM10 := Lib.hid (HM9.out.keep HLB.out.1)
    have HP10 : Hid (Pic V (some ⟨cg, 0, none⟩) C2 cs ds2) := Lib.hid (HP9.out.keep HLB.out.1)
    have HC10 : Hid (CRow w4.heap.size V (.slice (some ⟨cg, 0, none⟩) cs.length C2) cs) := Lib.hid (HC9.out.below HLB.out.1)
    have HL10 : Hid (V.heap[lb]? = some (.cells #[.pointer (some ⟨bm, 0, none⟩), .pointer (some ⟨bm, 1, none⟩), .pointer (some ⟨bm, 2, none⟩), .pointer (some ⟨bm, 3, none⟩), .pointer (some ⟨bm + 1, 0, none⟩), .pointer (some ⟨bm + 1, 1, none⟩), .pointer (some ⟨bm + 1, 2, none⟩), .pointer (some ⟨bm + 1, 3, none⟩), .pointer (some ⟨bm + 1, 4, none⟩), .pointer (some ⟨bm + 1, 5, none⟩), .pointer (some ⟨bm + 1, 6, none⟩), .pointer (some ⟨bm + 1, 7, none⟩), .pointer (some ⟨bm + 1, 8, none⟩), .pointer (some ⟨cg, ci * 5, none⟩), .pointer (some ⟨cg, ci * 5 + 2, none⟩), .pointer (some ⟨cg, ci * 5 + 3, none⟩)] 41 (0, 0)) ∧ lb < V.heap.size ∧ bm + 2 ≤ lb) := Lib.hid (by
      have hl : lb < V.heap.size := (Array.getElem?_eq_some_iff.1 HLB.out.2.2).1
      have h2 := HM9.out.sz
      simp at h2
      have h3 := HLB.out.2.1
      exact ⟨HLB.out.2.2, hl, by omega⟩)
    clear HM9 HP9 HC9 HLB
    refine (CW2.out _).mono ?_
    rintro e v9 ⟨rfl, hv9⟩
    subst hv9
    clear CW2
    go_upto_block 0 with fail
    go_cut [] from 83 to 161 (fun wx => Hid (PicAt w bm wx))
    case first =>
     obtain ⟨c, hc⟩ : ∃ c, cs[ci]? = some c := ⟨_, List.getElem?_eq_getElem (by have := HCL.out; omega)⟩
     obtain ⟨cg', cp', hv_, hgl_, hgs_, hcc_, hcm_, q0, q1, q2, q3, q4⟩ := HC10.out.cells hc
     have hcge : cg' = cg := by
       injection hv_ with e
       injection e with e
       injection e with e
       exact e.symm
     rw [hcge] at q0 q1 q2 q3 q4 hgl_ hgs_
     clear hcge hv_
     obtain ⟨cg5, _, hv5, _, hg5, _⟩ := HCR.out.cells hc
     have hcgb : cg < bm := by
       injection hv5 with e
       injection e with e
       injection e with e
       have := HBM.out
       omega
     clear hg5 hv5
     obtain ⟨cur, hcur⟩ := HC10.out.blk
     have HI1 : Hid (v9.heap[bm]? = some (.cells #[.int .i64 X, .int .i64 Y, .int .i64 OX, .int .i64 OY, .slice (some ⟨cg, 0, none⟩) N C2] 24 (0, 0))) := Lib.hid (HM10.out.b 0 _ rfl)
     have HI2 : Hid (v9.heap[bm + 1]? = some (.cells #[.int .i64 TX, .int .i64 TY, .int .i64 (LV : Int), .int .i64 (BW : Int), .int .i64 (BH : Int), .int .i64 (PR : Int), .int .i64 ST, .int .i64 OD, .int .i64 (LY : Int), .bool RC, .bool SO, .bool EP] 26 (0, 0))) := Lib.hid (HM10.out.b 1 _ rfl)
     have HBV : Hid (Below w.heap.size w v9 ∧ w.heap.size ≤ bm ∧ w.heap.size ≤ cg ∧ cg < bm ∧ cg < v9.heap.size) := Lib.hid ⟨HW5.out.1.trans (HM10.out.bel.mono (by have h1 := HBM.out; have h2 := HWB.out; have h3 := HZ4.out; omega)), by have h1 := HBM.out; have h2 := HWB.out; have h3 := HZ4.out; omega, by have h2 := HWB.out; have h3 := HZ4.out; omega, hcgb, hgs_⟩
     have HQ : Hid (v9.cell? ⟨cg, ci * 5, none⟩ = some (.int .i64 c.d) ∧ v9.cell? ⟨cg, ci * 5 + 2, none⟩ = some (.int .i64 c.dx) ∧ v9.cell? ⟨cg, ci * 5 + 3, none⟩ = some (.int .i64 c.dy) ∧ v9.cell? ⟨cg, ci * 5 + 4, none⟩ = some (.slice c.A c.n c.cap)) := Lib.hid ⟨q0, q2, q3, q4⟩
     have HCU : Hid (v9.heap[cg]? = some (.cells cur 39 (0, 0))) := Lib.hid hcur
     have HC := Lib.hid hc
     clear hcgb hgs_ hgl_ q0 q1 q2 q3 q4 hcur hc HM10 HCR HPIC HGO
     rcases Nat.lt_or_ge kk 16 with h16 | h16
     · obtain ⟨pb, po, m, p1, p2, p3, p4⟩ := ptr_at (lo := w.heap.size) HL10.out.1 HI1.out HI2.out HQ.out.1 HQ.out.2.1 HQ.out.2.2.1 HCU.out HBV.out.2.1 HBV.out.2.2.1 kk h16
       have hk16 : (kk : Int) < 16 := by omega
       have hk0 : (0 : Int) ≤ (kk : Int) := by omega
       have HG : Hid (PicAt w bm (v9.setCell ⟨pb, po, none⟩ (.int .i64 n))) := Lib.hid (pic_at_set HBV.out.1 (by rw [HCL.out]; exact HI1.out) HI2.out HP10.out p2 p4 n)
       clear HI1 HI2 HQ HCU HC HC10 HP10 HBV
       go_wp2_with fail
       go_meet
       exact HG
     · obtain rfl | rfl | rfl | rfl := (by omega : kk = 16 ∨ kk = 17 ∨ kk = 18 ∨ kk = 19)
       · clear h16 hkk20
         obtain ⟨l, hl1, _⟩ := HC10.out.dat c (List.mem_of_getElem? HC.out)
         have HD : Hid (v9.ownsRow w4.heap.size 3 1 (.slice c.A c.n c.cap) c.n (l.map (Value.int .i64)) ∧ c.n ≤ 100000 ∧ w4.heap.size ≤ v9.heap.size) := Lib.hid ⟨hl1, Nat.le_trans (HNN.out c (List.mem_of_getElem? HC.out)) (by omega), by have h3 := HZ4.out; have h4 := HBV.out; have h5 := HBM.out; have h6 := (Array.getElem?_eq_some_iff.1 HI1.out).1; omega⟩
         have HNE : Hid (∀ k, (Value.slice c.A c.n c.cap).ownBlock = some k → w.heap.size ≤ k ∧ k ≠ bm ∧ k ≠ bm + 1 ∧ k ≠ cg) := Lib.hid (fun k hk => by
           obtain ⟨b1, b2, cu, b3⟩ := own_blk HD.out.1 hk
           refine ⟨by have h2 := HWB.out; have h3 := HZ4.out; omega, fun e => ?_, fun e => ?_, fun e => ?_⟩
           · rw [e, HI1.out] at b3
             simp at b3
           · rw [e, HI2.out] at b3
             simp at b3
           · rw [e, HCU.out] at b3
             simp at b3)
         clear hl1
         have hba : Below v9.heap.size v9 (v9.alloc (.cells #[.int .i64 0] 3)) := (Below.refl _ _).alloc (Nat.le_refl _) _
         have hza : (v9.alloc (.cells #[.int .i64 0] 3)).heap[v9.heap.size]? = some (.cells #[.int .i64 0] 3 (0, 0)) := World.alloc_heap_new v9 _
         obtain ⟨v_, w_, hr_, ho_, hg_, _, hi_⟩ := app_ints (ownsRow_keep HD.out.1 hba.size (fun k e => hba.block k (own_lt HD.out.1 e).2)) hza (Nat.le_trans HD.out.2.2 hba.size) HD.out.2.1
         obtain ⟨gn, cn2, rfl, _⟩ := own_form ho_ (by omega)
         have hne := own_ne (v' := Value.slice (some ⟨cg, 0, none⟩) cs.length C2) (ownsRow_keep HD.out.1 hba.size (fun k e => hba.block k (own_lt HD.out.1 e).2)) ((HC10.out.below hba).own) (by decide)
         have kg : w_.heap[cg]? = v9.heap[cg]? := (hg_.block cg (Nat.lt_of_lt_of_le HBV.out.2.2.2.2 hba.size) (fun e => hne cg e.symm rfl)).trans (hba.block cg HBV.out.2.2.2.2)
         have hcell0 : v9.cell? ⟨cg, ci * 5 + 4, none⟩ = some (.slice c.A c.n c.cap) := HQ.out.2.2.2
         have hcell : w_.cell? ⟨cg, ci * 5 + 4, none⟩ = some (.slice c.A c.n c.cap) := (World.cell?_of_block kg).trans hcell0
         have kf : w_.frozen? ⟨cg, ci * 5 + 4, none⟩ = false := by simp [World.frozen?, kg, HCU.out]
         have HG : Hid (PicAt w bm (w_.setCell ⟨cg, ci * 5 + 4, none⟩ (.slice (some ⟨gn, 0, none⟩) (c.n + 1) cn2))) := Lib.hid (pic_at_data (lo := w4.heap.size) (ys := l ++ [0]) HBV.out.1 (by rw [HCL.out]; exact HI1.out) HI2.out HP10.out HC.out (Nat.le_trans (HNN.out c (List.mem_of_getElem? HC.out)) (by omega)) hba hi_ hg_ HNE.out HBV.out.2.2.1 HBV.out.2.2.2.1 (by rw [List.map_append]; exact ho_))
         clear HNE HD HI1 HI2 HQ HCU HC HC10 HP10 HBV kg hne ho_ hg_ hi_ hza hba
         obtain ⟨cA, hcA⟩ : ∃ q, c.A = q := ⟨_, rfl⟩
         obtain ⟨cn, hcn⟩ : ∃ q, c.n = q := ⟨_, rfl⟩
         obtain ⟨cc, hccap⟩ : ∃ q, c.cap = q := ⟨_, rfl⟩
         rw [hcA, hcn, hccap] at hcell hcell0 hr_
         rw [hcn] at HG
         clear hcA hcn hccap
         go_upto_region 17 with fail
         go_wp2_with fail
         go_meet
         exact HG
       · clear h16 hkk20
         obtain ⟨l, hl1, _⟩ := HC10.out.dat c (List.mem_of_getElem? HC.out)
         rcases Nat.eq_zero_or_pos c.n with h0 | h0
         · have e4 := HQ.out.2.2.2
           rw [h0] at e4
           have hcell : v9.cell? ⟨bm, 4, none⟩ = some (.slice (some ⟨cg, 0, none⟩) cs.length C2) := by
             have h := (img_cells HI1.out).2.2.2.2
             rw [HCL.out]
             exact h
           obtain ⟨A_, C_, w_, hr_, ho_, hg_⟩ := app_twice HC10.out (by have h3 := HZ4.out; have h4 := HBV.out; have h5 := HBM.out; have h6 := (Array.getElem?_eq_some_iff.1 HI1.out).1; omega) (by have h1 := HCL.out; omega) (by have h1 := HCL.out; omega)
           have kb : w_.heap[bm]? = v9.heap[bm]? := hg_.block bm (Array.getElem?_eq_some_iff.1 HI1.out).1 (fun e => by injection e with e; have := HBV.out.2.2.2.1; omega)
           have hcell2 : w_.cell? ⟨bm, 4, none⟩ = some (.slice (some ⟨cg, 0, none⟩) N C2) := (img_cells (kb.trans HI1.out)).2.2.2.2
           have kf : w_.frozen? ⟨bm, 4, none⟩ = false := by simp [World.frozen?, kb, HI1.out]
           have HG : Hid (PicAt w bm (w_.setCell ⟨bm, 4, none⟩ (.slice A_ (cs ++ cs).length C_))) := Lib.hid (pic_at_twice (lo := w4.heap.size) HBV.out.1 HI1.out HI2.out hg_ ho_ HBV.out.2.2.2.1 HBV.out.2.2.1 (by have h1 := HCL.out; omega) (by have h1 := HCL.out; omega) (fun c hc => Nat.le_trans (HNN.out c hc) (by omega)))
           clear HI1 HI2 HQ HCU HC HC10 HP10 HBV kb ho_ hg_
           obtain ⟨c2, hc2⟩ : ∃ q, (cs ++ cs).length = q := ⟨_, rfl⟩
           rw [hc2] at HG hr_
           clear hc2
           go_upto_region 13 with fail
           go_wp2_with fail
           go_meet
           exact HG
         · obtain ⟨g, cap, hv, hgl, hgs, hcc, hcm⟩ := own_form hl1 (by omega)
           injection hv with hA _ hcap
           obtain ⟨x0, hx0⟩ : ∃ x, l[0]? = some x := ⟨_, List.getElem?_eq_getElem (by have := hl1.1; simp at this; omega)⟩
           have e0 : v9.cell? ⟨g, 0, none⟩ = some (.int .i64 x0) := by
             have h1 := hl1
             rw [hA] at h1
             have h2 := h1.cellAt 0 (by simpa using h0)
             rw [List.getElem?_map, hx0] at h2
             exact h2
           have ef : v9.frozen? ⟨g, 0, none⟩ = false := by
             obtain ⟨_, _, cur2, hc2⟩ := own_blk hl1 (k := g) (by rw [hA]; rfl)
             simp [World.frozen?, hc2]
           have e4 := HQ.out.2.2.2
           rw [hA] at e4
           obtain ⟨cn, hcn⟩ : ∃ q, c.n = q := ⟨_, rfl⟩
           obtain ⟨cc, hccap⟩ : ∃ q, c.cap = q := ⟨_, rfl⟩
           rw [hcn, hccap] at e4
           rw [hcn] at h0
           have h0I : (0 : Int) < (cn : Int) := by omega
           have hn0 : ¬ cn = 0 := by omega
           have HG : Hid (PicAt w bm (v9.setCell ⟨g, 0, none⟩ (.int .i64 n))) := Lib.hid (pic_at_set HBV.out.1 (by rw [HCL.out]; exact HI1.out) HI2.out HP10.out e0 (by have h2 := HWB.out; have h3 := HZ4.out; omega) n)
           clear HI1 HI2 HQ HCU HC HC10 HP10 HBV hl1 hx0 hA hcap hcn hccap hgl hgs hcc hcm
           go_wp2_with fail
           go_meet
           exact HG
       · clear h16 hkk20
         have HG : Hid (PicAt w bm (v9.setCell ⟨bm + 1, 9, none⟩ (.bool true))) := Lib.hid (pic_at_rct HBV.out.1 (by rw [HCL.out]; exact HI1.out) HI2.out HP10.out (fun b o e => by
           injection e with e
           injection e with e
           have := HBV.out.2.2.2.1
           omega) HBV.out.2.1 true)
         have kf : v9.frozen? ⟨bm + 1, 9, none⟩ = false := by simp [World.frozen?, HI2.out]
         obtain ⟨k0, k1, k2, k3, k4, k5, k6, k7, k8, k9, k10, k11⟩ := par_cells HI2.out
         clear HI1 HI2 HQ HCU HC HC10 HP10 HBV
         go_wp2_with fail
         go_meet
         exact HG
       · clear h16 hkk20
         have hcell : v9.cell? ⟨bm, 4, none⟩ = some (.slice (some ⟨cg, 0, none⟩) cs.length C2) := by
           have h := (img_cells HI1.out).2.2.2.2
           rw [HCL.out]
           exact h
         obtain ⟨A_, C_, w_, hr_, ho_, hg_⟩ := app_twice HC10.out (by have h3 := HZ4.out; have h4 := HBV.out; have h5 := HBM.out; have h6 := (Array.getElem?_eq_some_iff.1 HI1.out).1; omega) (by have h1 := HCL.out; omega) (by have h1 := HCL.out; omega)
         have kb : w_.heap[bm]? = v9.heap[bm]? := hg_.block bm (Array.getElem?_eq_some_iff.1 HI1.out).1 (fun e => by injection e with e; have := HBV.out.2.2.2.1; omega)
         have hcell2 : w_.cell? ⟨bm, 4, none⟩ = some (.slice (some ⟨cg, 0, none⟩) N C2) := (img_cells (kb.trans HI1.out)).2.2.2.2
         have kf : w_.frozen? ⟨bm, 4, none⟩ = false := by simp [World.frozen?, kb, HI1.out]
         have HG : Hid (PicAt w bm (w_.setCell ⟨bm, 4, none⟩ (.slice A_ (cs ++ cs).length C_))) := Lib.hid (pic_at_twice (lo := w4.heap.size) HBV.out.1 HI1.out HI2.out hg_ ho_ HBV.out.2.2.2.1 HBV.out.2.2.1 (by have h1 := HCL.out; omega) (by have h1 := HCL.out; omega) (fun c hc => Nat.le_trans (HNN.out c hc) (by omega)))
         clear HI1 HI2 HQ HCU HC HC10 HP10 HBV kb ho_ hg_
         obtain ⟨c2, hc2⟩ : ∃ q, (cs ++ cs).length = q := ⟨_, rfl⟩
         rw [hc2] at HG hr_
         clear hc2
         go_upto_region 13 with fail
         go_wp2_with fail
         go_meet
         exact HG
    case rest =>
    obtain ⟨U, hU⟩ : ∃ u, u = wc := ⟨_, rfl⟩
    subst hU
    have HBMX : Hid (bm + 2 ≤ lb) := Lib.hid HL10.out.2.2
    clear HM10 HP10 HC10 HL10
    obtain ⟨X3, Y3, OX3, OY3, TX3, TY3, LV3, BW3, BH3, PR3, ST3, OD3, LY3, RC3, SO3, EP3, A3, C3, cs3, ds3, hp3⟩ := hcut.out
    have HP3 := Lib.hid hp3
    have HZ3 : Hid (bm < U.heap.size ∧ bm + 1 < U.heap.size) := Lib.hid ⟨(Array.getElem?_eq_some_iff.1 hp3.2.1).1, (Array.getElem?_eq_some_iff.1 hp3.2.2.1).1⟩
    clear hp3 hcut
    obtain ⟨F3, hF3⟩ : ∃ v, frameF X3 Y3 OX3 OY3 cs3 TX3 TY3 LV3 BW3 BH3 PR3 ST3 OD3 LY3 RC3 = v := ⟨_, rfl⟩
    obtain ⟨K3, hK3⟩ : ∃ v, (if F3 = 0 then firstBad X3 Y3 OX3 OY3 ds3 cs3 0 else F3) = v := ⟨_, rfl⟩
    have CQ3 : Hid (∀ u, Below U.heap.size U u → Calls Try.prog 12 #[.agg #[.int .i64 X3, .int .i64 Y3, .int .i64 OX3, .int .i64 OY3, .slice A3 cs3.length C3], .agg #[.int .i64 TX3, .int .i64 TY3, .int .i64 LV3, .int .i64 BW3, .int .i64 BH3, .int .i64 PR3, .int .i64 ST3, .int .i64 OD3, .int .i64 LY3, .bool RC3, .bool SO3, .bool EP3]] u fun e w' => e = .returned (.int .i64 K3) ∧ Below u.heap.size u w') := Lib.hid fun u hu => by
      have p := HP3.out.2.2.2.keep hu
      have h := check_any ds3 X3 Y3 OX3 OY3 TX3 TY3 LV3 BW3 BH3 PR3 ST3 OD3 LY3 RC3 SO3 EP3 p.at' p.cap p.dat
      rw [hF3, hK3] at h
      exact h
    have DQ3 : Hid (∀ u, Below U.heap.size U u → Calls Try.prog 13 #[.agg #[.int .i64 X3, .int .i64 Y3, .int .i64 OX3, .int .i64 OY3, .slice A3 cs3.length C3], .agg #[.int .i64 TX3, .int .i64 TY3, .int .i64 LV3, .int .i64 BW3, .int .i64 BH3, .int .i64 PR3, .int .i64 ST3, .int .i64 OD3, .int .i64 LY3, .bool RC3, .bool SO3, .bool EP3]] u fun e w' => e = .returned (.int .i64 K3) ∧ Below u.heap.size u w') := Lib.hid fun u hu => by
      have p := HP3.out.2.2.2.keep hu
      have h := rcheck_any (cC := C3) ds3 X3 Y3 OX3 OY3 TX3 TY3 LV3 BW3 BH3 PR3 ST3 OD3 LY3 RC3 SO3 EP3 p.at' p.few p.dat
      rw [hF3, hK3] at h
      exact h
    have EQ3 : Hid (∀ u, Below U.heap.size U u → Calls Try.prog 14 #[.agg #[.int .i64 X3, .int .i64 Y3, .int .i64 OX3, .int .i64 OY3, .slice A3 cs3.length C3], .agg #[.int .i64 TX3, .int .i64 TY3, .int .i64 LV3, .int .i64 BW3, .int .i64 BH3, .int .i64 PR3, .int .i64 ST3, .int .i64 OD3, .int .i64 LY3, .bool RC3, .bool SO3, .bool EP3]] u fun e w' => e = .returned (.int .i64 F3) ∧ Below u.heap.size u w') := Lib.hid fun u hu => by
      have p := HP3.out.2.2.2.keep hu
      have h := frame_any X3 Y3 OX3 OY3 TX3 TY3 LV3 BW3 BH3 PR3 ST3 OD3 LY3 RC3 SO3 EP3 p.at' p.cap
      rw [hF3] at h
      exact h
    have GQ3 : Hid (∀ u, Below U.heap.size U u → Calls Try.prog 15 #[.agg #[.int .i64 X3, .int .i64 Y3, .int .i64 OX3, .int .i64 OY3, .slice A3 cs3.length C3], .agg #[.int .i64 TX3, .int .i64 TY3, .int .i64 LV3, .int .i64 BW3, .int .i64 BH3, .int .i64 PR3, .int .i64 ST3, .int .i64 OD3, .int .i64 LY3, .bool RC3, .bool SO3, .bool EP3]] u fun e w' => e = .returned (.int .i64 F3) ∧ Below u.heap.size u w') := Lib.hid fun u hu => by
      have p := HP3.out.2.2.2.keep hu
      have h := rframe_any (cC := C3) X3 Y3 OX3 OY3 TX3 TY3 LV3 BW3 BH3 PR3 ST3 OD3 LY3 RC3 SO3 EP3 p.at' p.few
      rw [hF3] at h
      exact h
    clear hF3 hK3
    go_upto_region 22 with fail
    obtain ⟨VL, hVL⟩ : ∃ VL : Unit → List (Nat × Nat × Value), VL = fun z => [(0, 146, .agg #[.int .i64 X3, .int .i64 Y3, .int .i64 OX3, .int .i64 OY3, .slice A3 cs3.length C3]), (1, 147, .agg #[.int .i64 TX3, .int .i64 TY3, .int .i64 LV3, .int .i64 BW3, .int .i64 BH3, .int .i64 PR3, .int .i64 ST3, .int .i64 OD3, .int .i64 LY3, .bool RC3, .bool SO3, .bool EP3]), (2, 148, .int .i64 K3), (3, 149, .agg #[.int .i64 X3, .int .i64 Y3, .int .i64 OX3, .int .i64 OY3, .slice A3 cs3.length C3]), (4, 150, .agg #[.int .i64 TX3, .int .i64 TY3, .int .i64 LV3, .int .i64 BW3, .int .i64 BH3, .int .i64 PR3, .int .i64 ST3, .int .i64 OD3, .int .i64 LY3, .bool RC3, .bool SO3, .bool EP3]), (5, 151, .int .i64 K3), (6, 152, .bool true), (7, 153, .bool true), (8, 154, .agg #[.int .i64 X3, .int .i64 Y3, .int .i64 OX3, .int .i64 OY3, .slice A3 cs3.length C3]), (9, 155, .agg #[.int .i64 TX3, .int .i64 TY3, .int .i64 LV3, .int .i64 BW3, .int .i64 BH3, .int .i64 PR3, .int .i64 ST3, .int .i64 OD3, .int .i64 LY3, .bool RC3, .bool SO3, .bool EP3]), (10, 156, .int .i64 F3), (11, 157, .agg #[.int .i64 X3, .int .i64 Y3, .int .i64 OX3, .int .i64 OY3, .slice A3 cs3.length C3]), (12, 158, .agg #[.int .i64 TX3, .int .i64 TY3, .int .i64 LV3, .int .i64 BW3, .int .i64 BH3, .int .i64 PR3, .int .i64 ST3, .int .i64 OD3, .int .i64 LY3, .bool RC3, .bool SO3, .bool EP3]), (13, 159, .int .i64 F3), (14, 160, .bool true), (15, 161, .bool true), (16, 10, .bool true)] := ⟨_, rfl⟩
    have hok : ∀ z, manyOk 162 (VL z) := fun z => by rw [hVL]; exact ⟨by simp, by simp, by simp⟩
    have HVL := Lib.hid hVL
    have hvi : ∀ z, ∀ x ∈ VL z, x.1 < 17 := fun z => by rw [hVL]; simp
    have HOK := Lib.hid hok
    have HVI := Lib.hid hvi
    clear hVL hok hvi
    refine (wpIn_wide (n := 9)).1 (regionIn_many (N := 162) (w := U) VL (fun L z w' => (Below U.heap.size U w') ∧ True) [(11, .pointer (some ⟨bm, 0, none⟩)), (12, .pointer (some ⟨bm + 1, 0, none⟩))] (by kernel_rfl) (by kernel_rfl) rfl (by simp only [List.forall_mem_cons, List.not_mem_nil, false_imp_iff, implies_true, and_true]; exact ⟨rfl, rfl⟩) HVI.out () ?start ?step ?fin)
    case start => exact ⟨below_drewN (Below.refl _ U) 1, trivial⟩
    case step =>
      intro gg_ hgN hgF ii_ hii_ L z w' hph hs hu
      obtain ⟨hcm, hph⟩ := hph
      have hF11 := hgF (11, .pointer (some ⟨bm, 0, none⟩)) (by simp)
      have hF12 := hgF (12, .pointer (some ⟨bm + 1, 0, none⟩)) (by simp)
      have hL := hu.1
      have hii_ : ii_ < 17 := hii_
      clear hgF
      obtain rfl | rfl | rfl | rfl | rfl | rfl | rfl | rfl | rfl | rfl | rfl | rfl | rfl | rfl | rfl | rfl | rfl := (by omega : ii_ = 0 ∨ ii_ = 1 ∨ ii_ = 2 ∨ ii_ = 3 ∨ ii_ = 4 ∨ ii_ = 5 ∨ ii_ = 6 ∨ ii_ = 7 ∨ ii_ = 8 ∨ ii_ = 9 ∨ ii_ = 10 ∨ ii_ = 11 ∨ ii_ = 12 ∨ ii_ = 13 ∨ ii_ = 14 ∨ ii_ = 15 ∨ ii_ = 16)
      · skip
        obtain ⟨g0, g1, g2, g3, g4⟩ := img_cells ((hcm.block bm HZ3.out.1).trans HP3.out.2.1)
        have e11 : (many gg_ L (VL z))[11]?.getD undef = .pointer (some ⟨bm, 0, none⟩) := many_out hgN (HOK.out z).1 (by rw [HVL.out]; rfl) hF11
        refine opIn_run (v := .agg #[.int .i64 X3, .int .i64 Y3, .int .i64 OX3, .int .i64 OY3, .slice A3 cs3.length C3]) (w' := w') rfl rfl (fun c h => by cases h) (fun _ => trivial) ?_ ⟨z, by exact many_put (HOK.out _) 0 146 _ (by rw [HVL.out]; simp) hL, hcm, hph⟩
        go_simp
      · skip
        obtain ⟨k0, k1, k2, k3, k4, k5, k6, k7, k8, k9, k10, k11⟩ := par_cells ((hcm.block (bm + 1) HZ3.out.2).trans HP3.out.2.2.1)
        have e12 : (many gg_ L (VL z))[12]?.getD undef = .pointer (some ⟨bm + 1, 0, none⟩) := many_out hgN (HOK.out z).1 (by rw [HVL.out]; rfl) hF12
        refine opIn_run (v := .agg #[.int .i64 TX3, .int .i64 TY3, .int .i64 LV3, .int .i64 BW3, .int .i64 BH3, .int .i64 PR3, .int .i64 ST3, .int .i64 OD3, .int .i64 LY3, .bool RC3, .bool SO3, .bool EP3]) (w' := w') rfl rfl (fun c h => by cases h) (fun _ => trivial) ?_ ⟨z, by exact many_put (HOK.out _) 1 147 _ (by rw [HVL.out]; simp) hL, hcm, hph⟩
        go_simp
      · skip
        have y0 : L 0 = true := up_at hu 0 (by kernel_rfl)
        have y1 : L 1 = true := up_at hu 1 (by kernel_rfl)
        have e146 : (many gg_ L (VL z))[146]?.getD undef = .agg #[.int .i64 X3, .int .i64 Y3, .int .i64 OX3, .int .i64 OY3, .slice A3 cs3.length C3] := many_eval hgN (HOK.out z).1 (by rw [HVL.out]; simp [lookM, y0])
        have e147 : (many gg_ L (VL z))[147]?.getD undef = .agg #[.int .i64 TX3, .int .i64 TY3, .int .i64 LV3, .int .i64 BW3, .int .i64 BH3, .int .i64 PR3, .int .i64 ST3, .int .i64 OD3, .int .i64 LY3, .bool RC3, .bool SO3, .bool EP3] := many_eval hgN (HOK.out z).1 (by rw [HVL.out]; simp [lookM, y1])
        refine opIn_call (f := 12) (args := #[.agg #[.int .i64 X3, .int .i64 Y3, .int .i64 OX3, .int .i64 OY3, .slice A3 cs3.length C3], .agg #[.int .i64 TX3, .int .i64 TY3, .int .i64 LV3, .int .i64 BW3, .int .i64 BH3, .int .i64 PR3, .int .i64 ST3, .int .i64 OD3, .int .i64 LY3, .bool RC3, .bool SO3, .bool EP3]]) (w' := w') rfl rfl (fun c h => by cases h) (fun _ => trivial) rfl (by go_simp) ((callsIn_wide.2 (CQ3.out w' hcm)).mono ?_)
        rintro e w2 ⟨rfl, hb⟩
        exact ⟨_, rfl, z, by exact many_put (HOK.out _) 2 148 _ (by rw [HVL.out]; simp) hL, hcm.trans (hb.mono hcm.size), trivial⟩
      · skip
        obtain ⟨g0, g1, g2, g3, g4⟩ := img_cells ((hcm.block bm HZ3.out.1).trans HP3.out.2.1)
        have e11 : (many gg_ L (VL z))[11]?.getD undef = .pointer (some ⟨bm, 0, none⟩) := many_out hgN (HOK.out z).1 (by rw [HVL.out]; rfl) hF11
        refine opIn_run (v := .agg #[.int .i64 X3, .int .i64 Y3, .int .i64 OX3, .int .i64 OY3, .slice A3 cs3.length C3]) (w' := w') rfl rfl (fun c h => by cases h) (fun _ => trivial) ?_ ⟨z, by exact many_put (HOK.out _) 3 149 _ (by rw [HVL.out]; simp) hL, hcm, hph⟩
        go_simp
      · skip
        obtain ⟨k0, k1, k2, k3, k4, k5, k6, k7, k8, k9, k10, k11⟩ := par_cells ((hcm.block (bm + 1) HZ3.out.2).trans HP3.out.2.2.1)
        have e12 : (many gg_ L (VL z))[12]?.getD undef = .pointer (some ⟨bm + 1, 0, none⟩) := many_out hgN (HOK.out z).1 (by rw [HVL.out]; rfl) hF12
        refine opIn_run (v := .agg #[.int .i64 TX3, .int .i64 TY3, .int .i64 LV3, .int .i64 BW3, .int .i64 BH3, .int .i64 PR3, .int .i64 ST3, .int .i64 OD3, .int .i64 LY3, .bool RC3, .bool SO3, .bool EP3]) (w' := w') rfl rfl (fun c h => by cases h) (fun _ => trivial) ?_ ⟨z, by exact many_put (HOK.out _) 4 150 _ (by rw [HVL.out]; simp) hL, hcm, hph⟩
        go_simp
      · skip
        have y2 : L 2 = true := up_at hu 2 (by kernel_rfl)
        have y3 : L 3 = true := up_at hu 3 (by kernel_rfl)
        have y4 : L 4 = true := up_at hu 4 (by kernel_rfl)
        have e149 : (many gg_ L (VL z))[149]?.getD undef = .agg #[.int .i64 X3, .int .i64 Y3, .int .i64 OX3, .int .i64 OY3, .slice A3 cs3.length C3] := many_eval hgN (HOK.out z).1 (by rw [HVL.out]; simp [lookM, y3])
        have e150 : (many gg_ L (VL z))[150]?.getD undef = .agg #[.int .i64 TX3, .int .i64 TY3, .int .i64 LV3, .int .i64 BW3, .int .i64 BH3, .int .i64 PR3, .int .i64 ST3, .int .i64 OD3, .int .i64 LY3, .bool RC3, .bool SO3, .bool EP3] := many_eval hgN (HOK.out z).1 (by rw [HVL.out]; simp [lookM, y4])
        refine opIn_call (f := 13) (args := #[.agg #[.int .i64 X3, .int .i64 Y3, .int .i64 OX3, .int .i64 OY3, .slice A3 cs3.length C3], .agg #[.int .i64 TX3, .int .i64 TY3, .int .i64 LV3, .int .i64 BW3, .int .i64 BH3, .int .i64 PR3, .int .i64 ST3, .int .i64 OD3, .int .i64 LY3, .bool RC3, .bool SO3, .bool EP3]]) (w' := w') rfl rfl (fun c h => by cases h) (fun _ => trivial) rfl (by go_simp) ((callsIn_wide.2 (DQ3.out w' hcm)).mono ?_)
        rintro e w2 ⟨rfl, hb⟩
        exact ⟨_, rfl, z, by exact many_put (HOK.out _) 5 151 _ (by rw [HVL.out]; simp) hL, hcm.trans (hb.mono hcm.size), trivial⟩
      · skip
        have y2 : L 2 = true := up_at hu 2 (by kernel_rfl)
        have y5 : L 5 = true := up_at hu 5 (by kernel_rfl)
        have e148 : (many gg_ L (VL z))[148]?.getD undef = .int .i64 K3 := many_eval hgN (HOK.out z).1 (by rw [HVL.out]; simp [lookM, y2])
        have e151 : (many gg_ L (VL z))[151]?.getD undef = .int .i64 K3 := many_eval hgN (HOK.out z).1 (by rw [HVL.out]; simp [lookM, y5])
        refine opIn_run (v := .bool true) (w' := w') rfl rfl (fun c h => by cases h) (fun _ => trivial) ?_ ⟨z, by exact many_put (HOK.out _) 6 152 _ (by rw [HVL.out]; simp) hL, hcm, hph⟩
        go_simp
      · skip
        have y5 : L 5 = true := up_at hu 5 (by kernel_rfl)
        have y6 : L 6 = true := up_at hu 6 (by kernel_rfl)
        have e152 : (many gg_ L (VL z))[152]?.getD undef = .bool true := many_eval hgN (HOK.out z).1 (by rw [HVL.out]; simp [lookM, y6])
        refine opIn_run (v := .bool true) (w' := w') rfl rfl (fun c h => by cases h) (fun _ => trivial) ?_ ⟨z, by exact many_put (HOK.out _) 7 153 _ (by rw [HVL.out]; simp) hL, hcm, hph⟩
        go_simp
      · skip
        have y7 : L 7 = true := up_at hu 7 (by kernel_rfl)
        obtain ⟨g0, g1, g2, g3, g4⟩ := img_cells ((hcm.block bm HZ3.out.1).trans HP3.out.2.1)
        have e11 : (many gg_ L (VL z))[11]?.getD undef = .pointer (some ⟨bm, 0, none⟩) := many_out hgN (HOK.out z).1 (by rw [HVL.out]; rfl) hF11
        have e153 : (many gg_ L (VL z))[153]?.getD undef = .bool true := many_eval hgN (HOK.out z).1 (by rw [HVL.out]; simp [lookM, y7])
        refine opIn_run_g (v := .agg #[.int .i64 X3, .int .i64 Y3, .int .i64 OX3, .int .i64 OY3, .slice A3 cs3.length C3]) (w' := w') (j := 7) (b := true) rfl rfl (by simp [yielded, many_some hgN (show 153 < 162 by decide) e153]) (fun c h => by cases h) (fun _ => trivial) ?_ ⟨z, by exact many_put (HOK.out _) 8 154 _ (by rw [HVL.out]; simp) hL, hcm, hph⟩
        go_simp
      · skip
        have y7 : L 7 = true := up_at hu 7 (by kernel_rfl)
        obtain ⟨k0, k1, k2, k3, k4, k5, k6, k7, k8, k9, k10, k11⟩ := par_cells ((hcm.block (bm + 1) HZ3.out.2).trans HP3.out.2.2.1)
        have e12 : (many gg_ L (VL z))[12]?.getD undef = .pointer (some ⟨bm + 1, 0, none⟩) := many_out hgN (HOK.out z).1 (by rw [HVL.out]; rfl) hF12
        have e153 : (many gg_ L (VL z))[153]?.getD undef = .bool true := many_eval hgN (HOK.out z).1 (by rw [HVL.out]; simp [lookM, y7])
        refine opIn_run_g (v := .agg #[.int .i64 TX3, .int .i64 TY3, .int .i64 LV3, .int .i64 BW3, .int .i64 BH3, .int .i64 PR3, .int .i64 ST3, .int .i64 OD3, .int .i64 LY3, .bool RC3, .bool SO3, .bool EP3]) (w' := w') (j := 7) (b := true) rfl rfl (by simp [yielded, many_some hgN (show 153 < 162 by decide) e153]) (fun c h => by cases h) (fun _ => trivial) ?_ ⟨z, by exact many_put (HOK.out _) 9 155 _ (by rw [HVL.out]; simp) hL, hcm, hph⟩
        go_simp
      · skip
        have y7 : L 7 = true := up_at hu 7 (by kernel_rfl)
        have y8 : L 8 = true := up_at hu 8 (by kernel_rfl)
        have y9 : L 9 = true := up_at hu 9 (by kernel_rfl)
        have e153 : (many gg_ L (VL z))[153]?.getD undef = .bool true := many_eval hgN (HOK.out z).1 (by rw [HVL.out]; simp [lookM, y7])
        have e154 : (many gg_ L (VL z))[154]?.getD undef = .agg #[.int .i64 X3, .int .i64 Y3, .int .i64 OX3, .int .i64 OY3, .slice A3 cs3.length C3] := many_eval hgN (HOK.out z).1 (by rw [HVL.out]; simp [lookM, y8])
        have e155 : (many gg_ L (VL z))[155]?.getD undef = .agg #[.int .i64 TX3, .int .i64 TY3, .int .i64 LV3, .int .i64 BW3, .int .i64 BH3, .int .i64 PR3, .int .i64 ST3, .int .i64 OD3, .int .i64 LY3, .bool RC3, .bool SO3, .bool EP3] := many_eval hgN (HOK.out z).1 (by rw [HVL.out]; simp [lookM, y9])
        refine opIn_call_g (f := 14) (args := #[.agg #[.int .i64 X3, .int .i64 Y3, .int .i64 OX3, .int .i64 OY3, .slice A3 cs3.length C3], .agg #[.int .i64 TX3, .int .i64 TY3, .int .i64 LV3, .int .i64 BW3, .int .i64 BH3, .int .i64 PR3, .int .i64 ST3, .int .i64 OD3, .int .i64 LY3, .bool RC3, .bool SO3, .bool EP3]]) (w' := w') (j := 7) (b := true) rfl rfl (by simp [yielded, many_some hgN (show 153 < 162 by decide) e153]) (fun c h => by cases h) (fun _ => trivial) rfl (by go_simp) ((callsIn_wide.2 (EQ3.out w' hcm)).mono ?_)
        rintro e w2 ⟨rfl, hb⟩
        exact ⟨_, rfl, z, by exact many_put (HOK.out _) 10 156 _ (by rw [HVL.out]; simp) hL, hcm.trans (hb.mono hcm.size), trivial⟩
      · skip
        have y7 : L 7 = true := up_at hu 7 (by kernel_rfl)
        obtain ⟨g0, g1, g2, g3, g4⟩ := img_cells ((hcm.block bm HZ3.out.1).trans HP3.out.2.1)
        have e11 : (many gg_ L (VL z))[11]?.getD undef = .pointer (some ⟨bm, 0, none⟩) := many_out hgN (HOK.out z).1 (by rw [HVL.out]; rfl) hF11
        have e153 : (many gg_ L (VL z))[153]?.getD undef = .bool true := many_eval hgN (HOK.out z).1 (by rw [HVL.out]; simp [lookM, y7])
        refine opIn_run_g (v := .agg #[.int .i64 X3, .int .i64 Y3, .int .i64 OX3, .int .i64 OY3, .slice A3 cs3.length C3]) (w' := w') (j := 7) (b := true) rfl rfl (by simp [yielded, many_some hgN (show 153 < 162 by decide) e153]) (fun c h => by cases h) (fun _ => trivial) ?_ ⟨z, by exact many_put (HOK.out _) 11 157 _ (by rw [HVL.out]; simp) hL, hcm, hph⟩
        go_simp
      · skip
        have y7 : L 7 = true := up_at hu 7 (by kernel_rfl)
        obtain ⟨k0, k1, k2, k3, k4, k5, k6, k7, k8, k9, k10, k11⟩ := par_cells ((hcm.block (bm + 1) HZ3.out.2).trans HP3.out.2.2.1)
        have e12 : (many gg_ L (VL z))[12]?.getD undef = .pointer (some ⟨bm + 1, 0, none⟩) := many_out hgN (HOK.out z).1 (by rw [HVL.out]; rfl) hF12
        have e153 : (many gg_ L (VL z))[153]?.getD undef = .bool true := many_eval hgN (HOK.out z).1 (by rw [HVL.out]; simp [lookM, y7])
        refine opIn_run_g (v := .agg #[.int .i64 TX3, .int .i64 TY3, .int .i64 LV3, .int .i64 BW3, .int .i64 BH3, .int .i64 PR3, .int .i64 ST3, .int .i64 OD3, .int .i64 LY3, .bool RC3, .bool SO3, .bool EP3]) (w' := w') (j := 7) (b := true) rfl rfl (by simp [yielded, many_some hgN (show 153 < 162 by decide) e153]) (fun c h => by cases h) (fun _ => trivial) ?_ ⟨z, by exact many_put (HOK.out _) 12 158 _ (by rw [HVL.out]; simp) hL, hcm, hph⟩
        go_simp
      · skip
        have y7 : L 7 = true := up_at hu 7 (by kernel_rfl)
        have y10 : L 10 = true := up_at hu 10 (by kernel_rfl)
        have y11 : L 11 = true := up_at hu 11 (by kernel_rfl)
        have y12 : L 12 = true := up_at hu 12 (by kernel_rfl)
        have e153 : (many gg_ L (VL z))[153]?.getD undef = .bool true := many_eval hgN (HOK.out z).1 (by rw [HVL.out]; simp [lookM, y7])
        have e157 : (many gg_ L (VL z))[157]?.getD undef = .agg #[.int .i64 X3, .int .i64 Y3, .int .i64 OX3, .int .i64 OY3, .slice A3 cs3.length C3] := many_eval hgN (HOK.out z).1 (by rw [HVL.out]; simp [lookM, y11])
        have e158 : (many gg_ L (VL z))[158]?.getD undef = .agg #[.int .i64 TX3, .int .i64 TY3, .int .i64 LV3, .int .i64 BW3, .int .i64 BH3, .int .i64 PR3, .int .i64 ST3, .int .i64 OD3, .int .i64 LY3, .bool RC3, .bool SO3, .bool EP3] := many_eval hgN (HOK.out z).1 (by rw [HVL.out]; simp [lookM, y12])
        refine opIn_call_g (f := 15) (args := #[.agg #[.int .i64 X3, .int .i64 Y3, .int .i64 OX3, .int .i64 OY3, .slice A3 cs3.length C3], .agg #[.int .i64 TX3, .int .i64 TY3, .int .i64 LV3, .int .i64 BW3, .int .i64 BH3, .int .i64 PR3, .int .i64 ST3, .int .i64 OD3, .int .i64 LY3, .bool RC3, .bool SO3, .bool EP3]]) (w' := w') (j := 7) (b := true) rfl rfl (by simp [yielded, many_some hgN (show 153 < 162 by decide) e153]) (fun c h => by cases h) (fun _ => trivial) rfl (by go_simp) ((callsIn_wide.2 (GQ3.out w' hcm)).mono ?_)
        rintro e w2 ⟨rfl, hb⟩
        exact ⟨_, rfl, z, by exact many_put (HOK.out _) 13 159 _ (by rw [HVL.out]; simp) hL, hcm.trans (hb.mono hcm.size), trivial⟩
      · skip
        have y7 : L 7 = true := up_at hu 7 (by kernel_rfl)
        have y10 : L 10 = true := up_at hu 10 (by kernel_rfl)
        have y13 : L 13 = true := up_at hu 13 (by kernel_rfl)
        have e153 : (many gg_ L (VL z))[153]?.getD undef = .bool true := many_eval hgN (HOK.out z).1 (by rw [HVL.out]; simp [lookM, y7])
        have e156 : (many gg_ L (VL z))[156]?.getD undef = .int .i64 F3 := many_eval hgN (HOK.out z).1 (by rw [HVL.out]; simp [lookM, y10])
        have e159 : (many gg_ L (VL z))[159]?.getD undef = .int .i64 F3 := many_eval hgN (HOK.out z).1 (by rw [HVL.out]; simp [lookM, y13])
        refine opIn_run_g (v := .bool true) (w' := w') (j := 7) (b := true) rfl rfl (by simp [yielded, many_some hgN (show 153 < 162 by decide) e153]) (fun c h => by cases h) (fun _ => trivial) ?_ ⟨z, by exact many_put (HOK.out _) 14 160 _ (by rw [HVL.out]; simp) hL, hcm, hph⟩
        go_simp
      · skip
        have y7 : L 7 = true := up_at hu 7 (by kernel_rfl)
        have y14 : L 14 = true := up_at hu 14 (by kernel_rfl)
        have e153 : (many gg_ L (VL z))[153]?.getD undef = .bool true := many_eval hgN (HOK.out z).1 (by rw [HVL.out]; simp [lookM, y7])
        have e160 : (many gg_ L (VL z))[160]?.getD undef = .bool true := many_eval hgN (HOK.out z).1 (by rw [HVL.out]; simp [lookM, y14])
        refine opIn_run (v := .bool true) (w' := w') rfl rfl (fun c h => by cases h) (fun _ => trivial) ?_ ⟨z, by exact many_put (HOK.out _) 15 161 _ (by rw [HVL.out]; simp) hL, hcm, hph⟩
        go_simp
      · skip
        have y0 : L 0 = true := up_at hu 0 (by kernel_rfl)
        have y1 : L 1 = true := up_at hu 1 (by kernel_rfl)
        have y2 : L 2 = true := up_at hu 2 (by kernel_rfl)
        have y3 : L 3 = true := up_at hu 3 (by kernel_rfl)
        have y4 : L 4 = true := up_at hu 4 (by kernel_rfl)
        have y5 : L 5 = true := up_at hu 5 (by kernel_rfl)
        have y6 : L 6 = true := up_at hu 6 (by kernel_rfl)
        have y7 : L 7 = true := up_at hu 7 (by kernel_rfl)
        have y8 : L 8 = true := up_at hu 8 (by kernel_rfl)
        have y9 : L 9 = true := up_at hu 9 (by kernel_rfl)
        have y10 : L 10 = true := up_at hu 10 (by kernel_rfl)
        have y11 : L 11 = true := up_at hu 11 (by kernel_rfl)
        have y12 : L 12 = true := up_at hu 12 (by kernel_rfl)
        have y13 : L 13 = true := up_at hu 13 (by kernel_rfl)
        have y14 : L 14 = true := up_at hu 14 (by kernel_rfl)
        have y15 : L 15 = true := up_at hu 15 (by kernel_rfl)
        have e161 : (many gg_ L (VL z))[161]?.getD undef = .bool true := many_eval hgN (HOK.out z).1 (by rw [HVL.out]; simp [lookM, y15])
        refine opIn_run (v := .bool true) (w' := w') rfl rfl (fun c h => by cases h) (fun _ => trivial) ?_ ⟨z, by exact many_put (HOK.out _) 16 10 _ (by rw [HVL.out]; simp) hL, hcm, hph⟩
        go_simp
    case fin =>
      intro L z w' hall hph
      obtain ⟨hcm, hph⟩ := hph
      rw [HVL.out]
      dsimp only [manyL, List.set_cons_zero, List.set_cons_succ]
      clear hall HVL HOK HVI
      have HE3 := Lib.hid (HP3.out.1.trans (hcm.mono HP3.out.1.size))
      clear hcm CQ3 DQ3 EQ3 GQ3 HP3 HZ3
      go_wp2
      go_ret
      first | exact HE3.out | exact ⟨rfl, HE3.out⟩
end Go.Proofs.Ythcpmonahmogaaa
