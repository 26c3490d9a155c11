/- canvas: CanvasCovers walked. -/
import Derived.Test.YthcpmonahmogaaaCvV8
import Derived.Test.YthcpmonahmogaaaCvCc
import Derived.Test.YthcpmonahmogaaaCvQ0
import Derived.Test.YthcpmonahmogaaaCvM5
import Derived.Laws.Rows
import Derived.Deep.CutRange
import Derived.Deep.CutBlock
import Derived.Deep.LoopGhost
set_option linter.unusedVariables false
set_option linter.unusedSimpArgs false
namespace Go.Proofs.Ythcpmonahmogaaa
open Go.RowKit
set_option maxRecDepth 100000
set_option maxHeartbeats 16000000 in
theorem walk_canvasCovers (f : FN) (A0 : Option Addr) (len0 cap0 : Nat) (z0 : List Int) (w : World) (w0 : IsRow .i64 w A0 len0 cap0 z0) (s0 : -9223372036854775808 ≤ f.sb ∧ f.sb ≤ 9223372036854775807) :
    Calls Try.prog 5 #[.agg (f.arr A0 len0 cap0)] w fun e w' => e = .returned (.bool true) ∧ Below w.heap.size w w' := by
  have MK := Lib.hid (fun u hu => make_any f A0 len0 cap0 z0 12 u (by omega) hu s0)
  obtain ⟨fc, hfc⟩ : ∃ fc, f.arr A0 len0 cap0 = fc := ⟨_, rfl⟩
  have hfs : fc.size = 21 := by rw [← hfc]; rfl
  rw [hfc] at MK ⊢
  have HFS := Lib.hid hfs
  clear hfc hfs
  have HOK := mkPN_ok f 12 (by omega)
  obtain ⟨M, hM⟩ : ∃ M, mkPN f 12 = M := ⟨_, rfl⟩
  obtain ⟨N, hN⟩ : ∃ N, mkN f = N := ⟨_, rfl⟩
  have hNb : 1 ≤ N ∧ N ≤ 4 := by
    have := within_rng f.nc 4 (by omega)
    rw [← hN]
    unfold mkN
    omega
  obtain ⟨DP, hDP⟩ : ∃ D, mkDP f = D := ⟨_, rfl⟩
  have hDPb : 1 ≤ DP ∧ DP ≤ 10 := by
    have := within_rng f.dp 10 (by omega)
    rw [← hDP]
    unfold mkDP
    omega
  rw [hM, hN, hDP] at MK
  rw [hM] at HOK
  have HMN : Hid (mkPN f 12 = M ∧ mkN f = N ∧ mkDP f = DP) := Lib.hid ⟨hM, hN, hDP⟩
  clear hM hN hDP
  obtain ⟨X, Y, OX, OY, TX, TY, LV, BW, BH, PR, ST, OD, LY, RC, SO, EP⟩ := M
  obtain ⟨o1, o2, o3, o4, o5, o6, o7, o8, o9, o10, o11, o12, o13⟩ := HOK
  simp only at o1 o2 o3 o4 o5 o6 o7 o8 o9 o10 o11 o12 o13
  go_enter Try.func5, Try.ntmps5
  go_wp2_with fail
  obtain ⟨B0, hB0⟩ : ∃ B, w.heap.size = B := ⟨_, rfl⟩
  obtain ⟨Wf, hWf⟩ : ∃ Wf, w.alloc (Obj.cells fc 29) = Wf := ⟨_, rfl⟩
  have HF0 : Hid (MkW w B0 [(fc, 29)] Wf) := Lib.hid (by
    have h0 : MkW w B0 [] w := ⟨fun i c e => by simp at e, Below.refl _ _, by simp; omega⟩
    have h1 := h0.more (by simp; omega) fc 29
    rw [← hWf]; exact h1)
  rw [hWf, hB0]
  have HBE := Lib.hid hB0
  clear hWf hB0
  refine (known12 _).mono ?_
  rintro e w1 ⟨rfl, hb⟩
  have HF1 := Lib.hid (HF0.out.keep hb)
  clear hb HF0
  have MK1 := MK.out w1 (IsRow.below w0 (by rw [HBE.out]; exact HF1.out.bel))
  go_wp2_with (refine wpList_load_row rfl 29 _ rfl B0 rfl 29 fc (0, 0) _ (show w1.heap[B0]? = _ from HF1.out.b 0 _ rfl) Try.underlying29 rfl (by rw [HFS.out]; kernel_rfl) ?_)
  refine MK1.mono ?_
  rintro e w2 ⟨A2, C2, cs, rfl, hcl, hCR, hKY, hb, hfx⟩
  try simp only at hfx
  try simp only at hKY
  have HB2 : Hid (Below B0 w w2) := Lib.hid (HF1.out.bel.trans (hb.mono (by have := HF1.out.sz; simp at this; omega)))
  have HCR : Hid (CRow B0 w2 (.slice A2 N C2) cs) := Lib.hid (by
    have h1 := HF1.out.sz
    simp at h1
    exact ⟨own_low hCR.own (by omega), fun c hc => (hCR.dat c hc).low (by omega)⟩)
  have HKY := Lib.hid hKY
  have HCL := Lib.hid hcl
  obtain ⟨hTX, hTY, hCT⟩ := hfx
  have HCT := Lib.hid hCT
  clear MK MK1 hb hCR hKY hcl hCT HF1 w0 s0
  have hgr := frame_tiles (x := X) (y := Y) (ox := OX) (oy := OY) (tx := TX) (ty := TY) (by omega) (by omega) (by omega) (by omega) HCT.out
  have bw1 := ceil_bd X TX (by omega) (by omega)
  have bw2 := ceil_bd Y TY (by omega) (by omega)
  obtain ⟨wd, hwd⟩ : ∃ wd : Nat, ceilF X TX = (wd : Int) := ⟨(ceilF X TX).toNat, by omega⟩
  obtain ⟨ht, hht⟩ : ∃ ht : Nat, ceilF Y TY = (ht : Int) := ⟨(ceilF Y TY).toNat, by omega⟩
  obtain ⟨rs, hrs⟩ : ∃ rs, rtls X Y OX OY TX TY wd ht = rs := ⟨_, rfl⟩
  obtain ⟨tn, htn⟩ : ∃ tn, ht * wd = tn := ⟨_, rfl⟩
  have htn6 : tn ≤ 6 := by
    have h := HCT.out
    unfold cntT at h
    rw [hwd, hht, Int.toNat_natCast, Int.toNat_natCast] at h
    omega
  have HRS : Hid (rs.length = tn ∧ (∀ r ∈ rs, RcOk 25 r ∧ (OX ≤ r.1 ∧ r.1 < r.2.2.1 ∧ r.2.2.1 ≤ X) ∧ (OY ≤ r.2.1 ∧ r.2.1 < r.2.2.2 ∧ r.2.2.2 ≤ Y))) := Lib.hid (by
    refine ⟨by rw [← hrs, rtls_cell, List.length_map, plP_len, htn], ?_⟩
    rw [← hrs]
    exact tile_ok (by omega) (by omega) o5 o6 hwd hht)
  have CTL : Hid (∀ u, Calls Try.prog 18 #[.agg #[.int .i64 X, .int .i64 Y, .int .i64 OX, .int .i64 OY, .slice A2 N C2], .agg #[.int .i64 TX, .int .i64 TY, .int .i64 (LV : Int), .int .i64 (BW : Int), .int .i64 (BH : Int), .int .i64 (PR : Int), .int .i64 ST, .int .i64 OD, .int .i64 (LY : Int), .bool RC, .bool SO, .bool EP]] u fun e w' => ∃ A c, e = .returned (.slice A tn c) ∧ RcL w' w'.heap.size (.slice A tn c) rs ∧ Below u.heap.size u w') := Lib.hid fun u => by
    refine (tilesL X Y OX OY A2 N C2 TX TY LV BW BH PR ST OD LY RC SO EP u hgr.1 hgr.2).mono ?_
    rintro e w' ⟨A, c, he, ho, hb⟩
    rw [hwd, hht, Int.toNat_natCast, Int.toNat_natCast, htn] at he ho
    refine ⟨A, c, he, RcL.own (q := u.heap.size) (m := tn) ?_ HRS.out.1, hb⟩
    rw [← List.flatMap_map, ← rtls_cell, hrs] at ho
    exact ho
  have CTR : Hid (∀ u, Calls Try.prog 20 #[.agg #[.int .i64 X, .int .i64 Y, .int .i64 OX, .int .i64 OY, .slice A2 N C2], .agg #[.int .i64 TX, .int .i64 TY, .int .i64 (LV : Int), .int .i64 (BW : Int), .int .i64 (BH : Int), .int .i64 (PR : Int), .int .i64 ST, .int .i64 OD, .int .i64 (LY : Int), .bool RC, .bool SO, .bool EP]] u fun e w' => ∃ A c, e = .returned (.slice A tn c) ∧ RcL w' w'.heap.size (.slice A tn c) rs ∧ Below u.heap.size u w') := Lib.hid fun u => by
    refine (rtiles_any X Y OX OY A2 N C2 TX TY LV BW BH PR ST OD LY RC SO EP wd ht u (by omega) (by omega) (by omega) (by omega) hwd hht).mono ?_
    rintro e w' ⟨A, c, he, ho, hb⟩
    rw [htn] at he ho
    rw [hrs] at ho
    exact ⟨A, c, he, RcL.own ho HRS.out.1, hb⟩
  have HTN : Hid (ht * wd = tn ∧ ceilF X TX = (wd : Int) ∧ ceilF Y TY = (ht : Int) ∧ rtls X Y OX OY TX TY wd ht = rs) := Lib.hid ⟨htn, hwd, hht, hrs⟩
  clear hgr bw1 bw2 hwd hht hrs htn
  go_wp2_with fail
  obtain ⟨bm, hbm⟩ : ∃ bm, w2.heap.size = bm := ⟨_, rfl⟩
  obtain ⟨W3, hW3⟩ : ∃ W3, (w2.alloc (Obj.cells #[.int .i64 X, .int .i64 Y, .int .i64 OX, .int .i64 OY, .slice A2 N C2] 24)).alloc (Obj.cells #[.int .i64 TX, .int .i64 TY, .int .i64 (LV : Int), .int .i64 (BW : Int), .int .i64 (BH : Int), .int .i64 (PR : Int), .int .i64 ST, .int .i64 OD, .int .i64 (LY : Int), .bool RC, .bool SO, .bool EP] 26) = W3 := ⟨_, rfl⟩
  have HM3 : Hid (MkW w2 bm [(#[.int .i64 X, .int .i64 Y, .int .i64 OX, .int .i64 OY, .slice A2 N C2], 24), (#[.int .i64 TX, .int .i64 TY, .int .i64 (LV : Int), .int .i64 (BW : Int), .int .i64 (BH : Int), .int .i64 (PR : Int), .int .i64 ST, .int .i64 OD, .int .i64 (LY : Int), .bool RC, .bool SO, .bool EP], 26)] W3) := Lib.hid (by
    have h0 : MkW w2 bm [] w2 := ⟨fun i c e => by simp at e, Below.refl _ _, by simp; omega⟩
    have h1 := (h0.more (by simp; omega) #[.int .i64 X, .int .i64 Y, .int .i64 OX, .int .i64 OY, .slice A2 N C2] 24).more (by simp; omega) #[.int .i64 TX, .int .i64 TY, .int .i64 (LV : Int), .int .i64 (BW : Int), .int .i64 (BH : Int), .int .i64 (PR : Int), .int .i64 ST, .int .i64 OD, .int .i64 (LY : Int), .bool RC, .bool SO, .bool EP] 26
    rw [← hW3]; exact h1)
  rw [hW3, hbm]
  have HBM := Lib.hid hbm
  clear hW3 hbm
  refine (CTL.out _).mono ?_
  rintro e w4 ⟨TA, TC, rfl, hRT, hb⟩
  have HM4 := Lib.hid (HM3.out.keep hb)
  have HRT := Lib.hid hRT
  clear hb hRT HM3 CTR
  have HBM4 : Hid (bm < w4.heap.size ∧ w4.heap[bm]? = some (.cells #[.int .i64 X, .int .i64 Y, .int .i64 OX, .int .i64 OY, .slice A2 N C2] 24 (0, 0))) := Lib.hid ⟨by have := HM4.out.sz; simp at this; omega, HM4.out.b 0 _ rfl⟩
  go_upto_block 0 with fail
  refine wp_code (c' := blkOf Try.f5 0) (by kernel_rfl) (cvT bm tn TC TA (.slice A2 N C2) X Y OX OY rs w4 HRT HRS HBM4 htn6 ?_)
  intro v2 v36 v37 v38 v39 v40 v41 v42 v43 v44 v45 v46 v47 v48 v49 v50 v51 v52 v53 v54 v55 v56 v57 v58 v59 v60 v61 v62 v63 v64 v65 v66 v67 v68 v69 v70 v71 v72 v73 v74 v75 v76 v77 v78 v79 v80 v81 v82 v83 v84 v85 v86 v87 v88 v89 v90 v91 v92 W5 HB5
  have HM3 := Lib.hid (HM4.out.keep HB5.out)
  have HRT5 := Lib.hid (HRT.out.below HB5.out HB5.out.size)
  clear HM4 HRT HBM4
  obtain ⟨AR, hAR⟩ : ∃ a, (X - OX) * (Y - OY) = a := ⟨_, rfl⟩
  have hARb : 0 ≤ AR ∧ AR ≤ 625 := by
    rw [← hAR]
    refine ⟨Int.mul_nonneg (by omega) (by omega), ?_⟩
    have : (X - OX) * (Y - OY) ≤ 25 * 25 := Int.mul_le_mul (by omega) (by omega) (by omega) (by omega)
    omega
  have hsum : sumA rs = AR := by
    have h := HTN.out
    rw [← h.2.2.2, tiles_area (by omega) (by omega) o5 o6 h.2.1 h.2.2.1, hAR]
  rw [hsum]
  have HARW : Hid (wrap64 AR = AR ∧ (X - OX) * (Y - OY) = AR) := Lib.hid ⟨w64_in (by omega), hAR⟩
  clear hAR hsum
  have hcl1 : 1 ≤ cs.length := by have := HCL.out; omega
  obtain ⟨cg, hcg⟩ : ∃ cg, A2 = some ⟨cg, 0, none⟩ := by
    obtain ⟨g, cap, hv, _⟩ := own_form HCR.out.own hcl1
    injection hv with h1
    exact ⟨g, h1⟩
  subst hcg
  have HC0 : Hid (CRow B0 W5 (.slice (some ⟨cg, 0, none⟩) N C2) cs) := Lib.hid (HCR.out.below (by have := HM3.out.bel; rw [← HBM.out] at this; exact this))
  obtain ⟨cp, hcp⟩ : ∃ cp, cs[0] = cp := ⟨_, rfl⟩
  have hcp2 : cs[0]? = some cp := by rw [List.getElem?_eq_getElem hcl1, hcp]
  obtain ⟨k1, _, k3, k4, _⟩ := HKY.out 0 cp hcp2
  have kb := cpK_bd (sb := f.sb) (DP := DP) 0 hDPb
  obtain ⟨cg', cap', hv', _, hcgl, _, _, _, _, y2, y3, _⟩ := HC0.out.cells hcp2
  injection hv' with hv1 hv2 hv3
  injection hv1 with hv1
  injection hv1 with hv1
  subst hv1
  obtain ⟨dx, hdx⟩ : ∃ dx, cp.dx = dx := ⟨_, rfl⟩
  obtain ⟨dy, hdy⟩ : ∃ dy, cp.dy = dy := ⟨_, rfl⟩
  rw [← k3, ← k4, hdx, hdy] at kb
  have hdxb := kb.2.1
  have hdyb := kb.2.2
  rw [hdx] at y2
  rw [hdy] at y3
  have HC2 : Hid (cg < W5.heap.size ∧ W5.cell? ⟨cg, 2, none⟩ = some (.int .i64 dx) ∧ W5.cell? ⟨cg, 3, none⟩ = some (.int .i64 dy)) := Lib.hid ⟨hcgl, y2, y3⟩
  clear hv2 hv3 hcgl y2 y3 hcp hcp2 k1 k3 k4 kb hdx hdy HCR hcl1
  have htn1 : 0 < tn := by
    have h := HTN.out
    have e1 : (0 : Int) < ceilF X TX := (lt_ceil (by omega)).1 (by omega)
    have e2 : (0 : Int) < ceilF Y TY := (lt_ceil (by omega)).1 (by omega)
    rw [← h.1]
    exact Nat.mul_pos (by have := h.2.2.1; omega) (by have := h.2.1; omega)
  obtain ⟨⟨t0, t1, t2, t3⟩, hr⟩ : ∃ r, rs[0]'(by rw [HRS.out.1]; exact htn1) = r := ⟨_, rfl⟩
  have hrk := (HRS.out.2 (t0, t1, t2, t3) (by rw [← hr]; exact List.getElem_mem _)).1
  have hr2 : rs[0]? = some (t0, t1, t2, t3) := by rw [List.getElem?_eq_getElem (by rw [HRS.out.1]; exact htn1), hr]
  have HR2 := Lib.hid hr2
  have HRK := Lib.hid hrk
  clear hr hr2 hrk
  obtain ⟨p0, hp0⟩ : ∃ p, ceilF t0 dx = p := ⟨_, rfl⟩
  obtain ⟨p1, hp1⟩ : ∃ p, ceilF t1 dy = p := ⟨_, rfl⟩
  obtain ⟨p2, hp2⟩ : ∃ p, ceilF t2 dx = p := ⟨_, rfl⟩
  obtain ⟨p3, hp3⟩ : ∃ p, ceilF t3 dy = p := ⟨_, rfl⟩
  have hq := over_ok HRK.out dx dy (by omega) (by omega) (by omega)
  simp only at hq
  have hrk := HRK.out
  unfold RcOk inN at hrk
  simp only at hrk
  have PT1 : Hid (∀ u, Calls Try.prog 21 #[.agg #[.int .i64 t0, .int .i64 t1, .int .i64 t2, .int .i64 t3], .int .i64 dx, .int .i64 dy] u fun e w' => e = .returned (.agg #[.int .i64 p0, .int .i64 p1, .int .i64 p2, .int .i64 p3]) ∧ Below u.heap.size u w') := Lib.hid fun u => by
    have := part_any t0 t1 t2 t3 dx dy u (by omega) (by omega) (by omega) (by omega) (by omega) (by omega)
    rw [hp0, hp1, hp2, hp3] at this
    exact this
  rw [hp0, hp1, hp2, hp3] at hq
  have HQ := Lib.hid hq
  clear hp0 hp1 hp2 hp3 hq hrk
  obtain ⟨TA', TC', hTA, hTcell⟩ := HRT5.out
  injection hTA with hTA1 hTA2 hTA3
  subst hTA1 hTA3
  obtain ⟨tg, tq, rfl, htg, x0, x1, x2, x3⟩ := hTcell 0 _ HR2.out
  have HT4 : Hid (tg < W5.heap.size ∧ W5.cell? ⟨tg, tq, none⟩ = some (.int .i64 t0) ∧ W5.cell? ⟨tg, tq + 1, none⟩ = some (.int .i64 t1) ∧ W5.cell? ⟨tg, tq + 2, none⟩ = some (.int .i64 t2) ∧ W5.cell? ⟨tg, tq + 3, none⟩ = some (.int .i64 t3)) := Lib.hid ⟨htg, by simpa using x0, by simpa using x1, by simpa using x2, by simpa using x3⟩
  clear hTA2 hTcell htg x0 x1 x2 x3
  have HM3f : Hid (bm + 2 ≤ W5.heap.size ∧ W5.heap[bm]? = some (.cells #[.int .i64 X, .int .i64 Y, .int .i64 OX, .int .i64 OY, .slice (some ⟨cg, 0, none⟩) N C2] 24 (0, 0)) ∧ W5.heap[bm + 1]? = some (.cells #[.int .i64 TX, .int .i64 TY, .int .i64 (LV : Int), .int .i64 (BW : Int), .int .i64 (BH : Int), .int .i64 (PR : Int), .int .i64 ST, .int .i64 OD, .int .i64 (LY : Int), .bool RC, .bool SO, .bool EP] 26 (0, 0))) := Lib.hid ⟨HM3.out.sz, HM3.out.b 0 _ rfl, HM3.out.b 1 _ rfl⟩
  have i0' : W5.cell? ⟨bm, 0, none⟩ = some (.int .i64 X) := blk_cell HM3f.out.2.1 0
  have i1' : W5.cell? ⟨bm, 1, none⟩ = some (.int .i64 Y) := blk_cell HM3f.out.2.1 1
  have i2' : W5.cell? ⟨bm, 2, none⟩ = some (.int .i64 OX) := blk_cell HM3f.out.2.1 2
  have i3' : W5.cell? ⟨bm, 3, none⟩ = some (.int .i64 OY) := blk_cell HM3f.out.2.1 3
  have s1 := HARW.out.1
  have s2 := HARW.out.2
  go_upto_region 14 with fail
  clear i0' i1' i2' i3' s1 s2
  have htI : (0 : Int) < (tn : Int) ∧ ¬ tn = 0 := by omega
  go_cut [8] from 106 to 119 (fun v wx => ∃ q8, v = .pointer (some ⟨q8, 0, none⟩) ∧ Hid (Below W5.heap.size W5 wx ∧ W5.heap.size ≤ q8 ∧ wx.heap[q8]? = some (.cells #[.int .i64 p0, .int .i64 p1, .int .i64 p2, .int .i64 p3] 48 (0, 0))))
  case first =>
    obtain ⟨VL, hVL⟩ : ∃ VL : Nat → List (Nat × Nat × Value), VL = fun z => [(0, 106, .slice (some ⟨tg, tq, none⟩) tn TC), (1, 107, .pointer (some ⟨tg, tq, none⟩)), (2, 108, .agg #[.int .i64 t0, .int .i64 t1, .int .i64 t2, .int .i64 t3]), (3, 109, .pointer (some ⟨bm, 4, none⟩)), (4, 110, .slice (some ⟨cg, 0, none⟩) N C2), (5, 111, .pointer (some ⟨cg, 0, none⟩)), (6, 112, .pointer (some ⟨cg, 2, none⟩)), (7, 113, .int .i64 dx), (8, 114, .pointer (some ⟨bm, 4, none⟩)), (9, 115, .slice (some ⟨cg, 0, none⟩) N C2), (10, 116, .pointer (some ⟨cg, 0, none⟩)), (11, 117, .pointer (some ⟨cg, 3, none⟩)), (12, 118, .int .i64 dy), (13, 119, .agg #[.int .i64 p0, .int .i64 p1, .int .i64 p2, .int .i64 p3]), (14, 8, .pointer (some ⟨z, 0, none⟩))] := ⟨_, rfl⟩
    have hok : ∀ z, manyOk 298 (VL z) := fun z => by rw [hVL]; exact okB_ok rfl
    have HVL := Lib.hid hVL
    have hvi : ∀ z, ∀ x ∈ VL z, x.1 < 16 := fun z => by rw [hVL]; exact ltB_ok rfl
    have HOK := Lib.hid hok
    have HVI := Lib.hid hvi
    clear hVL hok hvi
    refine (wpIn_wide (n := 9)).1 (regionIn_many (N := 298) (w := _) VL (fun L z w' => (Below W5.heap.size W5 w' ∧ (L 14 = true → (W5.heap.size ≤ z ∧ w'.heap[z]? = some (.cells (bif L 15 then #[.int .i64 p0, .int .i64 p1, .int .i64 p2, .int .i64 p3] else #[.int .i64 0, .int .i64 0, .int .i64 0, .int .i64 0]) 48 (0, 0))))) ∧ True) [(3, .pointer (some ⟨bm, 0, none⟩)), (5, .slice (some ⟨tg, tq, none⟩) tn TC)] (by kernel_rfl) (by kernel_rfl) rfl (by simp only [List.forall_mem_cons, List.not_mem_nil, false_imp_iff, implies_true, and_true]; exact ⟨rfl, rfl⟩) HVI.out 0 ?start ?step ?fin)
    case start => exact ⟨⟨(Below.refl _ _).drew, fun h => (by cases h)⟩, trivial⟩
    case step =>
      intro gg_ hgN hgF ii_ hii_ L z w' hph hs hu
      obtain ⟨hcm, hph⟩ := hph
      have hF3 := hgF (3, .pointer (some ⟨bm, 0, none⟩)) (by simp)
      have hF5 := hgF (5, .slice (some ⟨tg, tq, none⟩) tn TC) (by simp)
      have hL := hu.1
      have hii_ : ii_ < 16 := hii_
      clear hgF
      obtain rfl | rfl | rfl | rfl | rfl | rfl | rfl | rfl | rfl | rfl | rfl | rfl | rfl | rfl | rfl | rfl := (by omega : ii_ = 0 ∨ ii_ = 1 ∨ ii_ = 2 ∨ ii_ = 3 ∨ ii_ = 4 ∨ ii_ = 5 ∨ ii_ = 6 ∨ ii_ = 7 ∨ ii_ = 8 ∨ ii_ = 9 ∨ ii_ = 10 ∨ ii_ = 11 ∨ ii_ = 12 ∨ ii_ = 13 ∨ ii_ = 14 ∨ ii_ = 15)
      · skip
        have n15 : L 15 = false := not_yet hL fun h => shut_at hs 15 0 (by kernel_rfl) (h)
        have e5 : (many gg_ L (VL z))[5]?.getD undef = .slice (some ⟨tg, tq, none⟩) tn TC := many_out3 hgN (HOK.out z) (by rw [HVL.out]; rfl) hF5
        refine opIn_run (v := .slice (some ⟨tg, tq, none⟩) tn TC) (w' := w') rfl rfl (fun c h => by cases h) (fun _ => trivial) ?_ ⟨z, by exact many_put3 (HOK.out _) (by rw [HVL.out]; rfl) hL, hcm, hph⟩
        go_simp
      · skip
        have y0 : L 0 = true := up_at hu 0 (by kernel_rfl)
        have n15 : L 15 = false := not_yet hL fun h => shut_at hs 15 1 (by kernel_rfl) (h)
        have e106 : (many gg_ L (VL z))[106]?.getD undef = .slice (some ⟨tg, tq, none⟩) tn TC := many_eval3 hgN (HOK.out z) (by rw [HVL.out]; rfl) y0
        refine opIn_run (v := .pointer (some ⟨tg, tq, none⟩)) (w' := w') rfl rfl (fun c h => by cases h) (fun _ => trivial) ?_ ⟨z, by exact many_put3 (HOK.out _) (by rw [HVL.out]; rfl) hL, hcm, trivial⟩
        go_simp
        try (intro h; omega)
      · skip
        have y1 : L 1 = true := up_at hu 1 (by kernel_rfl)
        have n15 : L 15 = false := not_yet hL fun h => shut_at hs 15 2 (by kernel_rfl) (h)
        have u0c := (hcm.1.cell (p := ⟨tg, tq, none⟩) HT4.out.1).trans HT4.out.2.1
        have u1c := (hcm.1.cell (p := ⟨tg, tq + 1, none⟩) HT4.out.1).trans HT4.out.2.2.1
        have u2c := (hcm.1.cell (p := ⟨tg, tq + 2, none⟩) HT4.out.1).trans HT4.out.2.2.2.1
        have u3c := (hcm.1.cell (p := ⟨tg, tq + 3, none⟩) HT4.out.1).trans HT4.out.2.2.2.2
        have e107 : (many gg_ L (VL z))[107]?.getD undef = .pointer (some ⟨tg, tq, none⟩) := many_eval3 hgN (HOK.out z) (by rw [HVL.out]; rfl) y1
        refine opIn_run (v := .agg #[.int .i64 t0, .int .i64 t1, .int .i64 t2, .int .i64 t3]) (w' := w') rfl rfl (fun c h => by cases h) (fun _ => trivial) ?_ ⟨z, by exact many_put3 (HOK.out _) (by rw [HVL.out]; rfl) hL, hcm, hph⟩
        go_simp
      · skip
        have n15 : L 15 = false := not_yet hL fun h => shut_at hs 15 3 (by kernel_rfl) (h)
        have e3 : (many gg_ L (VL z))[3]?.getD undef = .pointer (some ⟨bm, 0, none⟩) := many_out3 hgN (HOK.out z) (by rw [HVL.out]; rfl) hF3
        refine opIn_run (v := .pointer (some ⟨bm, 4, none⟩)) (w' := w') rfl rfl (fun c h => by cases h) (fun _ => trivial) ?_ ⟨z, by exact many_put3 (HOK.out _) (by rw [HVL.out]; rfl) hL, hcm, hph⟩
        go_simp
      · skip
        have y3 : L 3 = true := up_at hu 3 (by kernel_rfl)
        have n15 : L 15 = false := not_yet hL fun h => shut_at hs 15 4 (by kernel_rfl) (h)
        have hcell : w'.cell? ⟨bm, 4, none⟩ = some (.slice (some ⟨cg, 0, none⟩) N C2) := blk_cell ((hcm.1.block bm (by have := HM3f.out.1; omega)).trans HM3f.out.2.1) 4
        have e109 : (many gg_ L (VL z))[109]?.getD undef = .pointer (some ⟨bm, 4, none⟩) := many_eval3 hgN (HOK.out z) (by rw [HVL.out]; rfl) y3
        refine opIn_run (v := .slice (some ⟨cg, 0, none⟩) N C2) (w' := w') rfl rfl (fun c h => by cases h) (fun _ => trivial) ?_ ⟨z, by exact many_put3 (HOK.out _) (by rw [HVL.out]; rfl) hL, hcm, hph⟩
        go_simp
      · skip
        have y4 : L 4 = true := up_at hu 4 (by kernel_rfl)
        have n15 : L 15 = false := not_yet hL fun h => shut_at hs 15 5 (by kernel_rfl) (h)
        have e110 : (many gg_ L (VL z))[110]?.getD undef = .slice (some ⟨cg, 0, none⟩) N C2 := many_eval3 hgN (HOK.out z) (by rw [HVL.out]; rfl) y4
        refine opIn_run (v := .pointer (some ⟨cg, 0, none⟩)) (w' := w') rfl rfl (fun c h => by cases h) (fun _ => trivial) ?_ ⟨z, by exact many_put3 (HOK.out _) (by rw [HVL.out]; rfl) hL, hcm, trivial⟩
        go_simp
        try (intro h; omega)
      · skip
        have y5 : L 5 = true := up_at hu 5 (by kernel_rfl)
        have n15 : L 15 = false := not_yet hL fun h => shut_at hs 15 6 (by kernel_rfl) (h)
        have e111 : (many gg_ L (VL z))[111]?.getD undef = .pointer (some ⟨cg, 0, none⟩) := many_eval3 hgN (HOK.out z) (by rw [HVL.out]; rfl) y5
        refine opIn_run (v := .pointer (some ⟨cg, 2, none⟩)) (w' := w') rfl rfl (fun c h => by cases h) (fun _ => trivial) ?_ ⟨z, by exact many_put3 (HOK.out _) (by rw [HVL.out]; rfl) hL, hcm, hph⟩
        go_simp
      · skip
        have y6 : L 6 = true := up_at hu 6 (by kernel_rfl)
        have n15 : L 15 = false := not_yet hL fun h => shut_at hs 15 7 (by kernel_rfl) (h)
        have hcell : w'.cell? ⟨cg, 2, none⟩ = some (.int .i64 dx) := (hcm.1.cell (p := ⟨cg, 2, none⟩) HC2.out.1).trans HC2.out.2.1
        have e112 : (many gg_ L (VL z))[112]?.getD undef = .pointer (some ⟨cg, 2, none⟩) := many_eval3 hgN (HOK.out z) (by rw [HVL.out]; rfl) y6
        refine opIn_run (v := .int .i64 dx) (w' := w') rfl rfl (fun c h => by cases h) (fun _ => trivial) ?_ ⟨z, by exact many_put3 (HOK.out _) (by rw [HVL.out]; rfl) hL, hcm, hph⟩
        go_simp
      · skip
        have n15 : L 15 = false := not_yet hL fun h => shut_at hs 15 8 (by kernel_rfl) (h)
        have e3 : (many gg_ L (VL z))[3]?.getD undef = .pointer (some ⟨bm, 0, none⟩) := many_out3 hgN (HOK.out z) (by rw [HVL.out]; rfl) hF3
        refine opIn_run (v := .pointer (some ⟨bm, 4, none⟩)) (w' := w') rfl rfl (fun c h => by cases h) (fun _ => trivial) ?_ ⟨z, by exact many_put3 (HOK.out _) (by rw [HVL.out]; rfl) hL, hcm, hph⟩
        go_simp
      · skip
        have y8 : L 8 = true := up_at hu 8 (by kernel_rfl)
        have n15 : L 15 = false := not_yet hL fun h => shut_at hs 15 9 (by kernel_rfl) (h)
        have hcell : w'.cell? ⟨bm, 4, none⟩ = some (.slice (some ⟨cg, 0, none⟩) N C2) := blk_cell ((hcm.1.block bm (by have := HM3f.out.1; omega)).trans HM3f.out.2.1) 4
        have e114 : (many gg_ L (VL z))[114]?.getD undef = .pointer (some ⟨bm, 4, none⟩) := many_eval3 hgN (HOK.out z) (by rw [HVL.out]; rfl) y8
        refine opIn_run (v := .slice (some ⟨cg, 0, none⟩) N C2) (w' := w') rfl rfl (fun c h => by cases h) (fun _ => trivial) ?_ ⟨z, by exact many_put3 (HOK.out _) (by rw [HVL.out]; rfl) hL, hcm, hph⟩
        go_simp
      · skip
        have y9 : L 9 = true := up_at hu 9 (by kernel_rfl)
        have n15 : L 15 = false := not_yet hL fun h => shut_at hs 15 10 (by kernel_rfl) (h)
        have e115 : (many gg_ L (VL z))[115]?.getD undef = .slice (some ⟨cg, 0, none⟩) N C2 := many_eval3 hgN (HOK.out z) (by rw [HVL.out]; rfl) y9
        refine opIn_run (v := .pointer (some ⟨cg, 0, none⟩)) (w' := w') rfl rfl (fun c h => by cases h) (fun _ => trivial) ?_ ⟨z, by exact many_put3 (HOK.out _) (by rw [HVL.out]; rfl) hL, hcm, trivial⟩
        go_simp
        try (intro h; omega)
      · skip
        have y10 : L 10 = true := up_at hu 10 (by kernel_rfl)
        have n15 : L 15 = false := not_yet hL fun h => shut_at hs 15 11 (by kernel_rfl) (h)
        have e116 : (many gg_ L (VL z))[116]?.getD undef = .pointer (some ⟨cg, 0, none⟩) := many_eval3 hgN (HOK.out z) (by rw [HVL.out]; rfl) y10
        refine opIn_run (v := .pointer (some ⟨cg, 3, none⟩)) (w' := w') rfl rfl (fun c h => by cases h) (fun _ => trivial) ?_ ⟨z, by exact many_put3 (HOK.out _) (by rw [HVL.out]; rfl) hL, hcm, hph⟩
        go_simp
      · skip
        have y11 : L 11 = true := up_at hu 11 (by kernel_rfl)
        have n15 : L 15 = false := not_yet hL fun h => shut_at hs 15 12 (by kernel_rfl) (h)
        have hcell : w'.cell? ⟨cg, 3, none⟩ = some (.int .i64 dy) := (hcm.1.cell (p := ⟨cg, 3, none⟩) HC2.out.1).trans HC2.out.2.2
        have e117 : (many gg_ L (VL z))[117]?.getD undef = .pointer (some ⟨cg, 3, none⟩) := many_eval3 hgN (HOK.out z) (by rw [HVL.out]; rfl) y11
        refine opIn_run (v := .int .i64 dy) (w' := w') rfl rfl (fun c h => by cases h) (fun _ => trivial) ?_ ⟨z, by exact many_put3 (HOK.out _) (by rw [HVL.out]; rfl) hL, hcm, hph⟩
        go_simp
      · skip
        have y2 : L 2 = true := up_at hu 2 (by kernel_rfl)
        have y7 : L 7 = true := up_at hu 7 (by kernel_rfl)
        have y12 : L 12 = true := up_at hu 12 (by kernel_rfl)
        have n15 : L 15 = false := not_yet hL fun h => shut_at hs 15 13 (by kernel_rfl) (h)
        have e108 : (many gg_ L (VL z))[108]?.getD undef = .agg #[.int .i64 t0, .int .i64 t1, .int .i64 t2, .int .i64 t3] := many_eval3 hgN (HOK.out z) (by rw [HVL.out]; rfl) y2
        have e113 : (many gg_ L (VL z))[113]?.getD undef = .int .i64 dx := many_eval3 hgN (HOK.out z) (by rw [HVL.out]; rfl) y7
        have e118 : (many gg_ L (VL z))[118]?.getD undef = .int .i64 dy := many_eval3 hgN (HOK.out z) (by rw [HVL.out]; rfl) y12
        refine opIn_call (f := 21) (args := #[.agg #[.int .i64 t0, .int .i64 t1, .int .i64 t2, .int .i64 t3], .int .i64 dx, .int .i64 dy]) (w' := w') rfl rfl (fun c h => by cases h) (fun _ => trivial) rfl (by go_simp) ((callsIn_wide.2 (PT1.out w')).mono ?_)
        rintro e w2 ⟨rfl, hb⟩
        exact ⟨_, rfl, z, by exact many_put3 (HOK.out _) (by rw [HVL.out]; rfl) hL, ⟨hcm.1.trans (hb.mono hcm.1.size), (fun a => have t := hcm.2 a; ⟨t.1, (hb.block _ (Array.getElem?_eq_some_iff.1 t.2).1).trans t.2⟩)⟩, trivial⟩
      · skip
        have n15 : L 15 = false := not_yet hL fun h => shut_at hs 15 14 (by kernel_rfl) (h)
        refine opIn_run (v := (.pointer (some ⟨w'.heap.size, 0, none⟩))) (w' := w'.alloc (.cells #[.int .i64 0, .int .i64 0, .int .i64 0, .int .i64 0] 48)) rfl rfl (fun c h => by cases h) (fun _ => trivial) ?_ ⟨w'.heap.size, by rw [show many gg_ L (VL z) = many gg_ L (VL w'.heap.size) from by rw [HVL.out]; simp only [many, n15, hL, cond_false, cond_true]]; exact many_put3 (HOK.out _) (by rw [HVL.out]; rfl) hL, ⟨hcm.1.alloc hcm.1.size _, fun _ => ⟨hcm.1.size, by simp only [upd, n15]; exact World.alloc_heap_new w' _⟩⟩, trivial⟩
        go_simp
      · skip
        have y0 : L 0 = true := up_at hu 0 (by kernel_rfl)
        have y1 : L 1 = true := up_at hu 1 (by kernel_rfl)
        have y2 : L 2 = true := up_at hu 2 (by kernel_rfl)
        have y3 : L 3 = true := up_at hu 3 (by kernel_rfl)
        have y4 : L 4 = true := up_at hu 4 (by kernel_rfl)
        have y5 : L 5 = true := up_at hu 5 (by kernel_rfl)
        have y6 : L 6 = true := up_at hu 6 (by kernel_rfl)
        have y7 : L 7 = true := up_at hu 7 (by kernel_rfl)
        have y8 : L 8 = true := up_at hu 8 (by kernel_rfl)
        have y9 : L 9 = true := up_at hu 9 (by kernel_rfl)
        have y10 : L 10 = true := up_at hu 10 (by kernel_rfl)
        have y11 : L 11 = true := up_at hu 11 (by kernel_rfl)
        have y12 : L 12 = true := up_at hu 12 (by kernel_rfl)
        have y13 : L 13 = true := up_at hu 13 (by kernel_rfl)
        have y14 : L 14 = true := up_at hu 14 (by kernel_rfl)
        have e8 : (many gg_ L (VL z))[8]?.getD undef = .pointer (some ⟨z, 0, none⟩) := many_eval3 hgN (HOK.out z) (by rw [HVL.out]; rfl) y14
        have e119 : (many gg_ L (VL z))[119]?.getD undef = .agg #[.int .i64 p0, .int .i64 p1, .int .i64 p2, .int .i64 p3] := many_eval3 hgN (HOK.out z) (by rw [HVL.out]; rfl) y13
        refine opIn_skip (w' := w'.setRow z #[.int .i64 p0, .int .i64 p1, .int .i64 p2, .int .i64 p3]) rfl rfl (fun c h => by cases h) (fun _ => trivial) ?_ ⟨z, by exact many_none 15 _ (by rw [HVL.out]; simp), ⟨below_setRow hcm.1 (hcm.2 y14).1 _, fun _ => ⟨(hcm.2 y14).1, by simp only [upd_self, cond_true]; exact setRow_heap _ _ _ _ _ _ (hcm.2 y14).2⟩⟩, trivial⟩
        exact run_store_many e8 e119 (hcm.2 y14).2 (by kernel_rfl) (by cases L 15 <;> rfl) (by kernel_rfl)
    case fin =>
      intro L z w' hall hph
      obtain ⟨hcm, hph⟩ := hph
      have l15 := hall 15 (by decide)
      have K := hcm.2 (hall 14 (by decide))
      simp only [l15, cond_true] at K
      have KB := hcm.1
      clear hcm hph
      rw [HVL.out]
      dsimp only [manyL, List.set_cons_zero, List.set_cons_succ]
      clear hall HVL HOK HVI
      have HP := Lib.hid (And.intro KB K)
      clear KB K
      go_wp2_with fail
      go_meet
      exact ⟨_, rfl, HP⟩
  case rest =>
   obtain ⟨q8, rfl, HB1⟩ := hcut
   obtain ⟨W1, hW1⟩ : ∃ W1, W1 = wc := ⟨wc, rfl⟩
   subst hW1
   clear PT1
   have HM1 : Hid (bm + 1 + 1 ≤ W1.heap.size ∧ True ∧ W1.heap[bm + 1]? = some (.cells #[.int .i64 TX, .int .i64 TY, .int .i64 (LV : Int), .int .i64 (BW : Int), .int .i64 (BH : Int), .int .i64 (PR : Int), .int .i64 ST, .int .i64 OD, .int .i64 (LY : Int), .bool RC, .bool SO, .bool EP] 26 (0, 0)) ∧ q8 < W1.heap.size ∧ W1.heap[q8]? = some (.cells #[.int .i64 p0, .int .i64 p1, .int .i64 p2, .int .i64 p3] 48 (0, 0))) := Lib.hid (by
     have h0 := HM3f.out.1
     have h1 := HB1.out.1.size
     exact ⟨by omega, trivial, (HB1.out.1.block (bm + 1) (by omega)).trans HM3f.out.2.2, (Array.getElem?_eq_some_iff.1 HB1.out.2.2).1, HB1.out.2.2⟩)
   have HBW : Hid (Below B0 w W1) := Lib.hid (HB2.out.trans ((HM3.out.bel.mono (by have := HBM.out; have := HB2.out.size; have := HBE.out; omega)).trans (HB1.out.1.mono (by have := HBM.out; have := HB2.out.size; have := HBE.out; have := HM3.out.bel.size; omega))))
   clear HB1 HM3 HM3f HC0 HC2 HR2 HRK HTN HCT HB2 HBM HT4 HRT5 HARW
   go_upto_block 2 with fail
   refine wp_code (c' := blkOf Try.f5 2) (by kernel_rfl) (cvR (bm + 1) q8 TX TY ST OD LV BW BH PR LY RC SO EP p0 p1 p2 p3 W1 HM1 HQ (by omega) (by omega) (by omega) ?_)
   intro v2 v11 v12 v13 v14 v15 v16 v17 v18 v19 v20 v21 v22 v23 v24 v25 v120 v121 v122 v123 v124 v125 v126 v127 v128 v129 v130 v131 v132 v133 v134 v135 v136 v137 v138 v139 v140 v141 v142 v143 v144 v145 v146 v147 v148 v149 v150 v151 v152 v153 v154 v155 v156 v157 v158 v159 v160 v161 v162 v163 v164 v165 v166 v167 v168 v169 v170 v171 v172 v173 v174 v175 v176 v177 v178 v179 v180 v181 v182 v183 v184 v185 v186 v187 v188 v189 v190 v191 v192 v193 v194 v195 v196 v197 v198 v199 v200 v201 v202 v203 v204 v205 v206 v207 v208 v209 v210 v211 v212 v213 v214 v215 v216 v217 v218 v219 v220 v221 v222 v223 v224 v225 v226 v227 v228 v229 v230 v231 v232 v233 v234 v235 v236 v237 v238 v239 v240 v241 v242 v243 v244 v245 v246 v247 v248 v249 v250 v251 v252 v253 v254 v255 v256 v257 v258 v259 v260 v261 v262 v263 v264 v265 v266 v267 v268 v269 v270 v271 v272 v273 v274 v275 v276 v277 v278 v279 v280 v281 v282 v283 v284 v285 v286 v287 v288 v289 v290 v291 v292 v293 W7 HB7
   have hqq := HQ.out
   unfold RcOk inN at hqq
   simp only at hqq
   obtain ⟨ap, hap⟩ : ∃ a, areaR (p0, p1, p2, p3) = a := ⟨_, rfl⟩
   have AQ : Hid (∀ u, Calls Try.prog 32 #[.agg #[.int .i64 p0, .int .i64 p1, .int .i64 p2, .int .i64 p3]] u fun e w' => e = .returned (.int .i64 ap) ∧ Below u.heap.size u w') := Lib.hid fun u => by
     have := rarea_any p0 p1 p2 p3 u (by omega) (by omega)
     rw [← hap]
     exact this
   rw [hap]
   obtain ⟨x0, x1, x2, x3⟩ := rc_cells ((HB7.out.block _ HM1.out.2.2.2.1).trans HM1.out.2.2.2.2)
   clear hap
   go_wp2_with fail
   refine (AQ.out _).mono ?_
   rintro e' w9 ⟨rfl, hb9⟩
   have HB9 : Hid (Below B0 w w9) := Lib.hid (HBW.out.trans ((HB7.out.trans (hb9.mono HB7.out.size)).mono (by have := HBW.out.size; have := HBE.out; omega)))
   clear hb9 x0 x1 x2 x3 AQ
   go_wp2
   go_ret
   exact ⟨rfl, by rw [HBE.out]; exact HB9.out⟩
end Go.Proofs.Ythcpmonahmogaaa
