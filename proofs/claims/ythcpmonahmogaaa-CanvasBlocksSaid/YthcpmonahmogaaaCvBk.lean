/- canvas: CanvasBlocks walked. -/
import Derived.Test.YthcpmonahmogaaaCvBj
import Derived.Test.YthcpmonahmogaaaCvCc
import Derived.Test.YthcpmonahmogaaaCvR0
import Derived.Test.YthcpmonahmogaaaReg3
import Derived.Test.YthcpmonahmogaaaCvM5
import Derived.Laws.Rows
import Derived.Deep.QuietTactic
import Derived.BigQuiet
import Derived.Deep.CutRange
import Derived.Deep.CutBlock
import Derived.Deep.LoopGhost
set_option linter.unusedVariables false
set_option linter.unusedSimpArgs false
namespace Go.Proofs.Ythcpmonahmogaaa
open Go.RowKit
set_option maxRecDepth 100000
set_option maxHeartbeats 16000000 in
theorem walk_canvasBlocks (f : FN) (A0 : Option Addr) (len0 cap0 : Nat) (z0 : List Int) (a1 a2 : Int) (w : World) (w0 : IsRow .i64 w A0 len0 cap0 z0) (s0 : -9223372036854775808 ≤ f.sb ∧ f.sb ≤ 9223372036854775807) (wf1 : (Lit.int .i64 a1).wf = true) (wf2 : (Lit.int .i64 a2).wf = true) :
    Calls Try.prog 9 #[.agg (f.arr A0 len0 cap0), .int .i64 a1, .int .i64 a2] w fun e w' => e = .returned (.bool true) ∧ Below w.heap.size w w' := by
  have MK := Lib.hid (fun u hu => make_any f A0 len0 cap0 z0 20 u (by omega) hu s0)
  obtain ⟨fc, hfc⟩ : ∃ fc, f.arr A0 len0 cap0 = fc := ⟨_, rfl⟩
  have hfs : fc.size = 21 := by rw [← hfc]; rfl
  rw [hfc] at MK ⊢
  have HFS := Lib.hid hfs
  clear hfc hfs
  have HOK := mkPN_ok f 20 (by omega)
  obtain ⟨M, hM⟩ : ∃ M, mkPN f 20 = M := ⟨_, rfl⟩
  obtain ⟨N, hN⟩ : ∃ N, mkN f = N := ⟨_, rfl⟩
  have hNb : 1 ≤ N ∧ N ≤ 4 := by
    have := within_rng f.nc 4 (by omega)
    rw [← hN]
    unfold mkN
    omega
  obtain ⟨DP, hDP⟩ : ∃ D, mkDP f = D := ⟨_, rfl⟩
  have hDPb : 1 ≤ DP ∧ DP ≤ 10 := by
    have := within_rng f.dp 10 (by omega)
    rw [← hDP]
    unfold mkDP
    omega
  rw [hM, hN, hDP] at MK
  rw [hM] at HOK
  have HMN : Hid (mkPN f 20 = M ∧ mkN f = N ∧ mkDP f = DP) := Lib.hid ⟨hM, hN, hDP⟩
  clear hM hN hDP
  obtain ⟨X, Y, OX, OY, TX, TY, LV, BW, BH, PR, ST, OD, LY, RC, SO, EP⟩ := M
  obtain ⟨o1, o2, o3, o4, o5, o6, o7, o8, o9, o10, o11, o12, o13⟩ := HOK
  simp only at o1 o2 o3 o4 o5 o6 o7 o8 o9 o10 o11 o12 o13
  go_enter Try.func9, Try.ntmps9
  go_wp2_with fail
  obtain ⟨B0, hB0⟩ : ∃ B, w.heap.size = B := ⟨_, rfl⟩
  obtain ⟨Wf, hWf⟩ : ∃ Wf, w.alloc (Obj.cells fc 29) = Wf := ⟨_, rfl⟩
  have HF0 : Hid (MkW w B0 [(fc, 29)] Wf) := Lib.hid (by
    have h0 : MkW w B0 [] w := ⟨fun i c e => by simp at e, Below.refl _ _, by simp; omega⟩
    have h1 := h0.more (by simp; omega) fc 29
    rw [← hWf]; exact h1)
  rw [hWf, hB0]
  have HBE := Lib.hid hB0
  clear hWf hB0
  refine (known12 _).mono ?_
  rintro e w1 ⟨rfl, hb⟩
  have HF1 := Lib.hid (HF0.out.keep hb)
  clear hb HF0
  have MK1 := MK.out w1 (IsRow.below w0 (by rw [HBE.out]; exact HF1.out.bel))
  go_wp2_with (refine wpList_load_row rfl 29 _ rfl B0 rfl 29 fc (0, 0) _ (show w1.heap[B0]? = _ from HF1.out.b 0 _ rfl) Try.underlying29 rfl (by rw [HFS.out]; kernel_rfl) ?_)
  refine MK1.mono ?_
  rintro e w2 ⟨A2, C2, cs, rfl, hcl, hCR, hKY, hb, hfx⟩
  try simp only at hfx
  try simp only at hKY
  have HB2 : Hid (Below B0 w w2) := Lib.hid (HF1.out.bel.trans (hb.mono (by have := HF1.out.sz; simp at this; omega)))
  have HCR : Hid (CRow B0 w2 (.slice A2 N C2) cs) := Lib.hid (by
    have h1 := HF1.out.sz
    simp at h1
    exact ⟨own_low hCR.own (by omega), fun c hc => (hCR.dat c hc).low (by omega)⟩)
  have HKY := Lib.hid hKY
  have HCL := Lib.hid hcl
  obtain ⟨hTX, hTY, hCT⟩ := hfx
  have HCT := Lib.hid hCT
  clear MK MK1 hb hCR hKY hcl hCT HF1 w0 s0
  have hgr := frame_tiles (x := X) (y := Y) (ox := OX) (oy := OY) (tx := TX) (ty := TY) (by omega) (by omega) (by omega) (by omega) HCT.out
  have bw1 := ceil_bd X TX (by omega) (by omega)
  have bw2 := ceil_bd Y TY (by omega) (by omega)
  obtain ⟨wd, hwd⟩ : ∃ wd : Nat, ceilF X TX = (wd : Int) := ⟨(ceilF X TX).toNat, by omega⟩
  obtain ⟨ht, hht⟩ : ∃ ht : Nat, ceilF Y TY = (ht : Int) := ⟨(ceilF Y TY).toNat, by omega⟩
  obtain ⟨rs, hrs⟩ : ∃ rs, rtls X Y OX OY TX TY wd ht = rs := ⟨_, rfl⟩
  obtain ⟨tn, htn⟩ : ∃ tn, ht * wd = tn := ⟨_, rfl⟩
  have htn6 : tn ≤ 6 := by
    have h := HCT.out
    unfold cntT at h
    rw [hwd, hht, Int.toNat_natCast, Int.toNat_natCast] at h
    omega
  have HRS : Hid (rs.length = tn ∧ (∀ r ∈ rs, RcOk 25 r ∧ (OX ≤ r.1 ∧ r.1 < r.2.2.1 ∧ r.2.2.1 ≤ X) ∧ (OY ≤ r.2.1 ∧ r.2.1 < r.2.2.2 ∧ r.2.2.2 ≤ Y))) := Lib.hid (by
    refine ⟨by rw [← hrs, rtls_cell, List.length_map, plP_len, htn], ?_⟩
    rw [← hrs]
    exact tile_ok (by omega) (by omega) o5 o6 hwd hht)
  have CTL : Hid (∀ u, Calls Try.prog 18 #[.agg #[.int .i64 X, .int .i64 Y, .int .i64 OX, .int .i64 OY, .slice A2 N C2], .agg #[.int .i64 TX, .int .i64 TY, .int .i64 (LV : Int), .int .i64 (BW : Int), .int .i64 (BH : Int), .int .i64 (PR : Int), .int .i64 ST, .int .i64 OD, .int .i64 (LY : Int), .bool RC, .bool SO, .bool EP]] u fun e w' => ∃ A c, e = .returned (.slice A tn c) ∧ RcL w' w'.heap.size (.slice A tn c) rs ∧ Below u.heap.size u w') := Lib.hid fun u => by
    refine (tilesL X Y OX OY A2 N C2 TX TY LV BW BH PR ST OD LY RC SO EP u hgr.1 hgr.2).mono ?_
    rintro e w' ⟨A, c, he, ho, hb⟩
    rw [hwd, hht, Int.toNat_natCast, Int.toNat_natCast, htn] at he ho
    refine ⟨A, c, he, RcL.own (q := u.heap.size) (m := tn) ?_ HRS.out.1, hb⟩
    rw [← List.flatMap_map, ← rtls_cell, hrs] at ho
    exact ho
  have CTR : Hid (∀ u, Calls Try.prog 20 #[.agg #[.int .i64 X, .int .i64 Y, .int .i64 OX, .int .i64 OY, .slice A2 N C2], .agg #[.int .i64 TX, .int .i64 TY, .int .i64 (LV : Int), .int .i64 (BW : Int), .int .i64 (BH : Int), .int .i64 (PR : Int), .int .i64 ST, .int .i64 OD, .int .i64 (LY : Int), .bool RC, .bool SO, .bool EP]] u fun e w' => ∃ A c, e = .returned (.slice A tn c) ∧ RcL w' w'.heap.size (.slice A tn c) rs ∧ Below u.heap.size u w') := Lib.hid fun u => by
    refine (rtiles_any X Y OX OY A2 N C2 TX TY LV BW BH PR ST OD LY RC SO EP wd ht u (by omega) (by omega) (by omega) (by omega) hwd hht).mono ?_
    rintro e w' ⟨A, c, he, ho, hb⟩
    rw [htn] at he ho
    rw [hrs] at ho
    exact ⟨A, c, he, RcL.own ho HRS.out.1, hb⟩
  have HTN : Hid (ht * wd = tn ∧ ceilF X TX = (wd : Int) ∧ ceilF Y TY = (ht : Int) ∧ rtls X Y OX OY TX TY wd ht = rs) := Lib.hid ⟨htn, hwd, hht, hrs⟩
  clear hgr bw1 bw2 hwd hht hrs htn
  go_wp2_with fail
  obtain ⟨bm, hbm⟩ : ∃ bm, w2.heap.size = bm := ⟨_, rfl⟩
  obtain ⟨W3, hW3⟩ : ∃ W3, (w2.alloc (Obj.cells #[.int .i64 X, .int .i64 Y, .int .i64 OX, .int .i64 OY, .slice A2 N C2] 24)).alloc (Obj.cells #[.int .i64 TX, .int .i64 TY, .int .i64 (LV : Int), .int .i64 (BW : Int), .int .i64 (BH : Int), .int .i64 (PR : Int), .int .i64 ST, .int .i64 OD, .int .i64 (LY : Int), .bool RC, .bool SO, .bool EP] 26) = W3 := ⟨_, rfl⟩
  have HM3 : Hid (MkW w2 bm [(#[.int .i64 X, .int .i64 Y, .int .i64 OX, .int .i64 OY, .slice A2 N C2], 24), (#[.int .i64 TX, .int .i64 TY, .int .i64 (LV : Int), .int .i64 (BW : Int), .int .i64 (BH : Int), .int .i64 (PR : Int), .int .i64 ST, .int .i64 OD, .int .i64 (LY : Int), .bool RC, .bool SO, .bool EP], 26)] W3) := Lib.hid (by
    have h0 : MkW w2 bm [] w2 := ⟨fun i c e => by simp at e, Below.refl _ _, by simp; omega⟩
    have h1 := (h0.more (by simp; omega) #[.int .i64 X, .int .i64 Y, .int .i64 OX, .int .i64 OY, .slice A2 N C2] 24).more (by simp; omega) #[.int .i64 TX, .int .i64 TY, .int .i64 (LV : Int), .int .i64 (BW : Int), .int .i64 (BH : Int), .int .i64 (PR : Int), .int .i64 ST, .int .i64 OD, .int .i64 (LY : Int), .bool RC, .bool SO, .bool EP] 26
    rw [← hW3]; exact h1)
  rw [hW3, hbm]
  have HBM := Lib.hid hbm
  clear hW3 hbm
  refine (within12 a1 ((LV : Int) + 1) W3 (by omega) (by omega)).mono ?_
  rintro e w' ⟨rfl, rfl⟩
  obtain ⟨r, hr⟩ : ∃ r : Nat, a1 % ((LV : Int) + 1) = (r : Int) := ⟨(a1 % ((LV : Int) + 1)).toNat, by have := within_rng a1 ((LV : Int) + 1) (by omega); omega⟩
  have hrl : r ≤ LV := by have := within_rng a1 ((LV : Int) + 1) (by omega); omega
  rw [hr]
  clear hr
  have hcl1 : 1 ≤ cs.length := by have := HCL.out; omega
  obtain ⟨cg, hcg⟩ : ∃ cg, A2 = some ⟨cg, 0, none⟩ := by
    obtain ⟨g, cap, hv, _⟩ := own_form HCR.out.own hcl1
    injection hv with h1
    exact ⟨g, h1⟩
  subst hcg
  have HC0 : Hid (CRow B0 W3 (.slice (some ⟨cg, 0, none⟩) N C2) cs) := Lib.hid (HCR.out.below (by have := HM3.out.bel; rw [← HBM.out] at this; exact this))
  obtain ⟨cp, hcp⟩ : ∃ cp, cs[0] = cp := ⟨_, rfl⟩
  have hcp2 : cs[0]? = some cp := by rw [List.getElem?_eq_getElem hcl1, hcp]
  obtain ⟨k1, _, k3, k4, _⟩ := HKY.out 0 cp hcp2
  have kb := cpK_bd (sb := f.sb) (DP := DP) 0 hDPb
  obtain ⟨cg', cap', hv', _, hcgl, _, _, _, _, y2, y3, _⟩ := HC0.out.cells hcp2
  injection hv' with hv1 hv2 hv3
  injection hv1 with hv1
  injection hv1 with hv1
  subst hv1
  obtain ⟨dx, hdx⟩ : ∃ dx, cp.dx = dx := ⟨_, rfl⟩
  obtain ⟨dy, hdy⟩ : ∃ dy, cp.dy = dy := ⟨_, rfl⟩
  rw [← k3, ← k4, hdx, hdy] at kb
  have hdxb := kb.2.1
  have hdyb := kb.2.2
  rw [hdx] at y2
  rw [hdy] at y3
  have HC2 : Hid (cg < W3.heap.size ∧ W3.cell? ⟨cg, 2, none⟩ = some (.int .i64 dx) ∧ W3.cell? ⟨cg, 3, none⟩ = some (.int .i64 dy)) := Lib.hid ⟨hcgl, y2, y3⟩
  clear hv2 hv3 hcgl y2 y3 hcp hcp2 k1 k3 k4 kb hdx hdy HCR hcl1
  have htn1 : 0 < tn := by
    have h := HTN.out
    have e1 : (0 : Int) < ceilF X TX := (lt_ceil (by omega)).1 (by omega)
    have e2 : (0 : Int) < ceilF Y TY := (lt_ceil (by omega)).1 (by omega)
    rw [← h.1]
    exact Nat.mul_pos (by have := h.2.2.1; omega) (by have := h.2.1; omega)
  obtain ⟨⟨t0, t1, t2, t3⟩, hr⟩ : ∃ r, rs[0]'(by rw [HRS.out.1]; exact htn1) = r := ⟨_, rfl⟩
  have hrk := (HRS.out.2 (t0, t1, t2, t3) (by rw [← hr]; exact List.getElem_mem _)).1
  have hr2 : rs[0]? = some (t0, t1, t2, t3) := by rw [List.getElem?_eq_getElem (by rw [HRS.out.1]; exact htn1), hr]
  have HR2 := Lib.hid hr2
  have HRK := Lib.hid hrk
  clear hr hr2 hrk
  obtain ⟨p0, hp0⟩ : ∃ p, ceilF t0 dx = p := ⟨_, rfl⟩
  obtain ⟨p1, hp1⟩ : ∃ p, ceilF t1 dy = p := ⟨_, rfl⟩
  obtain ⟨p2, hp2⟩ : ∃ p, ceilF t2 dx = p := ⟨_, rfl⟩
  obtain ⟨p3, hp3⟩ : ∃ p, ceilF t3 dy = p := ⟨_, rfl⟩
  have hq := over_ok HRK.out dx dy (by omega) (by omega) (by omega)
  simp only at hq
  have hrk := HRK.out
  unfold RcOk inN at hrk
  simp only at hrk
  have PT1 : Hid (∀ u, Calls Try.prog 21 #[.agg #[.int .i64 t0, .int .i64 t1, .int .i64 t2, .int .i64 t3], .int .i64 dx, .int .i64 dy] u fun e w' => e = .returned (.agg #[.int .i64 p0, .int .i64 p1, .int .i64 p2, .int .i64 p3]) ∧ Below u.heap.size u w') := Lib.hid fun u => by
    have := part_any t0 t1 t2 t3 dx dy u (by omega) (by omega) (by omega) (by omega) (by omega) (by omega)
    rw [hp0, hp1, hp2, hp3] at this
    exact this
  rw [hp0, hp1, hp2, hp3] at hq
  have HQ := Lib.hid hq
  clear hp0 hp1 hp2 hp3 hq hrk
  have CT0 : Hid (∀ u, Calls Try.prog 18 #[.agg #[.int .i64 X, .int .i64 Y, .int .i64 OX, .int .i64 OY, .slice (some ⟨cg, 0, none⟩) N C2], .agg #[.int .i64 TX, .int .i64 TY, .int .i64 (LV : Int), .int .i64 (BW : Int), .int .i64 (BH : Int), .int .i64 (PR : Int), .int .i64 ST, .int .i64 OD, .int .i64 (LY : Int), .bool RC, .bool SO, .bool EP]] u fun e w' => ∃ g o c, e = .returned (.slice (some ⟨g, o, none⟩) tn c) ∧ (g < w'.heap.size ∧ w'.cell? ⟨g, o, none⟩ = some (.int .i64 t0) ∧ w'.cell? ⟨g, o + 1, none⟩ = some (.int .i64 t1) ∧ w'.cell? ⟨g, o + 2, none⟩ = some (.int .i64 t2) ∧ w'.cell? ⟨g, o + 3, none⟩ = some (.int .i64 t3)) ∧ Below u.heap.size u w') := Lib.hid fun u => by
    refine (CTL.out u).mono ?_
    rintro e w' ⟨A, c, rfl, hr, hb⟩
    obtain ⟨A', c', hv, hc⟩ := hr
    injection hv with v1 v2 v3
    subst v1 v3
    obtain ⟨g, o, rfl, h1, h2, h3, h4, h5⟩ := hc 0 _ HR2.out
    exact ⟨g, o, c, rfl, ⟨h1, by simpa using h2, by simpa using h3, by simpa using h4, by simpa using h5⟩, hb⟩
  clear CTL
  have HM3f : Hid (bm + 2 ≤ W3.heap.size ∧ W3.heap[bm]? = some (.cells #[.int .i64 X, .int .i64 Y, .int .i64 OX, .int .i64 OY, .slice (some ⟨cg, 0, none⟩) N C2] 24 (0, 0)) ∧ W3.heap[bm + 1]? = some (.cells #[.int .i64 TX, .int .i64 TY, .int .i64 (LV : Int), .int .i64 (BW : Int), .int .i64 (BH : Int), .int .i64 (PR : Int), .int .i64 ST, .int .i64 OD, .int .i64 (LY : Int), .bool RC, .bool SO, .bool EP] 26 (0, 0))) := Lib.hid ⟨HM3.out.sz, HM3.out.b 0 _ rfl, HM3.out.b 1 _ rfl⟩
  go_upto_region 5 with fail
  go_cut [9] from 36 to 51 (fun v wx => ∃ q8, v = .pointer (some ⟨q8, 0, none⟩) ∧ Hid (Below W3.heap.size W3 wx ∧ W3.heap.size ≤ q8 ∧ wx.heap[q8]? = some (.cells #[.int .i64 p0, .int .i64 p1, .int .i64 p2, .int .i64 p3] 48 (0, 0))))
  case first =>
    obtain ⟨VL, hVL⟩ : ∃ VL : Nat × Nat × Nat × Nat → List (Nat × Nat × Value), VL = fun z => [(0, 36, .agg #[.int .i64 X, .int .i64 Y, .int .i64 OX, .int .i64 OY, .slice (some ⟨cg, 0, none⟩) N C2]), (1, 37, .agg #[.int .i64 TX, .int .i64 TY, .int .i64 (LV : Int), .int .i64 (BW : Int), .int .i64 (BH : Int), .int .i64 (PR : Int), .int .i64 ST, .int .i64 OD, .int .i64 (LY : Int), .bool RC, .bool SO, .bool EP]), (2, 38, .slice (some ⟨z.1, z.2.1, none⟩) tn z.2.2.1), (3, 39, .pointer (some ⟨z.1, z.2.1, none⟩)), (4, 40, .agg #[.int .i64 t0, .int .i64 t1, .int .i64 t2, .int .i64 t3]), (5, 41, .pointer (some ⟨bm, 4, none⟩)), (6, 42, .slice (some ⟨cg, 0, none⟩) N C2), (7, 43, .pointer (some ⟨cg, 0, none⟩)), (8, 44, .pointer (some ⟨cg, 2, none⟩)), (9, 45, .int .i64 dx), (10, 46, .pointer (some ⟨bm, 4, none⟩)), (11, 47, .slice (some ⟨cg, 0, none⟩) N C2), (12, 48, .pointer (some ⟨cg, 0, none⟩)), (13, 49, .pointer (some ⟨cg, 3, none⟩)), (14, 50, .int .i64 dy), (15, 51, .agg #[.int .i64 p0, .int .i64 p1, .int .i64 p2, .int .i64 p3]), (16, 9, .pointer (some ⟨z.2.2.2, 0, none⟩))] := ⟨_, rfl⟩
    have hok : ∀ z, manyOk 254 (VL z) := fun z => by rw [hVL]; exact okB_ok rfl
    have HVL := Lib.hid hVL
    have hvi : ∀ z, ∀ x ∈ VL z, x.1 < 18 := fun z => by rw [hVL]; exact ltB_ok rfl
    have HOK := Lib.hid hok
    have HVI := Lib.hid hvi
    clear hVL hok hvi
    refine (wpIn_wide (n := 9)).1 (regionIn_many (N := 254) (w := _) VL (fun L z w' => (Below W3.heap.size W3 w' ∧ (L 15 = false → L 2 = true → (z.1 < w'.heap.size ∧ w'.cell? ⟨z.1, z.2.1, none⟩ = some (.int .i64 t0) ∧ w'.cell? ⟨z.1, z.2.1 + 1, none⟩ = some (.int .i64 t1) ∧ w'.cell? ⟨z.1, z.2.1 + 2, none⟩ = some (.int .i64 t2) ∧ w'.cell? ⟨z.1, z.2.1 + 3, none⟩ = some (.int .i64 t3))) ∧ (L 16 = true → (W3.heap.size ≤ z.2.2.2 ∧ w'.heap[z.2.2.2]? = some (.cells (bif L 17 then #[.int .i64 p0, .int .i64 p1, .int .i64 p2, .int .i64 p3] else #[.int .i64 0, .int .i64 0, .int .i64 0, .int .i64 0]) 48 (0, 0))))) ∧ True) [(7, .pointer (some ⟨bm, 0, none⟩)), (8, .pointer (some ⟨bm + 1, 0, none⟩))] (by kernel_rfl) (by kernel_rfl) rfl (by simp only [List.forall_mem_cons, List.not_mem_nil, false_imp_iff, implies_true, and_true]; exact ⟨rfl, rfl⟩) HVI.out (0, 0, 0, 0) ?start ?step ?fin)
    case start => exact ⟨⟨(Below.refl _ _).drew, fun _ h => (by cases h), fun h => (by cases h)⟩, trivial⟩
    case step =>
      intro gg_ hgN hgF ii_ hii_ L z w' hph hs hu
      obtain ⟨hcm, hph⟩ := hph
      have hF7 := hgF (7, .pointer (some ⟨bm, 0, none⟩)) (by simp)
      have hF8 := hgF (8, .pointer (some ⟨bm + 1, 0, none⟩)) (by simp)
      have hL := hu.1
      have hii_ : ii_ < 18 := hii_
      clear hgF
      obtain rfl | rfl | rfl | rfl | rfl | rfl | rfl | rfl | rfl | rfl | rfl | rfl | rfl | rfl | rfl | rfl | rfl | rfl := (by omega : ii_ = 0 ∨ ii_ = 1 ∨ ii_ = 2 ∨ ii_ = 3 ∨ ii_ = 4 ∨ ii_ = 5 ∨ ii_ = 6 ∨ ii_ = 7 ∨ ii_ = 8 ∨ ii_ = 9 ∨ ii_ = 10 ∨ ii_ = 11 ∨ ii_ = 12 ∨ ii_ = 13 ∨ ii_ = 14 ∨ ii_ = 15 ∨ ii_ = 16 ∨ ii_ = 17)
      · skip
        have n2 : L 2 = false := not_yet hL fun h => shut_at hs 2 0 (by kernel_rfl) (h)
        have n3 : L 3 = false := not_yet hL fun h => shut_at hs 2 0 (by kernel_rfl) (shut_at hs 3 2 (by kernel_rfl) (h))
        have n4 : L 4 = false := not_yet hL fun h => shut_at hs 2 0 (by kernel_rfl) (shut_at hs 3 2 (by kernel_rfl) (shut_at hs 4 3 (by kernel_rfl) (h)))
        have n15 : L 15 = false := not_yet hL fun h => shut_at hs 2 0 (by kernel_rfl) (shut_at hs 15 2 (by kernel_rfl) (h))
        have n17 : L 17 = false := not_yet hL fun h => shut_at hs 17 0 (by kernel_rfl) (h)
        obtain ⟨i0, i1, i2, i3, i4⟩ := img_cells ((hcm.1.block bm (by have := HM3f.out.1; omega)).trans HM3f.out.2.1)
        have e7 : (many gg_ L (VL z))[7]?.getD undef = .pointer (some ⟨bm, 0, none⟩) := many_out3 hgN (HOK.out z) (by rw [HVL.out]; rfl) hF7
        refine opIn_run (v := .agg #[.int .i64 X, .int .i64 Y, .int .i64 OX, .int .i64 OY, .slice (some ⟨cg, 0, none⟩) N C2]) (w' := w') rfl rfl (fun c h => by cases h) (fun _ => trivial) ?_ ⟨z, by exact many_put3 (HOK.out _) (by rw [HVL.out]; rfl) hL, hcm, hph⟩
        go_simp
      · skip
        have n2 : L 2 = false := not_yet hL fun h => shut_at hs 2 1 (by kernel_rfl) (h)
        have n3 : L 3 = false := not_yet hL fun h => shut_at hs 2 1 (by kernel_rfl) (shut_at hs 3 2 (by kernel_rfl) (h))
        have n4 : L 4 = false := not_yet hL fun h => shut_at hs 2 1 (by kernel_rfl) (shut_at hs 3 2 (by kernel_rfl) (shut_at hs 4 3 (by kernel_rfl) (h)))
        have n15 : L 15 = false := not_yet hL fun h => shut_at hs 2 1 (by kernel_rfl) (shut_at hs 15 2 (by kernel_rfl) (h))
        have n17 : L 17 = false := not_yet hL fun h => shut_at hs 17 1 (by kernel_rfl) (h)
        obtain ⟨j0, j1, j2, j3, j4, j5, j6, j7, j8, j9, j10, j11⟩ := par_cells ((hcm.1.block (bm + 1) (by have := HM3f.out.1; omega)).trans HM3f.out.2.2)
        have e8 : (many gg_ L (VL z))[8]?.getD undef = .pointer (some ⟨bm + 1, 0, none⟩) := many_out3 hgN (HOK.out z) (by rw [HVL.out]; rfl) hF8
        refine opIn_run (v := .agg #[.int .i64 TX, .int .i64 TY, .int .i64 (LV : Int), .int .i64 (BW : Int), .int .i64 (BH : Int), .int .i64 (PR : Int), .int .i64 ST, .int .i64 OD, .int .i64 (LY : Int), .bool RC, .bool SO, .bool EP]) (w' := w') rfl rfl (fun c h => by cases h) (fun _ => trivial) ?_ ⟨z, by exact many_put3 (HOK.out _) (by rw [HVL.out]; rfl) hL, hcm, hph⟩
        go_simp
      · skip
        have y0 : L 0 = true := up_at hu 0 (by kernel_rfl)
        have y1 : L 1 = true := up_at hu 1 (by kernel_rfl)
        have n3 : L 3 = false := not_yet hL fun h => shut_at hs 3 2 (by kernel_rfl) (h)
        have n4 : L 4 = false := not_yet hL fun h => shut_at hs 3 2 (by kernel_rfl) (shut_at hs 4 3 (by kernel_rfl) (h))
        have n15 : L 15 = false := not_yet hL fun h => shut_at hs 15 2 (by kernel_rfl) (h)
        have n17 : L 17 = false := not_yet hL fun h => shut_at hs 17 2 (by kernel_rfl) (h)
        have e36 : (many gg_ L (VL z))[36]?.getD undef = .agg #[.int .i64 X, .int .i64 Y, .int .i64 OX, .int .i64 OY, .slice (some ⟨cg, 0, none⟩) N C2] := many_eval3 hgN (HOK.out z) (by rw [HVL.out]; rfl) y0
        have e37 : (many gg_ L (VL z))[37]?.getD undef = .agg #[.int .i64 TX, .int .i64 TY, .int .i64 (LV : Int), .int .i64 (BW : Int), .int .i64 (BH : Int), .int .i64 (PR : Int), .int .i64 ST, .int .i64 OD, .int .i64 (LY : Int), .bool RC, .bool SO, .bool EP] := many_eval3 hgN (HOK.out z) (by rw [HVL.out]; rfl) y1
        refine opIn_call (f := 18) (args := #[.agg #[.int .i64 X, .int .i64 Y, .int .i64 OX, .int .i64 OY, .slice (some ⟨cg, 0, none⟩) N C2], .agg #[.int .i64 TX, .int .i64 TY, .int .i64 (LV : Int), .int .i64 (BW : Int), .int .i64 (BH : Int), .int .i64 (PR : Int), .int .i64 ST, .int .i64 OD, .int .i64 (LY : Int), .bool RC, .bool SO, .bool EP]]) (w' := w') rfl rfl (fun c h => by cases h) (fun _ => trivial) rfl (by go_simp) ((callsIn_wide.2 (CT0.out w')).mono ?_)
        rintro e w2 ⟨g, o, c, rfl, ht, hb⟩
        exact ⟨_, rfl, (g, o, c, z.2.2.2), by rw [show many gg_ L (VL z) = many gg_ L (VL (g, o, c, z.2.2.2)) from by rw [HVL.out]; simp only [many, y0, y1, n3, n4, n15, n17, hL, cond_false, cond_true]]; exact many_put3 (HOK.out _) (by rw [HVL.out]; rfl) hL, ⟨hcm.1.trans (hb.mono hcm.1.size), fun _ _ => ht, (fun a => have t := hcm.2.2 a; ⟨t.1, (hb.block _ (Array.getElem?_eq_some_iff.1 t.2).1).trans t.2⟩)⟩, trivial⟩
      · skip
        have y2 : L 2 = true := up_at hu 2 (by kernel_rfl)
        have n4 : L 4 = false := not_yet hL fun h => shut_at hs 4 3 (by kernel_rfl) (h)
        have n15 : L 15 = false := not_yet hL fun h => shut_at hs 4 3 (by kernel_rfl) (shut_at hs 15 4 (by kernel_rfl) (h))
        have n17 : L 17 = false := not_yet hL fun h => shut_at hs 17 3 (by kernel_rfl) (h)
        have e38 : (many gg_ L (VL z))[38]?.getD undef = .slice (some ⟨z.1, z.2.1, none⟩) tn z.2.2.1 := many_eval3 hgN (HOK.out z) (by rw [HVL.out]; rfl) y2
        refine opIn_run (v := .pointer (some ⟨z.1, z.2.1, none⟩)) (w' := w') rfl rfl (fun c h => by cases h) (fun _ => trivial) ?_ ⟨z, by exact many_put3 (HOK.out _) (by rw [HVL.out]; rfl) hL, hcm, hph⟩
        go_simp
      · skip
        have y2 : L 2 = true := shut_at hs 3 2 (by kernel_rfl) (up_at hu 3 (by kernel_rfl))
        have y3 : L 3 = true := up_at hu 3 (by kernel_rfl)
        have n15 : L 15 = false := not_yet hL fun h => shut_at hs 15 4 (by kernel_rfl) (h)
        have n17 : L 17 = false := not_yet hL fun h => shut_at hs 17 4 (by kernel_rfl) (h)
        obtain ⟨u0, u1, u2, u3, u4⟩ := hcm.2.1 n15 y2
        have e39 : (many gg_ L (VL z))[39]?.getD undef = .pointer (some ⟨z.1, z.2.1, none⟩) := many_eval3 hgN (HOK.out z) (by rw [HVL.out]; rfl) y3
        refine opIn_run (v := .agg #[.int .i64 t0, .int .i64 t1, .int .i64 t2, .int .i64 t3]) (w' := w') rfl rfl (fun c h => by cases h) (fun _ => trivial) ?_ ⟨z, by exact many_put3 (HOK.out _) (by rw [HVL.out]; rfl) hL, hcm, hph⟩
        go_simp
      · skip
        have n15 : L 15 = false := not_yet hL fun h => shut_at hs 6 5 (by kernel_rfl) (shut_at hs 7 6 (by kernel_rfl) (shut_at hs 8 7 (by kernel_rfl) (shut_at hs 9 8 (by kernel_rfl) (shut_at hs 15 9 (by kernel_rfl) (h)))))
        have n17 : L 17 = false := not_yet hL fun h => shut_at hs 17 5 (by kernel_rfl) (h)
        have e7 : (many gg_ L (VL z))[7]?.getD undef = .pointer (some ⟨bm, 0, none⟩) := many_out3 hgN (HOK.out z) (by rw [HVL.out]; rfl) hF7
        refine opIn_run (v := .pointer (some ⟨bm, 4, none⟩)) (w' := w') rfl rfl (fun c h => by cases h) (fun _ => trivial) ?_ ⟨z, by exact many_put3 (HOK.out _) (by rw [HVL.out]; rfl) hL, hcm, hph⟩
        go_simp
      · skip
        have y5 : L 5 = true := up_at hu 5 (by kernel_rfl)
        have n15 : L 15 = false := not_yet hL fun h => shut_at hs 7 6 (by kernel_rfl) (shut_at hs 8 7 (by kernel_rfl) (shut_at hs 9 8 (by kernel_rfl) (shut_at hs 15 9 (by kernel_rfl) (h))))
        have n17 : L 17 = false := not_yet hL fun h => shut_at hs 17 6 (by kernel_rfl) (h)
        have hcell : w'.cell? ⟨bm, 4, none⟩ = some (.slice (some ⟨cg, 0, none⟩) N C2) := blk_cell ((hcm.1.block bm (by have := HM3f.out.1; omega)).trans HM3f.out.2.1) 4
        have e41 : (many gg_ L (VL z))[41]?.getD undef = .pointer (some ⟨bm, 4, none⟩) := many_eval3 hgN (HOK.out z) (by rw [HVL.out]; rfl) y5
        refine opIn_run (v := .slice (some ⟨cg, 0, none⟩) N C2) (w' := w') rfl rfl (fun c h => by cases h) (fun _ => trivial) ?_ ⟨z, by exact many_put3 (HOK.out _) (by rw [HVL.out]; rfl) hL, hcm, hph⟩
        go_simp
      · skip
        have y6 : L 6 = true := up_at hu 6 (by kernel_rfl)
        have n15 : L 15 = false := not_yet hL fun h => shut_at hs 8 7 (by kernel_rfl) (shut_at hs 9 8 (by kernel_rfl) (shut_at hs 15 9 (by kernel_rfl) (h)))
        have n17 : L 17 = false := not_yet hL fun h => shut_at hs 17 7 (by kernel_rfl) (h)
        have e42 : (many gg_ L (VL z))[42]?.getD undef = .slice (some ⟨cg, 0, none⟩) N C2 := many_eval3 hgN (HOK.out z) (by rw [HVL.out]; rfl) y6
        refine opIn_run (v := .pointer (some ⟨cg, 0, none⟩)) (w' := w') rfl rfl (fun c h => by cases h) (fun _ => trivial) ?_ ⟨z, by exact many_put3 (HOK.out _) (by rw [HVL.out]; rfl) hL, hcm, trivial⟩
        go_simp
        intro h
        omega
      · skip
        have y7 : L 7 = true := up_at hu 7 (by kernel_rfl)
        have n15 : L 15 = false := not_yet hL fun h => shut_at hs 9 8 (by kernel_rfl) (shut_at hs 15 9 (by kernel_rfl) (h))
        have n17 : L 17 = false := not_yet hL fun h => shut_at hs 17 8 (by kernel_rfl) (h)
        have e43 : (many gg_ L (VL z))[43]?.getD undef = .pointer (some ⟨cg, 0, none⟩) := many_eval3 hgN (HOK.out z) (by rw [HVL.out]; rfl) y7
        refine opIn_run (v := .pointer (some ⟨cg, 2, none⟩)) (w' := w') rfl rfl (fun c h => by cases h) (fun _ => trivial) ?_ ⟨z, by exact many_put3 (HOK.out _) (by rw [HVL.out]; rfl) hL, hcm, hph⟩
        go_simp
      · skip
        have y8 : L 8 = true := up_at hu 8 (by kernel_rfl)
        have n15 : L 15 = false := not_yet hL fun h => shut_at hs 15 9 (by kernel_rfl) (h)
        have n17 : L 17 = false := not_yet hL fun h => shut_at hs 17 9 (by kernel_rfl) (h)
        have hcell : w'.cell? ⟨cg, 2, none⟩ = some (.int .i64 dx) := (hcm.1.cell (p := ⟨cg, 2, none⟩) HC2.out.1).trans HC2.out.2.1
        have e44 : (many gg_ L (VL z))[44]?.getD undef = .pointer (some ⟨cg, 2, none⟩) := many_eval3 hgN (HOK.out z) (by rw [HVL.out]; rfl) y8
        refine opIn_run (v := .int .i64 dx) (w' := w') rfl rfl (fun c h => by cases h) (fun _ => trivial) ?_ ⟨z, by exact many_put3 (HOK.out _) (by rw [HVL.out]; rfl) hL, hcm, hph⟩
        go_simp
      · skip
        have n15 : L 15 = false := not_yet hL fun h => shut_at hs 11 10 (by kernel_rfl) (shut_at hs 12 11 (by kernel_rfl) (shut_at hs 13 12 (by kernel_rfl) (shut_at hs 14 13 (by kernel_rfl) (shut_at hs 15 14 (by kernel_rfl) (h)))))
        have n17 : L 17 = false := not_yet hL fun h => shut_at hs 17 10 (by kernel_rfl) (h)
        have e7 : (many gg_ L (VL z))[7]?.getD undef = .pointer (some ⟨bm, 0, none⟩) := many_out3 hgN (HOK.out z) (by rw [HVL.out]; rfl) hF7
        refine opIn_run (v := .pointer (some ⟨bm, 4, none⟩)) (w' := w') rfl rfl (fun c h => by cases h) (fun _ => trivial) ?_ ⟨z, by exact many_put3 (HOK.out _) (by rw [HVL.out]; rfl) hL, hcm, hph⟩
        go_simp
      · skip
        have y10 : L 10 = true := up_at hu 10 (by kernel_rfl)
        have n15 : L 15 = false := not_yet hL fun h => shut_at hs 12 11 (by kernel_rfl) (shut_at hs 13 12 (by kernel_rfl) (shut_at hs 14 13 (by kernel_rfl) (shut_at hs 15 14 (by kernel_rfl) (h))))
        have n17 : L 17 = false := not_yet hL fun h => shut_at hs 17 11 (by kernel_rfl) (h)
        have hcell : w'.cell? ⟨bm, 4, none⟩ = some (.slice (some ⟨cg, 0, none⟩) N C2) := blk_cell ((hcm.1.block bm (by have := HM3f.out.1; omega)).trans HM3f.out.2.1) 4
        have e46 : (many gg_ L (VL z))[46]?.getD undef = .pointer (some ⟨bm, 4, none⟩) := many_eval3 hgN (HOK.out z) (by rw [HVL.out]; rfl) y10
        refine opIn_run (v := .slice (some ⟨cg, 0, none⟩) N C2) (w' := w') rfl rfl (fun c h => by cases h) (fun _ => trivial) ?_ ⟨z, by exact many_put3 (HOK.out _) (by rw [HVL.out]; rfl) hL, hcm, hph⟩
        go_simp
      · skip
        have y11 : L 11 = true := up_at hu 11 (by kernel_rfl)
        have n15 : L 15 = false := not_yet hL fun h => shut_at hs 13 12 (by kernel_rfl) (shut_at hs 14 13 (by kernel_rfl) (shut_at hs 15 14 (by kernel_rfl) (h)))
        have n17 : L 17 = false := not_yet hL fun h => shut_at hs 17 12 (by kernel_rfl) (h)
        have e47 : (many gg_ L (VL z))[47]?.getD undef = .slice (some ⟨cg, 0, none⟩) N C2 := many_eval3 hgN (HOK.out z) (by rw [HVL.out]; rfl) y11
        refine opIn_run (v := .pointer (some ⟨cg, 0, none⟩)) (w' := w') rfl rfl (fun c h => by cases h) (fun _ => trivial) ?_ ⟨z, by exact many_put3 (HOK.out _) (by rw [HVL.out]; rfl) hL, hcm, trivial⟩
        go_simp
        intro h
        omega
      · skip
        have y12 : L 12 = true := up_at hu 12 (by kernel_rfl)
        have n15 : L 15 = false := not_yet hL fun h => shut_at hs 14 13 (by kernel_rfl) (shut_at hs 15 14 (by kernel_rfl) (h))
        have n17 : L 17 = false := not_yet hL fun h => shut_at hs 17 13 (by kernel_rfl) (h)
        have e48 : (many gg_ L (VL z))[48]?.getD undef = .pointer (some ⟨cg, 0, none⟩) := many_eval3 hgN (HOK.out z) (by rw [HVL.out]; rfl) y12
        refine opIn_run (v := .pointer (some ⟨cg, 3, none⟩)) (w' := w') rfl rfl (fun c h => by cases h) (fun _ => trivial) ?_ ⟨z, by exact many_put3 (HOK.out _) (by rw [HVL.out]; rfl) hL, hcm, hph⟩
        go_simp
      · skip
        have y13 : L 13 = true := up_at hu 13 (by kernel_rfl)
        have n15 : L 15 = false := not_yet hL fun h => shut_at hs 15 14 (by kernel_rfl) (h)
        have n17 : L 17 = false := not_yet hL fun h => shut_at hs 17 14 (by kernel_rfl) (h)
        have hcell : w'.cell? ⟨cg, 3, none⟩ = some (.int .i64 dy) := (hcm.1.cell (p := ⟨cg, 3, none⟩) HC2.out.1).trans HC2.out.2.2
        have e49 : (many gg_ L (VL z))[49]?.getD undef = .pointer (some ⟨cg, 3, none⟩) := many_eval3 hgN (HOK.out z) (by rw [HVL.out]; rfl) y13
        refine opIn_run (v := .int .i64 dy) (w' := w') rfl rfl (fun c h => by cases h) (fun _ => trivial) ?_ ⟨z, by exact many_put3 (HOK.out _) (by rw [HVL.out]; rfl) hL, hcm, hph⟩
        go_simp
      · skip
        have y2 : L 2 = true := up_at hu 2 (by kernel_rfl)
        have y4 : L 4 = true := up_at hu 4 (by kernel_rfl)
        have y9 : L 9 = true := up_at hu 9 (by kernel_rfl)
        have y14 : L 14 = true := up_at hu 14 (by kernel_rfl)
        have n17 : L 17 = false := not_yet hL fun h => shut_at hs 17 15 (by kernel_rfl) (h)
        have e40 : (many gg_ L (VL z))[40]?.getD undef = .agg #[.int .i64 t0, .int .i64 t1, .int .i64 t2, .int .i64 t3] := many_eval3 hgN (HOK.out z) (by rw [HVL.out]; rfl) y4
        have e45 : (many gg_ L (VL z))[45]?.getD undef = .int .i64 dx := many_eval3 hgN (HOK.out z) (by rw [HVL.out]; rfl) y9
        have e50 : (many gg_ L (VL z))[50]?.getD undef = .int .i64 dy := many_eval3 hgN (HOK.out z) (by rw [HVL.out]; rfl) y14
        refine opIn_call (f := 21) (args := #[.agg #[.int .i64 t0, .int .i64 t1, .int .i64 t2, .int .i64 t3], .int .i64 dx, .int .i64 dy]) (w' := w') rfl rfl (fun c h => by cases h) (fun _ => trivial) rfl (by go_simp) ((callsIn_wide.2 (PT1.out w')).mono ?_)
        rintro e w2 ⟨rfl, hb⟩
        exact ⟨_, rfl, z, by exact many_put3 (HOK.out _) (by rw [HVL.out]; rfl) hL, ⟨hcm.1.trans (hb.mono hcm.1.size), fun a => absurd a (by simp [upd]), (fun a => have t := hcm.2.2 a; ⟨t.1, (hb.block _ (Array.getElem?_eq_some_iff.1 t.2).1).trans t.2⟩)⟩, trivial⟩
      · skip
        have n17 : L 17 = false := not_yet hL fun h => shut_at hs 17 16 (by kernel_rfl) (h)
        have ha : Below w'.heap.size w' (w'.alloc (.cells #[.int .i64 0, .int .i64 0, .int .i64 0, .int .i64 0] 48)) := (Below.refl _ _).alloc (Nat.le_refl _) _
        refine opIn_run (v := (.pointer (some ⟨w'.heap.size, 0, none⟩))) (w' := w'.alloc (.cells #[.int .i64 0, .int .i64 0, .int .i64 0, .int .i64 0] 48)) rfl rfl (fun c h => by cases h) (fun _ => trivial) ?_ ⟨(z.1, z.2.1, z.2.2.1, w'.heap.size), by rw [show many gg_ L (VL z) = many gg_ L (VL (z.1, z.2.1, z.2.2.1, w'.heap.size)) from by rw [HVL.out]; simp only [many, n17, hL, cond_false, cond_true]]; exact many_put3 (HOK.out _) (by rw [HVL.out]; rfl) hL, ⟨hcm.1.alloc hcm.1.size _, (fun a b => have t := hcm.2.1 a b; ⟨Nat.lt_of_lt_of_le t.1 ha.size, (ha.cell (p := ⟨z.1, _, none⟩) t.1).trans t.2.1, (ha.cell (p := ⟨z.1, _, none⟩) t.1).trans t.2.2.1, (ha.cell (p := ⟨z.1, _, none⟩) t.1).trans t.2.2.2.1, (ha.cell (p := ⟨z.1, _, none⟩) t.1).trans t.2.2.2.2⟩), fun _ => ⟨hcm.1.size, by simp only [upd, n17]; exact World.alloc_heap_new w' _⟩⟩, trivial⟩
        go_simp
      · skip
        have y0 : L 0 = true := up_at hu 0 (by kernel_rfl)
        have y1 : L 1 = true := up_at hu 1 (by kernel_rfl)
        have y2 : L 2 = true := up_at hu 2 (by kernel_rfl)
        have y3 : L 3 = true := up_at hu 3 (by kernel_rfl)
        have y4 : L 4 = true := up_at hu 4 (by kernel_rfl)
        have y5 : L 5 = true := up_at hu 5 (by kernel_rfl)
        have y6 : L 6 = true := up_at hu 6 (by kernel_rfl)
        have y7 : L 7 = true := up_at hu 7 (by kernel_rfl)
        have y8 : L 8 = true := up_at hu 8 (by kernel_rfl)
        have y9 : L 9 = true := up_at hu 9 (by kernel_rfl)
        have y10 : L 10 = true := up_at hu 10 (by kernel_rfl)
        have y11 : L 11 = true := up_at hu 11 (by kernel_rfl)
        have y12 : L 12 = true := up_at hu 12 (by kernel_rfl)
        have y13 : L 13 = true := up_at hu 13 (by kernel_rfl)
        have y14 : L 14 = true := up_at hu 14 (by kernel_rfl)
        have y15 : L 15 = true := up_at hu 15 (by kernel_rfl)
        have y16 : L 16 = true := up_at hu 16 (by kernel_rfl)
        have e9 : (many gg_ L (VL z))[9]?.getD undef = .pointer (some ⟨z.2.2.2, 0, none⟩) := many_eval3 hgN (HOK.out z) (by rw [HVL.out]; rfl) y16
        have e51 : (many gg_ L (VL z))[51]?.getD undef = .agg #[.int .i64 p0, .int .i64 p1, .int .i64 p2, .int .i64 p3] := many_eval3 hgN (HOK.out z) (by rw [HVL.out]; rfl) y15
        refine opIn_skip (w' := w'.setRow z.2.2.2 #[.int .i64 p0, .int .i64 p1, .int .i64 p2, .int .i64 p3]) rfl rfl (fun c h => by cases h) (fun _ => trivial) ?_ ⟨z, by exact many_none 17 _ (by rw [HVL.out]; simp), ⟨below_setRow hcm.1 (hcm.2.2 y16).1 _, fun a => absurd a (by simp [upd, y15]), fun _ => ⟨(hcm.2.2 y16).1, by simp only [upd_self, cond_true]; exact setRow_heap _ _ _ _ _ _ (hcm.2.2 y16).2⟩⟩, trivial⟩
        exact run_store_many e9 e51 (hcm.2.2 y16).2 (by kernel_rfl) (by cases L 17 <;> rfl) (by kernel_rfl)
    case fin =>
      intro L z w' hall hph
      obtain ⟨hcm, hph⟩ := hph
      have l17 := hall 17 (by decide)
      have K := hcm.2.2 (hall 16 (by decide))
      simp only [l17, cond_true] at K
      have KB := hcm.1
      clear hcm hph
      rw [HVL.out]
      dsimp only [manyL, List.set_cons_zero, List.set_cons_succ]
      clear hall HVL HOK HVI
      have HP := Lib.hid (And.intro KB K)
      clear KB K
      go_wp2_with fail
      go_meet
      exact ⟨_, rfl, HP⟩
  case rest =>
   obtain ⟨q8, rfl, HB1⟩ := hcut
   obtain ⟨W1, hW1⟩ : ∃ W1, W1 = wc := ⟨wc, rfl⟩
   subst hW1
   clear PT1 CT0
   have HM1 : Hid (bm + 2 ≤ W1.heap.size ∧ W1.heap[bm]? = some (.cells #[.int .i64 X, .int .i64 Y, .int .i64 OX, .int .i64 OY, .slice (some ⟨cg, 0, none⟩) N C2] 24 (0, 0)) ∧ W1.heap[bm + 1]? = some (.cells #[.int .i64 TX, .int .i64 TY, .int .i64 (LV : Int), .int .i64 (BW : Int), .int .i64 (BH : Int), .int .i64 (PR : Int), .int .i64 ST, .int .i64 OD, .int .i64 (LY : Int), .bool RC, .bool SO, .bool EP] 26 (0, 0)) ∧ q8 < W1.heap.size ∧ W1.heap[q8]? = some (.cells #[.int .i64 p0, .int .i64 p1, .int .i64 p2, .int .i64 p3] 48 (0, 0))) := Lib.hid (by
     have h0 := HM3f.out.1
     have h1 := HB1.out.1.size
     exact ⟨by omega, (HB1.out.1.block bm (by omega)).trans HM3f.out.2.1, (HB1.out.1.block (bm + 1) (by omega)).trans HM3f.out.2.2, (Array.getElem?_eq_some_iff.1 HB1.out.2.2).1, HB1.out.2.2⟩)
   have HBW : Hid (Below B0 w W1) := Lib.hid (HB2.out.trans ((HM3.out.bel.mono (by have := HBM.out; have := HB2.out.size; have := HBE.out; omega)).trans (HB1.out.1.mono (by have := HBM.out; have := HB2.out.size; have := HBE.out; have := HM3.out.bel.size; omega))))
   clear HB1 HM3 HM3f HC0 HC2 HR2 HRK HTN HCT HB2 HBM
   have HB0 : Hid (Below W1.heap.size W1 W1) := Lib.hid (Below.refl _ _)
   have hqq := HQ.out
   unfold RcOk inN at hqq
   simp only at hqq
   obtain ⟨z0, hz0⟩ : ∃ z, ceilF p0 ((2 ^ (LV - r) : Nat) : Int) = z := ⟨_, rfl⟩
   obtain ⟨z1, hz1⟩ : ∃ z, ceilF p1 ((2 ^ (LV - r) : Nat) : Int) = z := ⟨_, rfl⟩
   obtain ⟨z2, hz2⟩ : ∃ z, ceilF p2 ((2 ^ (LV - r) : Nat) : Int) = z := ⟨_, rfl⟩
   obtain ⟨z3, hz3⟩ : ∃ z, ceilF p3 ((2 ^ (LV - r) : Nat) : Int) = z := ⟨_, rfl⟩
   have hzk := over_ok HQ.out ((2 ^ (LV - r) : Nat) : Int) ((2 ^ (LV - r) : Nat) : Int) (pow16 _ (by omega)).1 (pow16 _ (by omega)).1 (by omega)
   simp only at hzk
   rw [hz0, hz1, hz2, hz3] at hzk
   have RS1 : Hid (∀ u, Calls Try.prog 23 #[.agg #[.int .i64 p0, .int .i64 p1, .int .i64 p2, .int .i64 p3], .int .i64 (LV : Int), .int .i64 (r : Int)] u fun e w' => e = .returned (.agg #[.int .i64 z0, .int .i64 z1, .int .i64 z2, .int .i64 z3]) ∧ Below u.heap.size u w') := Lib.hid fun u => by
     have := res_any (p0, p1, p2, p3) LV r u ⟨by simp only; omega, by simp only; omega, by simp only; omega, by simp only; omega⟩ (by omega)
     unfold rA overN at this
     simp only at this
     rw [hz0, hz1, hz2, hz3] at this
     exact this
   obtain ⟨kb, hkb⟩ : ∃ k, bandsK r = k := ⟨_, rfl⟩
   obtain ⟨rb, hrb⟩ : ∃ k, bandsR (p0, p1, p2, p3) LV r = k := ⟨_, rfl⟩
   have hbok := bands_ok HQ.out LV r (by omega) (by omega)
   have hbl := bands_len (p0, p1, p2, p3) LV r
   obtain ⟨bn, hbn⟩ : ∃ n, rb.length = n := ⟨_, rfl⟩
   rw [hrb] at hbok hbl
   rw [hkb, hbn] at hbl
   have BD1 : Hid (∀ u, Calls Try.prog 24 #[.agg #[.int .i64 p0, .int .i64 p1, .int .i64 p2, .int .i64 p3], .int .i64 (LV : Int), .int .i64 (r : Int)] u fun e w' => ∃ A1 c1 A2 c2, e = .returned (.tuple #[.slice A1 bn c1, .slice A2 bn c2]) ∧ RcL w' w'.heap.size (.slice A2 bn c2) rb ∧ Below u.heap.size u w') := Lib.hid fun u => by
     have := bands_any (p0, p1, p2, p3) LV r u ⟨by simp only; omega, by simp only; omega, by simp only; omega, by simp only; omega⟩ (by omega)
     unfold rA at this
     simp only at this
     rw [hkb, hrb, hbl.2.2, hbn] at this
     refine this.mono ?_
     rintro e w' ⟨A1, c1, A2, c2, he, _, hr, hb⟩
     exact ⟨A1, c1, A2, c2, he, hr, hb⟩
   obtain ⟨CWI, hCW⟩ : ∃ c, (pcF (z0, z1, z2, z3) ((2 ^ PR : Nat) : Int)).1 = c := ⟨_, rfl⟩
   obtain ⟨RHI, hRH⟩ : ∃ c, (pcF (z0, z1, z2, z3) ((2 ^ PR : Nat) : Int)).2 = c := ⟨_, rfl⟩
   have hpb := pc_bd (z := (z0, z1, z2, z3)) (m := 25) ((2 ^ PR : Nat) : Int) (pow16 _ (by omega)).1 (by omega) hzk.1 hzk.2
   rw [hCW, hRH] at hpb
   have hzz := hzk
   unfold RcOk inN at hzz
   simp only at hzz
   have PC1 : Hid (∀ u, Calls Try.prog 26 #[.agg #[.int .i64 z0, .int .i64 z1, .int .i64 z2, .int .i64 z3], .int .i64 (PR : Int)] u fun e w' => e = .returned (.tuple #[.int .i64 CWI, .int .i64 RHI]) ∧ Below u.heap.size u w') := Lib.hid fun u => by
     have := prec_any (z0, z1, z2, z3) PR u ⟨by simp only; omega, by simp only; omega, by simp only; omega, by simp only; omega⟩ (by omega)
     unfold rA at this
     simp only at this
     rw [hCW, hRH] at this
     exact this
   have HZK := Lib.hid hzk
   have HPCF : Hid ((pcF (z0, z1, z2, z3) ((2 ^ PR : Nat) : Int)).1 = CWI ∧ (pcF (z0, z1, z2, z3) ((2 ^ PR : Nat) : Int)).2 = RHI) := Lib.hid ⟨hCW, hRH⟩
   have HRB := Lib.hid hrb
   have HZE : Hid (ceilF p0 ((2 ^ (LV - r) : Nat) : Int) = z0 ∧ ceilF p1 ((2 ^ (LV - r) : Nat) : Int) = z1 ∧ ceilF p2 ((2 ^ (LV - r) : Nat) : Int) = z2 ∧ ceilF p3 ((2 ^ (LV - r) : Nat) : Int) = z3) := Lib.hid ⟨hz0, hz1, hz2, hz3⟩
   have HBO : Hid (rb.length = bn ∧ ∀ b ∈ rb, RcOk 25 b) := Lib.hid ⟨hbn, hbok⟩
   have hbn3 : 1 ≤ bn ∧ bn ≤ 3 := by omega
   clear hqq hz0 hz1 hz2 hz3 hzk hkb hrb hbok hbl hbn hCW hRH hzz
   have j2' : W1.cell? ⟨bm + 1, 2, none⟩ = some (.int .i64 (LV : Int)) := blk_cell ((HB0.out.block (bm + 1) (by have := HM1.out.1; omega)).trans HM1.out.2.2.1) 2
   obtain ⟨x0, x1, x2, x3⟩ := rc_cells ((HB0.out.block _ HM1.out.2.2.2.1).trans HM1.out.2.2.2.2)
   go_wp2_with fail
   refine (RS1.out _).mono ?_
   rintro e w8 ⟨rfl, hb⟩
   have HB8 := Lib.hid (HB0.out.trans (hb.mono HB0.out.size))
   clear hb x0 x1 x2 x3 j2' RS1
   go_upto_region 7 with fail
   obtain ⟨q10, hq10⟩ : ∃ q, w8.heap.size = q := ⟨_, rfl⟩
   obtain ⟨Wq, hWq⟩ : ∃ Wq, w8.alloc (Obj.cells #[.int .i64 z0, .int .i64 z1, .int .i64 z2, .int .i64 z3] 48) = Wq := ⟨_, rfl⟩
   have FQ : Hid (q8 < Wq.heap.size ∧ q10 < Wq.heap.size ∧ bm + 1 < Wq.heap.size ∧ Wq.heap[q8]? = some (.cells #[.int .i64 p0, .int .i64 p1, .int .i64 p2, .int .i64 p3] 48 (0, 0)) ∧ Wq.heap[q10]? = some (.cells #[.int .i64 z0, .int .i64 z1, .int .i64 z2, .int .i64 z3] 48 (0, 0)) ∧ Wq.heap[bm + 1]? = some (.cells #[.int .i64 TX, .int .i64 TY, .int .i64 (LV : Int), .int .i64 (BW : Int), .int .i64 (BH : Int), .int .i64 (PR : Int), .int .i64 ST, .int .i64 OD, .int .i64 (LY : Int), .bool RC, .bool SO, .bool EP] 26 (0, 0)) ∧ Below W1.heap.size W1 Wq) := Lib.hid (by
     have hbe : Below W1.heap.size W1 Wq := by rw [← hWq]; exact HB8.out.alloc HB8.out.size _
     have h1 := hbe.size
     have h2 := HM1.out.1
     have h3 := HM1.out.2.2.2.1
     refine ⟨by omega, ?_, by omega, (hbe.block _ h3).trans HM1.out.2.2.2.2, ?_, (hbe.block _ (by omega)).trans HM1.out.2.2.1, hbe⟩
     · rw [← hWq, ← hq10]; simp
     · rw [← hWq, ← hq10]; exact World.alloc_heap_new w8 _)
   rw [hWq, hq10]
   clear hWq hq10 HB8
   obtain ⟨x0, x1, x2, x3⟩ := rc_cells FQ.out.2.2.2.1
   have j2' : Wq.cell? ⟨bm + 1, 2, none⟩ = some (.int .i64 (LV : Int)) := blk_cell FQ.out.2.2.2.2.2.1 2
   have j5' : Wq.cell? ⟨bm + 1, 5, none⟩ = some (.int .i64 (PR : Int)) := blk_cell FQ.out.2.2.2.2.2.1 5
   go_wp2_with fail
   refine (BD1.out _).mono ?_
   rintro e w9 ⟨LA, LC, MA, MC, rfl, hR1, HBd⟩
   have HB9 := Lib.hid HBd
   have HR1 := Lib.hid hR1
   clear HBd hR1 BD1 x0 x1 x2 x3 j2' j5'
   obtain ⟨v0, v1, v2, v3⟩ := rc_cells ((HB9.out.block _ FQ.out.2.1).trans FQ.out.2.2.2.2.1)
   have j2' : w9.cell? ⟨bm + 1, 2, none⟩ = some (.int .i64 (LV : Int)) := blk_cell ((HB9.out.block _ FQ.out.2.2.1).trans FQ.out.2.2.2.2.2.1) 2
   have j5' : w9.cell? ⟨bm + 1, 5, none⟩ = some (.int .i64 (PR : Int)) := blk_cell ((HB9.out.block _ FQ.out.2.2.1).trans FQ.out.2.2.2.2.2.1) 5
   go_wp2_with fail
   refine (PC1.out _).mono ?_
   rintro e Wr ⟨rfl, hb⟩
   have HBr := Lib.hid (HB9.out.trans (hb.mono HB9.out.size))
   have HR1d := Lib.hid (HR1.out.below hb hb.size)
   clear hb HB9 HR1 PC1 v0 v1 v2 v3 j2' j5'
   have FR : Hid (q8 < Wr.heap.size ∧ q10 < Wr.heap.size ∧ bm + 1 < Wr.heap.size ∧ Wr.heap[q8]? = some (.cells #[.int .i64 p0, .int .i64 p1, .int .i64 p2, .int .i64 p3] 48 (0, 0)) ∧ Wr.heap[q10]? = some (.cells #[.int .i64 z0, .int .i64 z1, .int .i64 z2, .int .i64 z3] 48 (0, 0)) ∧ Wr.heap[bm + 1]? = some (.cells #[.int .i64 TX, .int .i64 TY, .int .i64 (LV : Int), .int .i64 (BW : Int), .int .i64 (BH : Int), .int .i64 (PR : Int), .int .i64 ST, .int .i64 OD, .int .i64 (LY : Int), .bool RC, .bool SO, .bool EP] 26 (0, 0)) ∧ Below W1.heap.size W1 Wr) := Lib.hid (by
     obtain ⟨h1, h2, h3, h4, h5, h6, h7⟩ := FQ.out
     have hs := HBr.out.size
     exact ⟨by omega, by omega, by omega, (HBr.out.block _ h1).trans h4, (HBr.out.block _ h2).trans h5, (HBr.out.block _ h3).trans h6, h7.trans (HBr.out.mono h7.size)⟩)
   clear FQ HBr
   obtain ⟨qq, hqq⟩ : ∃ q, qF PR r = q := ⟨_, rfl⟩
   have hqb : qq ≤ 15 := by rw [← hqq]; unfold qF; split <;> omega
   have hq0 : (r = 0 → qq = PR) ∧ (0 < r → qq = PR - 1) := by rw [← hqq]; unfold qF; exact ⟨fun h => by rw [if_pos h], fun h => by rw [if_neg (by omega)]⟩
   have HQF := Lib.hid hqq
   clear hqq
   have j5' : Wr.cell? ⟨bm + 1, 5, none⟩ = some (.int .i64 (PR : Int)) := blk_cell FR.out.2.2.2.2.2.1 5
   go_upto_if 75 with fail
   clear j5'
   go_cut [15] from 74 to 77 (fun v wx => v = .int .i64 (qq : Int) ∧ wx = Wr)
   case first =>
    rcases Nat.eq_zero_or_pos r with hr0 | hr0
    · have hrI : ¬ (0 : Int) < (r : Int) := by omega
      have HQI : Hid ((qq : Int) = (PR : Int)) := Lib.hid (by rw [hq0.1 hr0])
      clear hr0 hq0
      go_wp2_with fail
      go_meet
      exact ⟨by rw [HQI.out], rfl⟩
    · have hrI : (0 : Int) < (r : Int) := by omega
      have HQI : Hid ((qq : Int) = (PR : Int) - 1) := Lib.hid (by have := hq0.2 hr0; omega)
      clear hq0
      have hrN : ¬ r = 0 := by omega
      go_wp2_with fail
      go_meet
      exact ⟨by rw [HQI.out], rfl⟩
   case rest =>
    obtain ⟨rfl, rfl⟩ := hcut
    obtain ⟨Wr, hWr⟩ : ∃ Wr, Wr = wc := ⟨wc, rfl⟩
    subst hWr
    obtain ⟨QI, hQI⟩ : ∃ X : Int, ((qq : Nat) : Int) = X := ⟨_, rfl⟩
    obtain ⟨BWI, hBWI⟩ : ∃ X : Int, ((BW : Nat) : Int) = X := ⟨_, rfl⟩
    obtain ⟨BHI, hBHI⟩ : ∃ X : Int, ((BH : Nat) : Int) = X := ⟨_, rfl⟩
    obtain ⟨XI, hXI⟩ : ∃ X : Int, (if QI < BWI then QI else BWI) = X := ⟨_, rfl⟩
    obtain ⟨YI, hYI⟩ : ∃ X : Int, (if QI < BHI then QI else BHI) = X := ⟨_, rfl⟩
    have hXn : XI = ((min BW qq : Nat) : Int) := by rw [← hXI, ← hQI, ← hBWI]; split <;> omega
    have hYn : YI = ((min BH qq : Nat) : Int) := by rw [← hYI, ← hQI, ← hBHI]; split <;> omega
    have hXb : 0 ≤ XI ∧ XI ≤ 4 := by rw [hXn]; omega
    have hYb : 0 ≤ YI ∧ YI ≤ 4 := by rw [hYn]; omega
    obtain ⟨x, hx⟩ : ∃ x : Int, cellX BW qq = x := ⟨_, rfl⟩
    obtain ⟨y, hy⟩ : ∃ y : Int, cellX BH qq = y := ⟨_, rfl⟩
    have hxb : 1 ≤ x ∧ x ≤ 65536 := by rw [← hx]; exact pow16 _ (by omega)
    have hyb : 1 ≤ y ∧ y ≤ 65536 := by rw [← hy]; exact pow16 _ (by omega)
    have hx2 : (2 : Int) ^ XI.toNat = x := by rw [← hx, hXn, Int.toNat_natCast]; unfold cellX; simp
    have hy2 : (2 : Int) ^ YI.toNat = y := by rw [← hy, hYn, Int.toNat_natCast]; unfold cellX; simp
    have HC1 : Hid ((if QI < BWI then QI else BWI) = XI ∧ (if QI < BHI then QI else BHI) = YI ∧ IntKind.i64.wrap (2 ^ XI.toNat) = x ∧ IntKind.i64.wrap (2 ^ YI.toNat) = y ∧ IntKind.u64.wrap XI = XI ∧ IntKind.u64.wrap YI = YI) := Lib.hid ⟨hXI, hYI, by rw [hx2]; exact IntWalk.i64_in _ (by omega), by rw [hy2]; exact IntWalk.i64_in _ (by omega), u64_of XI (by omega), u64_of YI (by omega)⟩
    have HXY : Hid (cellX BW (qF PR r) = x ∧ cellX BH (qF PR r) = y) := Lib.hid (by rw [HQF.out]; exact ⟨hx, hy⟩)
    have HQB : Hid (((qq : Nat) : Int) = QI ∧ ((BW : Nat) : Int) = BWI ∧ ((BH : Nat) : Int) = BHI) := Lib.hid ⟨hQI, hBWI, hBHI⟩
    clear hQI hBWI hBHI hXI hYI hXn hYn hx hy hx2 hy2
    go_upto_region 12 with fail
    rw [HQB.out.1]
    go_cut [16, 17] from 78 to 89 (fun a b wx => a = .int .i64 x ∧ b = .int .i64 y ∧ Hid (Below Wr.heap.size Wr wx))
    case first =>
      obtain ⟨VL, hVL⟩ : ∃ VL : Unit → List (Nat × Nat × Value), VL = fun z => [(0, 78, .pointer (some ⟨bm + 1, 3, none⟩)), (1, 79, .int .i64 BWI), (2, 80, .int .i64 QI), (3, 81, .int .i64 XI), (4, 82, .int .u64 XI), (5, 83, .int .i64 x), (6, 84, .pointer (some ⟨bm + 1, 4, none⟩)), (7, 85, .int .i64 BHI), (8, 86, .int .i64 QI), (9, 87, .int .i64 YI), (10, 88, .int .u64 YI), (11, 89, .int .i64 y), (12, 16, .int .i64 x), (13, 17, .int .i64 y)] := ⟨_, rfl⟩
      have hok : ∀ z, manyOk 254 (VL z) := fun z => by rw [hVL]; exact okB_ok rfl
      have HVL := Lib.hid hVL
      have hvi : ∀ z, ∀ x ∈ VL z, x.1 < 14 := fun z => by rw [hVL]; exact ltB_ok rfl
      have HOK := Lib.hid hok
      have HVI := Lib.hid hvi
      clear hVL hok hvi
      refine (wpIn_wide (n := 9)).1 (regionIn_many (N := 254) (w := _) VL (fun L z w' => Below Wr.heap.size Wr w') [(8, .pointer (some ⟨bm + 1, 0, none⟩)), (15, .int .i64 QI)] (by kernel_rfl) (by kernel_rfl) rfl (by simp only [List.forall_mem_cons, List.not_mem_nil, false_imp_iff, implies_true, and_true]; exact ⟨rfl, rfl⟩) HVI.out () ?start ?step ?fin)
      case start => exact (Below.refl _ _).drew
      case step =>
        intro gg_ hgN hgF ii_ hii_ L z w' hph hs hu
        have hF8 := hgF (8, .pointer (some ⟨bm + 1, 0, none⟩)) (by simp)
        have hF15 := hgF (15, .int .i64 QI) (by simp)
        have hL := hu.1
        have hii_ : ii_ < 14 := hii_
        clear hgF
        obtain rfl | rfl | rfl | rfl | rfl | rfl | rfl | rfl | rfl | rfl | rfl | rfl | rfl | rfl := (by omega : ii_ = 0 ∨ ii_ = 1 ∨ ii_ = 2 ∨ ii_ = 3 ∨ ii_ = 4 ∨ ii_ = 5 ∨ ii_ = 6 ∨ ii_ = 7 ∨ ii_ = 8 ∨ ii_ = 9 ∨ ii_ = 10 ∨ ii_ = 11 ∨ ii_ = 12 ∨ ii_ = 13)
        · skip
          have e8 : (many gg_ L (VL z))[8]?.getD undef = .pointer (some ⟨bm + 1, 0, none⟩) := many_out3 hgN (HOK.out z) (by rw [HVL.out]; rfl) hF8
          refine opIn_run (v := .pointer (some ⟨bm + 1, 3, none⟩)) (w' := w') rfl rfl (fun c h => by cases h) (fun _ => trivial) ?_ ⟨z, by exact many_put3 (HOK.out _) (by rw [HVL.out]; rfl) hL, hph⟩
          go_simp
        · skip
          have y0 : L 0 = true := up_at hu 0 (by kernel_rfl)
          have hcell : w'.cell? ⟨bm + 1, 3, none⟩ = some (.int .i64 BWI) := by rw [← HQB.out.2.1]; exact blk_cell ((hph.block _ FR.out.2.2.1).trans FR.out.2.2.2.2.2.1) 3
          have e78 : (many gg_ L (VL z))[78]?.getD undef = .pointer (some ⟨bm + 1, 3, none⟩) := many_eval3 hgN (HOK.out z) (by rw [HVL.out]; rfl) y0
          refine opIn_run (v := .int .i64 BWI) (w' := w') rfl rfl (fun c h => by cases h) (fun _ => trivial) ?_ ⟨z, by exact many_put3 (HOK.out _) (by rw [HVL.out]; rfl) hL, hph⟩
          go_simp
        · skip
          have e15 : (many gg_ L (VL z))[15]?.getD undef = .int .i64 QI := many_out3 hgN (HOK.out z) (by rw [HVL.out]; rfl) hF15
          refine opIn_run (v := .int .i64 QI) (w' := w') rfl rfl (fun c h => by cases h) (fun _ => trivial) ?_ ⟨z, by exact many_put3 (HOK.out _) (by rw [HVL.out]; rfl) hL, hph⟩
          go_simp
        · skip
          have y1 : L 1 = true := up_at hu 1 (by kernel_rfl)
          have y2 : L 2 = true := up_at hu 2 (by kernel_rfl)
          have q1 := HC1.out.1
          have e79 : (many gg_ L (VL z))[79]?.getD undef = .int .i64 BWI := many_eval3 hgN (HOK.out z) (by rw [HVL.out]; rfl) y1
          have e80 : (many gg_ L (VL z))[80]?.getD undef = .int .i64 QI := many_eval3 hgN (HOK.out z) (by rw [HVL.out]; rfl) y2
          refine opIn_run (v := .int .i64 XI) (w' := w') rfl rfl (fun c h => by cases h) (fun _ => trivial) ?_ ⟨z, by exact many_put3 (HOK.out _) (by rw [HVL.out]; rfl) hL, hph⟩
          go_simp
        · skip
          have y3 : L 3 = true := up_at hu 3 (by kernel_rfl)
          have q1 : IntKind.u64.wrap XI = XI := HC1.out.2.2.2.2.1
          have e81 : (many gg_ L (VL z))[81]?.getD undef = .int .i64 XI := many_eval3 hgN (HOK.out z) (by rw [HVL.out]; rfl) y3
          refine opIn_run (v := .int .u64 XI) (w' := w') rfl rfl (fun c h => by cases h) (fun _ => trivial) ?_ ⟨z, by exact many_put3 (HOK.out _) (by rw [HVL.out]; rfl) hL, hph⟩
          go_simp
        · skip
          have y4 : L 4 = true := up_at hu 4 (by kernel_rfl)
          have q1 := HC1.out.2.2.1
          have e82 : (many gg_ L (VL z))[82]?.getD undef = .int .u64 XI := many_eval3 hgN (HOK.out z) (by rw [HVL.out]; rfl) y4
          refine opIn_run (v := .int .i64 x) (w' := w') rfl rfl (fun c h => by cases h) (fun _ => trivial) ?_ ⟨z, by exact many_put3 (HOK.out _) (by rw [HVL.out]; rfl) hL, hph⟩
          go_simp
        · skip
          have e8 : (many gg_ L (VL z))[8]?.getD undef = .pointer (some ⟨bm + 1, 0, none⟩) := many_out3 hgN (HOK.out z) (by rw [HVL.out]; rfl) hF8
          refine opIn_run (v := .pointer (some ⟨bm + 1, 4, none⟩)) (w' := w') rfl rfl (fun c h => by cases h) (fun _ => trivial) ?_ ⟨z, by exact many_put3 (HOK.out _) (by rw [HVL.out]; rfl) hL, hph⟩
          go_simp
        · skip
          have y6 : L 6 = true := up_at hu 6 (by kernel_rfl)
          have hcell : w'.cell? ⟨bm + 1, 4, none⟩ = some (.int .i64 BHI) := by rw [← HQB.out.2.2]; exact blk_cell ((hph.block _ FR.out.2.2.1).trans FR.out.2.2.2.2.2.1) 4
          have e84 : (many gg_ L (VL z))[84]?.getD undef = .pointer (some ⟨bm + 1, 4, none⟩) := many_eval3 hgN (HOK.out z) (by rw [HVL.out]; rfl) y6
          refine opIn_run (v := .int .i64 BHI) (w' := w') rfl rfl (fun c h => by cases h) (fun _ => trivial) ?_ ⟨z, by exact many_put3 (HOK.out _) (by rw [HVL.out]; rfl) hL, hph⟩
          go_simp
        · skip
          have e15 : (many gg_ L (VL z))[15]?.getD undef = .int .i64 QI := many_out3 hgN (HOK.out z) (by rw [HVL.out]; rfl) hF15
          refine opIn_run (v := .int .i64 QI) (w' := w') rfl rfl (fun c h => by cases h) (fun _ => trivial) ?_ ⟨z, by exact many_put3 (HOK.out _) (by rw [HVL.out]; rfl) hL, hph⟩
          go_simp
        · skip
          have y7 : L 7 = true := up_at hu 7 (by kernel_rfl)
          have y8 : L 8 = true := up_at hu 8 (by kernel_rfl)
          have q1 := HC1.out.2.1
          have e85 : (many gg_ L (VL z))[85]?.getD undef = .int .i64 BHI := many_eval3 hgN (HOK.out z) (by rw [HVL.out]; rfl) y7
          have e86 : (many gg_ L (VL z))[86]?.getD undef = .int .i64 QI := many_eval3 hgN (HOK.out z) (by rw [HVL.out]; rfl) y8
          refine opIn_run (v := .int .i64 YI) (w' := w') rfl rfl (fun c h => by cases h) (fun _ => trivial) ?_ ⟨z, by exact many_put3 (HOK.out _) (by rw [HVL.out]; rfl) hL, hph⟩
          go_simp
        · skip
          have y9 : L 9 = true := up_at hu 9 (by kernel_rfl)
          have q1 : IntKind.u64.wrap YI = YI := HC1.out.2.2.2.2.2
          have e87 : (many gg_ L (VL z))[87]?.getD undef = .int .i64 YI := many_eval3 hgN (HOK.out z) (by rw [HVL.out]; rfl) y9
          refine opIn_run (v := .int .u64 YI) (w' := w') rfl rfl (fun c h => by cases h) (fun _ => trivial) ?_ ⟨z, by exact many_put3 (HOK.out _) (by rw [HVL.out]; rfl) hL, hph⟩
          go_simp
        · skip
          have y10 : L 10 = true := up_at hu 10 (by kernel_rfl)
          have q1 := HC1.out.2.2.2.1
          have e88 : (many gg_ L (VL z))[88]?.getD undef = .int .u64 YI := many_eval3 hgN (HOK.out z) (by rw [HVL.out]; rfl) y10
          refine opIn_run (v := .int .i64 y) (w' := w') rfl rfl (fun c h => by cases h) (fun _ => trivial) ?_ ⟨z, by exact many_put3 (HOK.out _) (by rw [HVL.out]; rfl) hL, hph⟩
          go_simp
        · skip
          have y0 : L 0 = true := up_at hu 0 (by kernel_rfl)
          have y1 : L 1 = true := up_at hu 1 (by kernel_rfl)
          have y2 : L 2 = true := up_at hu 2 (by kernel_rfl)
          have y3 : L 3 = true := up_at hu 3 (by kernel_rfl)
          have y4 : L 4 = true := up_at hu 4 (by kernel_rfl)
          have y5 : L 5 = true := up_at hu 5 (by kernel_rfl)
          have e83 : (many gg_ L (VL z))[83]?.getD undef = .int .i64 x := many_eval3 hgN (HOK.out z) (by rw [HVL.out]; rfl) y5
          refine opIn_run (v := .int .i64 x) (w' := w') rfl rfl (fun c h => by cases h) (fun _ => trivial) ?_ ⟨z, by exact many_put3 (HOK.out _) (by rw [HVL.out]; rfl) hL, hph⟩
          go_simp
        · skip
          have y0 : L 0 = true := up_at hu 0 (by kernel_rfl)
          have y1 : L 1 = true := up_at hu 1 (by kernel_rfl)
          have y2 : L 2 = true := up_at hu 2 (by kernel_rfl)
          have y3 : L 3 = true := up_at hu 3 (by kernel_rfl)
          have y4 : L 4 = true := up_at hu 4 (by kernel_rfl)
          have y5 : L 5 = true := up_at hu 5 (by kernel_rfl)
          have y6 : L 6 = true := up_at hu 6 (by kernel_rfl)
          have y7 : L 7 = true := up_at hu 7 (by kernel_rfl)
          have y8 : L 8 = true := up_at hu 8 (by kernel_rfl)
          have y9 : L 9 = true := up_at hu 9 (by kernel_rfl)
          have y10 : L 10 = true := up_at hu 10 (by kernel_rfl)
          have y11 : L 11 = true := up_at hu 11 (by kernel_rfl)
          have y12 : L 12 = true := up_at hu 12 (by kernel_rfl)
          have e89 : (many gg_ L (VL z))[89]?.getD undef = .int .i64 y := many_eval3 hgN (HOK.out z) (by rw [HVL.out]; rfl) y11
          refine opIn_run (v := .int .i64 y) (w' := w') rfl rfl (fun c h => by cases h) (fun _ => trivial) ?_ ⟨z, by exact many_put3 (HOK.out _) (by rw [HVL.out]; rfl) hL, hph⟩
          go_simp
      case fin =>
        intro L z w' hall hph
        rw [HVL.out]
        dsimp only [manyL, List.set_cons_zero, List.set_cons_succ]
        clear hall HVL HOK HVI
        have HP := Lib.hid hph
        clear hph
        go_wp2_with fail
        go_meet
        exact ⟨rfl, rfl, HP⟩
    case rest =>
      obtain ⟨rfl, rfl, HB3⟩ := hcut
      obtain ⟨W2, hW2⟩ : ∃ W2, W2 = wc := ⟨wc, rfl⟩
      subst hW2
      clear HC1
      have FW : Hid (bm + 1 < W2.heap.size ∧ q10 < W2.heap.size ∧ W2.heap[bm + 1]? = some (.cells #[.int .i64 TX, .int .i64 TY, .int .i64 (LV : Int), .int .i64 (BW : Int), .int .i64 (BH : Int), .int .i64 (PR : Int), .int .i64 ST, .int .i64 OD, .int .i64 (LY : Int), .bool RC, .bool SO, .bool EP] 26 (0, 0)) ∧ W2.heap[q10]? = some (.cells #[.int .i64 z0, .int .i64 z1, .int .i64 z2, .int .i64 z3] 48 (0, 0)) ∧ RcL W2 W2.heap.size (.slice MA bn MC) rb ∧ Below W1.heap.size W1 W2) := Lib.hid (by
        obtain ⟨h1, h2, h3, h4, h5, h6, h7⟩ := FR.out
        have hs := HB3.out.size
        exact ⟨by omega, by omega, (HB3.out.block _ h3).trans h6, (HB3.out.block _ h2).trans h5, HR1d.out.below HB3.out hs, h7.trans (HB3.out.mono h7.size)⟩)
      clear FR HR1d HB3
      have hTm : 0 ≤ CWI * RHI ∧ CWI * RHI ≤ 25 * 25 := ⟨Int.mul_nonneg (by omega) (by omega), Int.mul_le_mul (by omega) (by omega) (by omega) (by omega)⟩
      obtain ⟨TN, hTN⟩ : ∃ T : Nat, CWI * RHI = (T : Int) := ⟨(CWI * RHI).toNat, by omega⟩
      obtain ⟨T, hT⟩ : ∃ T : Int, (TN : Int) = T := ⟨_, rfl⟩
      rw [hTN, hT] at hTm
      have HTW : Hid (wrap64 T = T ∧ CWI * RHI = T ∧ IntKind.i64.wrap T = T) := Lib.hid ⟨w64_in (by omega), by rw [hTN, hT], IntWalk.i64_in _ (by omega)⟩
      have HTN2 := Lib.hid hT
      clear hTN hT
      have hTN6 : TN ≤ 625 := by have := HTN2.out; omega
      obtain ⟨ei, hei⟩ : ∃ e : Nat, a2 % (bn : Int) = (e : Int) := ⟨(a2 % (bn : Int)).toNat, by have := within_rng a2 (bn : Int) (by omega); omega⟩
      have heb : ei < bn := by have := within_rng a2 (bn : Int) (by omega); omega
      have WE : Hid (∀ u, Calls Try.prog 17 #[.int .i64 a2, .int .i64 (bn : Int)] u fun e w' => e = .returned (.int .i64 (ei : Int)) ∧ u = w') := Lib.hid fun u => by
        have := within12 a2 (bn : Int) u (by omega) (by omega)
        rw [hei] at this
        exact this
      clear hei
      have hel : ei < rb.length := by rw [HBO.out.1]; exact heb
      obtain ⟨⟨b0, b1, b2, b3⟩, hbd⟩ : ∃ b, rb[ei] = b := ⟨_, rfl⟩
      have hbk : RcOk 25 (b0, b1, b2, b3) := HBO.out.2 (b0, b1, b2, b3) (by rw [← hbd]; exact List.getElem_mem hel)
      have hbd2 : rb[ei]? = some (b0, b1, b2, b3) := by rw [List.getElem?_eq_getElem hel, hbd]
      obtain ⟨MA', MC', hMA, hMcell⟩ := FW.out.2.2.2.2.1
      injection hMA with hMA1 hMA2 hMA3
      subst hMA1 hMA3
      obtain ⟨mg, mq, rfl, hmg, y0, y1, y2, y3⟩ := hMcell ei _ hbd2
      have HME : Hid (mg < W2.heap.size ∧ W2.cell? ⟨mg, mq + ei * 4, none⟩ = some (.int .i64 b0) ∧ W2.cell? ⟨mg, mq + ei * 4 + 1, none⟩ = some (.int .i64 b1) ∧ W2.cell? ⟨mg, mq + ei * 4 + 2, none⟩ = some (.int .i64 b2) ∧ W2.cell? ⟨mg, mq + ei * 4 + 3, none⟩ = some (.int .i64 b3)) := Lib.hid ⟨hmg, y0, y1, y2, y3⟩
      have HBK := Lib.hid hbk
      clear hel hbd hbk hbd2 hMA2 hMcell hmg y0 y1 y2 y3
      have heI : (ei : Int) < (bn : Int) ∧ (0 : Int) ≤ (ei : Int) := by omega
      go_wp2_with fail
      go_loopg [18] TN (fun g v wr => ∃ k : Nat, k + g = TN ∧ v = .int .i64 (k : Int) ∧ Hid (Below W2.heap.size W2 wr))
      case atStart => exact ⟨0, by omega, rfl, Lib.hid (Below.refl _ _)⟩
      case round =>
       obtain ⟨k, hkg, rfl, HBe⟩ := hrel
       obtain ⟨we, hwe⟩ : ∃ we, we = wr := ⟨wr, rfl⟩
       subst hwe
       have hk0 : (0 : Int) ≤ (k : Int) := by omega
       have s1 := HTW.out.1
       have s2 := HTW.out.2.1
       have s3 := HTW.out.2.2
       by_cases hkT : k < TN
       · obtain ⟨g3, rfl⟩ : ∃ g3, gk = g3 + 1 := ⟨gk - 1, by omega⟩
         have hkI : (k : Int) < T := by have := HTN2.out; omega
         obtain ⟨BL, hBL⟩ : ∃ l, (blkF (b0, b1, b2, b3) (z0, z1, z2, z3) PR BW BH r k).1 = l := ⟨_, rfl⟩
         obtain ⟨bwd, hbwd⟩ : ∃ l, (blkF (b0, b1, b2, b3) (z0, z1, z2, z3) PR BW BH r k).2 = l := ⟨_, rfl⟩
         have hBLl := blk_len (z := (z0, z1, z2, z3)) PR BW BH r k HBK.out
         have hBF := blk_facts (z := (z0, z1, z2, z3)) (pr := PR) (bw := BW) (bh := BH) (r := r) (k := k) HBK.out hBL hbwd
         rw [HXY.out.1, HXY.out.2] at hBF
         rw [hBL] at hBLl
         have c1 : inN (b0, b1, b2, b3) 255 := by obtain ⟨⟨a1, a2, a3, a4⟩, _⟩ := HBK.out; exact ⟨by omega, by omega, by omega, by omega⟩
         have c2 : inN (z0, z1, z2, z3) 255 := by obtain ⟨⟨a1, a2, a3, a4⟩, _⟩ := HZK.out; exact ⟨by omega, by omega, by omega, by omega⟩
         have BK1 := Lib.hid (fun u => blocks_any (b0, b1, b2, b3) (z0, z1, z2, z3) TX TY (LV : Int) ST OD (LY : Int) RC SO EP BW BH PR r k u c1 HBK.out.2 c2 HZK.out.2 (by omega) (by omega) (by omega) (by omega) (by omega))
         rw [hBL, hbwd] at BK1
         obtain ⟨bl, hbl⟩ : ∃ bl, BL.length = bl := ⟨_, rfl⟩
         rw [hbl] at BK1 hBLl
         unfold rA at BK1
         simp only at BK1
         have HBL := Lib.hid hbl
         have HBF := Lib.hid hBF
         clear hBL hbwd c1 c2 hbl hBF
         go_upto_region 16 with fail
         clear s1 s2 s3
         go_cut [19, 20] from 97 to 111 (fun a b wx => ∃ A5 C5, a = .slice A5 bl C5 ∧ b = .int .i64 bwd ∧ Hid (Below W2.heap.size W2 wx ∧ RcL wx wx.heap.size (.slice A5 bl C5) BL))
         case first =>
           obtain ⟨VL, hVL⟩ : ∃ VL : Option Addr × Nat → List (Nat × Nat × Value), VL = fun z => [(0, 98, .slice (some ⟨mg, mq, none⟩) bn MC), (1, 99, .int .i64 a2), (2, 100, .slice (some ⟨mg, mq, none⟩) bn MC), (3, 101, .int .i64 (bn : Int)), (4, 102, .int .i64 (ei : Int)), (5, 103, .pointer (some ⟨mg, mq + ei * 4, none⟩)), (6, 104, .agg #[.int .i64 b0, .int .i64 b1, .int .i64 b2, .int .i64 b3]), (7, 105, .agg #[.int .i64 z0, .int .i64 z1, .int .i64 z2, .int .i64 z3]), (8, 106, .agg #[.int .i64 TX, .int .i64 TY, .int .i64 (LV : Int), .int .i64 (BW : Int), .int .i64 (BH : Int), .int .i64 (PR : Int), .int .i64 ST, .int .i64 OD, .int .i64 (LY : Int), .bool RC, .bool SO, .bool EP]), (9, 107, .int .i64 (r : Int)), (10, 108, .int .i64 (k : Int)), (11, 109, .tuple #[.slice z.1 bl z.2, .int .i64 bwd]), (12, 97, .tuple #[.slice z.1 bl z.2, .int .i64 bwd]), (13, 110, .slice z.1 bl z.2), (14, 111, .int .i64 bwd), (15, 19, .slice z.1 bl z.2), (16, 20, .int .i64 bwd)] := ⟨_, rfl⟩
           have hok : ∀ z, manyOk 254 (VL z) := fun z => by rw [hVL]; exact okB_ok rfl
           have HVL := Lib.hid hVL
           have hvi : ∀ z, ∀ x ∈ VL z, x.1 < 17 := fun z => by rw [hVL]; exact ltB_ok rfl
           have HOK := Lib.hid hok
           have HVI := Lib.hid hvi
           clear hVL hok hvi
           refine (wpIn_wide (n := 9)).1 (regionIn_many (N := 254) (w := _) VL (fun L z w' => (bif L 11 then (Below W2.heap.size W2 w' ∧ RcL w' w'.heap.size (.slice z.1 bl z.2) BL) else Below W2.heap.size W2 w')) [(1, .int .i64 (r : Int)), (2, .int .i64 a2), (8, .pointer (some ⟨bm + 1, 0, none⟩)), (10, .pointer (some ⟨q10, 0, none⟩)), (12, .slice (some ⟨mg, mq, none⟩) bn MC), (18, .int .i64 (k : Int))] (by kernel_rfl) (by kernel_rfl) rfl (by simp only [List.forall_mem_cons, List.not_mem_nil, false_imp_iff, implies_true, and_true]; exact ⟨rfl, rfl, rfl, rfl, rfl, rfl⟩) HVI.out (none, 0) ?start ?step ?fin)
           case start => exact HBe.out.drew
           case step =>
             intro gg_ hgN hgF ii_ hii_ L z w' hph hs hu
             have hF1 := hgF (1, .int .i64 (r : Int)) (by simp)
             have hF2 := hgF (2, .int .i64 a2) (by simp)
             have hF8 := hgF (8, .pointer (some ⟨bm + 1, 0, none⟩)) (by simp)
             have hF10 := hgF (10, .pointer (some ⟨q10, 0, none⟩)) (by simp)
             have hF12 := hgF (12, .slice (some ⟨mg, mq, none⟩) bn MC) (by simp)
             have hF18 := hgF (18, .int .i64 (k : Int)) (by simp)
             have hL := hu.1
             have hii_ : ii_ < 17 := hii_
             clear hgF
             obtain rfl | rfl | rfl | rfl | rfl | rfl | rfl | rfl | rfl | rfl | rfl | rfl | rfl | rfl | rfl | rfl | rfl := (by omega : ii_ = 0 ∨ ii_ = 1 ∨ ii_ = 2 ∨ ii_ = 3 ∨ ii_ = 4 ∨ ii_ = 5 ∨ ii_ = 6 ∨ ii_ = 7 ∨ ii_ = 8 ∨ ii_ = 9 ∨ ii_ = 10 ∨ ii_ = 11 ∨ ii_ = 12 ∨ ii_ = 13 ∨ ii_ = 14 ∨ ii_ = 15 ∨ ii_ = 16)
             · skip
               have n11 : L 11 = false := not_yet hL fun h => shut_at hs 5 0 (by kernel_rfl) (shut_at hs 6 5 (by kernel_rfl) (shut_at hs 11 6 (by kernel_rfl) (h)))
               have n12 : L 12 = false := not_yet hL fun h => shut_at hs 5 0 (by kernel_rfl) (shut_at hs 6 5 (by kernel_rfl) (shut_at hs 11 6 (by kernel_rfl) (shut_at hs 12 11 (by kernel_rfl) (h))))
               have n13 : L 13 = false := not_yet hL fun h => shut_at hs 5 0 (by kernel_rfl) (shut_at hs 6 5 (by kernel_rfl) (shut_at hs 11 6 (by kernel_rfl) (shut_at hs 12 11 (by kernel_rfl) (shut_at hs 13 12 (by kernel_rfl) (h)))))
               have n15 : L 15 = false := not_yet hL fun h => shut_at hs 15 0 (by kernel_rfl) (h)
               try simp only [n11, n12, n13, n15, hL, cond_true, cond_false] at hph
               have e12 : (many gg_ L (VL z))[12]?.getD undef = .slice (some ⟨mg, mq, none⟩) bn MC := many_out3 hgN (HOK.out z) (by rw [HVL.out]; rfl) hF12
               refine opIn_run (v := .slice (some ⟨mg, mq, none⟩) bn MC) (w' := w') rfl rfl (fun c h => by cases h) (fun _ => trivial) ?_ ⟨z, by exact many_put3 (HOK.out _) (by rw [HVL.out]; rfl) hL, by simp only [upd, n11, n12, n13, n15, hL, Nat.reduceBEq, cond_true, cond_false]; exact hph⟩
               go_simp
             · skip
               have n11 : L 11 = false := not_yet hL fun h => shut_at hs 4 1 (by kernel_rfl) (shut_at hs 11 4 (by kernel_rfl) (h))
               have n12 : L 12 = false := not_yet hL fun h => shut_at hs 4 1 (by kernel_rfl) (shut_at hs 11 4 (by kernel_rfl) (shut_at hs 12 11 (by kernel_rfl) (h)))
               have n13 : L 13 = false := not_yet hL fun h => shut_at hs 4 1 (by kernel_rfl) (shut_at hs 11 4 (by kernel_rfl) (shut_at hs 12 11 (by kernel_rfl) (shut_at hs 13 12 (by kernel_rfl) (h))))
               have n15 : L 15 = false := not_yet hL fun h => shut_at hs 15 1 (by kernel_rfl) (h)
               try simp only [n11, n12, n13, n15, hL, cond_true, cond_false] at hph
               have e2 : (many gg_ L (VL z))[2]?.getD undef = .int .i64 a2 := many_out3 hgN (HOK.out z) (by rw [HVL.out]; rfl) hF2
               refine opIn_run (v := .int .i64 a2) (w' := w') rfl rfl (fun c h => by cases h) (fun _ => trivial) ?_ ⟨z, by exact many_put3 (HOK.out _) (by rw [HVL.out]; rfl) hL, by simp only [upd, n11, n12, n13, n15, hL, Nat.reduceBEq, cond_true, cond_false]; exact hph⟩
               go_simp
             · skip
               have n11 : L 11 = false := not_yet hL fun h => shut_at hs 3 2 (by kernel_rfl) (shut_at hs 4 3 (by kernel_rfl) (shut_at hs 11 4 (by kernel_rfl) (h)))
               have n12 : L 12 = false := not_yet hL fun h => shut_at hs 3 2 (by kernel_rfl) (shut_at hs 4 3 (by kernel_rfl) (shut_at hs 11 4 (by kernel_rfl) (shut_at hs 12 11 (by kernel_rfl) (h))))
               have n13 : L 13 = false := not_yet hL fun h => shut_at hs 3 2 (by kernel_rfl) (shut_at hs 4 3 (by kernel_rfl) (shut_at hs 11 4 (by kernel_rfl) (shut_at hs 12 11 (by kernel_rfl) (shut_at hs 13 12 (by kernel_rfl) (h)))))
               have n15 : L 15 = false := not_yet hL fun h => shut_at hs 15 2 (by kernel_rfl) (h)
               try simp only [n11, n12, n13, n15, hL, cond_true, cond_false] at hph
               have e12 : (many gg_ L (VL z))[12]?.getD undef = .slice (some ⟨mg, mq, none⟩) bn MC := many_out3 hgN (HOK.out z) (by rw [HVL.out]; rfl) hF12
               refine opIn_run (v := .slice (some ⟨mg, mq, none⟩) bn MC) (w' := w') rfl rfl (fun c h => by cases h) (fun _ => trivial) ?_ ⟨z, by exact many_put3 (HOK.out _) (by rw [HVL.out]; rfl) hL, by simp only [upd, n11, n12, n13, n15, hL, Nat.reduceBEq, cond_true, cond_false]; exact hph⟩
               go_simp
             · skip
               have y2 : L 2 = true := up_at hu 2 (by kernel_rfl)
               have n11 : L 11 = false := not_yet hL fun h => shut_at hs 4 3 (by kernel_rfl) (shut_at hs 11 4 (by kernel_rfl) (h))
               have n12 : L 12 = false := not_yet hL fun h => shut_at hs 4 3 (by kernel_rfl) (shut_at hs 11 4 (by kernel_rfl) (shut_at hs 12 11 (by kernel_rfl) (h)))
               have n13 : L 13 = false := not_yet hL fun h => shut_at hs 4 3 (by kernel_rfl) (shut_at hs 11 4 (by kernel_rfl) (shut_at hs 12 11 (by kernel_rfl) (shut_at hs 13 12 (by kernel_rfl) (h))))
               have n15 : L 15 = false := not_yet hL fun h => shut_at hs 15 3 (by kernel_rfl) (h)
               try simp only [y2, n11, n12, n13, n15, hL, cond_true, cond_false] at hph
               have e100 : (many gg_ L (VL z))[100]?.getD undef = .slice (some ⟨mg, mq, none⟩) bn MC := many_eval3 hgN (HOK.out z) (by rw [HVL.out]; rfl) y2
               refine opIn_run (v := .int .i64 (bn : Int)) (w' := w') rfl rfl (fun c h => by cases h) (fun _ => trivial) ?_ ⟨z, by exact many_put3 (HOK.out _) (by rw [HVL.out]; rfl) hL, by simp only [upd, y2, n11, n12, n13, n15, hL, Nat.reduceBEq, cond_true, cond_false]; exact hph⟩
               go_simp
             · skip
               have y1 : L 1 = true := up_at hu 1 (by kernel_rfl)
               have y3 : L 3 = true := up_at hu 3 (by kernel_rfl)
               have n11 : L 11 = false := not_yet hL fun h => shut_at hs 11 4 (by kernel_rfl) (h)
               have n12 : L 12 = false := not_yet hL fun h => shut_at hs 11 4 (by kernel_rfl) (shut_at hs 12 11 (by kernel_rfl) (h))
               have n13 : L 13 = false := not_yet hL fun h => shut_at hs 11 4 (by kernel_rfl) (shut_at hs 12 11 (by kernel_rfl) (shut_at hs 13 12 (by kernel_rfl) (h)))
               have n15 : L 15 = false := not_yet hL fun h => shut_at hs 15 4 (by kernel_rfl) (h)
               try simp only [y1, y3, n11, n12, n13, n15, hL, cond_true, cond_false] at hph
               have e99 : (many gg_ L (VL z))[99]?.getD undef = .int .i64 a2 := many_eval3 hgN (HOK.out z) (by rw [HVL.out]; rfl) y1
               have e101 : (many gg_ L (VL z))[101]?.getD undef = .int .i64 (bn : Int) := many_eval3 hgN (HOK.out z) (by rw [HVL.out]; rfl) y3
               refine opIn_call (f := 17) (args := #[.int .i64 a2, .int .i64 (bn : Int)]) (w' := w') rfl rfl (fun c h => by cases h) (fun _ => trivial) rfl (by go_simp) ((callsIn_wide.2 (WE.out w')).mono ?_)
               rintro e w2 ⟨rfl, rfl⟩
               exact ⟨_, rfl, z, by exact many_put3 (HOK.out _) (by rw [HVL.out]; rfl) hL, by simp only [upd, y1, y3, n11, n12, n13, n15, hL, Nat.reduceBEq, cond_true, cond_false]; exact hph⟩
             · skip
               have y0 : L 0 = true := up_at hu 0 (by kernel_rfl)
               have y4 : L 4 = true := up_at hu 4 (by kernel_rfl)
               have n11 : L 11 = false := not_yet hL fun h => shut_at hs 6 5 (by kernel_rfl) (shut_at hs 11 6 (by kernel_rfl) (h))
               have n12 : L 12 = false := not_yet hL fun h => shut_at hs 6 5 (by kernel_rfl) (shut_at hs 11 6 (by kernel_rfl) (shut_at hs 12 11 (by kernel_rfl) (h)))
               have n13 : L 13 = false := not_yet hL fun h => shut_at hs 6 5 (by kernel_rfl) (shut_at hs 11 6 (by kernel_rfl) (shut_at hs 12 11 (by kernel_rfl) (shut_at hs 13 12 (by kernel_rfl) (h))))
               have n15 : L 15 = false := not_yet hL fun h => shut_at hs 15 5 (by kernel_rfl) (h)
               try simp only [y0, y4, n11, n12, n13, n15, hL, cond_true, cond_false] at hph
               have e98 : (many gg_ L (VL z))[98]?.getD undef = .slice (some ⟨mg, mq, none⟩) bn MC := many_eval3 hgN (HOK.out z) (by rw [HVL.out]; rfl) y0
               have e102 : (many gg_ L (VL z))[102]?.getD undef = .int .i64 (ei : Int) := many_eval3 hgN (HOK.out z) (by rw [HVL.out]; rfl) y4
               refine opIn_run (v := .pointer (some ⟨mg, mq + ei * 4, none⟩)) (w' := w') rfl rfl (fun c h => by cases h) (fun _ => trivial) ?_ ⟨z, by exact many_put3 (HOK.out _) (by rw [HVL.out]; rfl) hL, by simp only [upd, y0, y4, n11, n12, n13, n15, hL, Nat.reduceBEq, cond_true, cond_false]; exact hph⟩
               go_simp
             · skip
               have y5 : L 5 = true := up_at hu 5 (by kernel_rfl)
               have n11 : L 11 = false := not_yet hL fun h => shut_at hs 11 6 (by kernel_rfl) (h)
               have n12 : L 12 = false := not_yet hL fun h => shut_at hs 11 6 (by kernel_rfl) (shut_at hs 12 11 (by kernel_rfl) (h))
               have n13 : L 13 = false := not_yet hL fun h => shut_at hs 11 6 (by kernel_rfl) (shut_at hs 12 11 (by kernel_rfl) (shut_at hs 13 12 (by kernel_rfl) (h)))
               have n15 : L 15 = false := not_yet hL fun h => shut_at hs 15 6 (by kernel_rfl) (h)
               try simp only [y5, n11, n12, n13, n15, hL, cond_true, cond_false] at hph
               have g0 := (hph.cell (p := ⟨mg, mq + ei * 4, none⟩) HME.out.1).trans HME.out.2.1
               have g1 := (hph.cell (p := ⟨mg, mq + ei * 4 + 1, none⟩) HME.out.1).trans HME.out.2.2.1
               have g2 := (hph.cell (p := ⟨mg, mq + ei * 4 + 2, none⟩) HME.out.1).trans HME.out.2.2.2.1
               have g3 := (hph.cell (p := ⟨mg, mq + ei * 4 + 3, none⟩) HME.out.1).trans HME.out.2.2.2.2
               have e103 : (many gg_ L (VL z))[103]?.getD undef = .pointer (some ⟨mg, mq + ei * 4, none⟩) := many_eval3 hgN (HOK.out z) (by rw [HVL.out]; rfl) y5
               refine opIn_run (v := .agg #[.int .i64 b0, .int .i64 b1, .int .i64 b2, .int .i64 b3]) (w' := w') rfl rfl (fun c h => by cases h) (fun _ => trivial) ?_ ⟨z, by exact many_put3 (HOK.out _) (by rw [HVL.out]; rfl) hL, by simp only [upd, y5, n11, n12, n13, n15, hL, Nat.reduceBEq, cond_true, cond_false]; exact hph⟩
               go_simp
             · skip
               have n11 : L 11 = false := not_yet hL fun h => shut_at hs 11 7 (by kernel_rfl) (h)
               have n12 : L 12 = false := not_yet hL fun h => shut_at hs 11 7 (by kernel_rfl) (shut_at hs 12 11 (by kernel_rfl) (h))
               have n13 : L 13 = false := not_yet hL fun h => shut_at hs 11 7 (by kernel_rfl) (shut_at hs 12 11 (by kernel_rfl) (shut_at hs 13 12 (by kernel_rfl) (h)))
               have n15 : L 15 = false := not_yet hL fun h => shut_at hs 15 7 (by kernel_rfl) (h)
               try simp only [n11, n12, n13, n15, hL, cond_true, cond_false] at hph
               obtain ⟨v0, v1, v2, v3⟩ := rc_cells ((hph.block _ FW.out.2.1).trans FW.out.2.2.2.1)
               have e10 : (many gg_ L (VL z))[10]?.getD undef = .pointer (some ⟨q10, 0, none⟩) := many_out3 hgN (HOK.out z) (by rw [HVL.out]; rfl) hF10
               refine opIn_run (v := .agg #[.int .i64 z0, .int .i64 z1, .int .i64 z2, .int .i64 z3]) (w' := w') rfl rfl (fun c h => by cases h) (fun _ => trivial) ?_ ⟨z, by exact many_put3 (HOK.out _) (by rw [HVL.out]; rfl) hL, by simp only [upd, n11, n12, n13, n15, hL, Nat.reduceBEq, cond_true, cond_false]; exact hph⟩
               go_simp
             · skip
               have n11 : L 11 = false := not_yet hL fun h => shut_at hs 11 8 (by kernel_rfl) (h)
               have n12 : L 12 = false := not_yet hL fun h => shut_at hs 11 8 (by kernel_rfl) (shut_at hs 12 11 (by kernel_rfl) (h))
               have n13 : L 13 = false := not_yet hL fun h => shut_at hs 11 8 (by kernel_rfl) (shut_at hs 12 11 (by kernel_rfl) (shut_at hs 13 12 (by kernel_rfl) (h)))
               have n15 : L 15 = false := not_yet hL fun h => shut_at hs 15 8 (by kernel_rfl) (h)
               try simp only [n11, n12, n13, n15, hL, cond_true, cond_false] at hph
               obtain ⟨j0, j1, j2, j3, j4, j5, j6, j7, j8, j9, j10, j11⟩ := par_cells ((hph.block _ FW.out.1).trans FW.out.2.2.1)
               have e8 : (many gg_ L (VL z))[8]?.getD undef = .pointer (some ⟨bm + 1, 0, none⟩) := many_out3 hgN (HOK.out z) (by rw [HVL.out]; rfl) hF8
               refine opIn_run (v := .agg #[.int .i64 TX, .int .i64 TY, .int .i64 (LV : Int), .int .i64 (BW : Int), .int .i64 (BH : Int), .int .i64 (PR : Int), .int .i64 ST, .int .i64 OD, .int .i64 (LY : Int), .bool RC, .bool SO, .bool EP]) (w' := w') rfl rfl (fun c h => by cases h) (fun _ => trivial) ?_ ⟨z, by exact many_put3 (HOK.out _) (by rw [HVL.out]; rfl) hL, by simp only [upd, n11, n12, n13, n15, hL, Nat.reduceBEq, cond_true, cond_false]; exact hph⟩
               go_simp
             · skip
               have n11 : L 11 = false := not_yet hL fun h => shut_at hs 11 9 (by kernel_rfl) (h)
               have n12 : L 12 = false := not_yet hL fun h => shut_at hs 11 9 (by kernel_rfl) (shut_at hs 12 11 (by kernel_rfl) (h))
               have n13 : L 13 = false := not_yet hL fun h => shut_at hs 11 9 (by kernel_rfl) (shut_at hs 12 11 (by kernel_rfl) (shut_at hs 13 12 (by kernel_rfl) (h)))
               have n15 : L 15 = false := not_yet hL fun h => shut_at hs 15 9 (by kernel_rfl) (h)
               try simp only [n11, n12, n13, n15, hL, cond_true, cond_false] at hph
               have e1 : (many gg_ L (VL z))[1]?.getD undef = .int .i64 (r : Int) := many_out3 hgN (HOK.out z) (by rw [HVL.out]; rfl) hF1
               refine opIn_run (v := .int .i64 (r : Int)) (w' := w') rfl rfl (fun c h => by cases h) (fun _ => trivial) ?_ ⟨z, by exact many_put3 (HOK.out _) (by rw [HVL.out]; rfl) hL, by simp only [upd, n11, n12, n13, n15, hL, Nat.reduceBEq, cond_true, cond_false]; exact hph⟩
               go_simp
             · skip
               have n11 : L 11 = false := not_yet hL fun h => shut_at hs 11 10 (by kernel_rfl) (h)
               have n12 : L 12 = false := not_yet hL fun h => shut_at hs 11 10 (by kernel_rfl) (shut_at hs 12 11 (by kernel_rfl) (h))
               have n13 : L 13 = false := not_yet hL fun h => shut_at hs 11 10 (by kernel_rfl) (shut_at hs 12 11 (by kernel_rfl) (shut_at hs 13 12 (by kernel_rfl) (h)))
               have n15 : L 15 = false := not_yet hL fun h => shut_at hs 15 10 (by kernel_rfl) (h)
               try simp only [n11, n12, n13, n15, hL, cond_true, cond_false] at hph
               have e18 : (many gg_ L (VL z))[18]?.getD undef = .int .i64 (k : Int) := many_out3 hgN (HOK.out z) (by rw [HVL.out]; rfl) hF18
               refine opIn_run (v := .int .i64 (k : Int)) (w' := w') rfl rfl (fun c h => by cases h) (fun _ => trivial) ?_ ⟨z, by exact many_put3 (HOK.out _) (by rw [HVL.out]; rfl) hL, by simp only [upd, n11, n12, n13, n15, hL, Nat.reduceBEq, cond_true, cond_false]; exact hph⟩
               go_simp
             · skip
               have y4 : L 4 = true := up_at hu 4 (by kernel_rfl)
               have y6 : L 6 = true := up_at hu 6 (by kernel_rfl)
               have y7 : L 7 = true := up_at hu 7 (by kernel_rfl)
               have y8 : L 8 = true := up_at hu 8 (by kernel_rfl)
               have y9 : L 9 = true := up_at hu 9 (by kernel_rfl)
               have y10 : L 10 = true := up_at hu 10 (by kernel_rfl)
               have n12 : L 12 = false := not_yet hL fun h => shut_at hs 12 11 (by kernel_rfl) (h)
               have n13 : L 13 = false := not_yet hL fun h => shut_at hs 12 11 (by kernel_rfl) (shut_at hs 13 12 (by kernel_rfl) (h))
               have n15 : L 15 = false := not_yet hL fun h => shut_at hs 15 11 (by kernel_rfl) (h)
               try simp only [y4, y6, y7, y8, y9, y10, n12, n13, n15, hL, cond_true, cond_false] at hph
               have e104 : (many gg_ L (VL z))[104]?.getD undef = .agg #[.int .i64 b0, .int .i64 b1, .int .i64 b2, .int .i64 b3] := many_eval3 hgN (HOK.out z) (by rw [HVL.out]; rfl) y6
               have e105 : (many gg_ L (VL z))[105]?.getD undef = .agg #[.int .i64 z0, .int .i64 z1, .int .i64 z2, .int .i64 z3] := many_eval3 hgN (HOK.out z) (by rw [HVL.out]; rfl) y7
               have e106 : (many gg_ L (VL z))[106]?.getD undef = .agg #[.int .i64 TX, .int .i64 TY, .int .i64 (LV : Int), .int .i64 (BW : Int), .int .i64 (BH : Int), .int .i64 (PR : Int), .int .i64 ST, .int .i64 OD, .int .i64 (LY : Int), .bool RC, .bool SO, .bool EP] := many_eval3 hgN (HOK.out z) (by rw [HVL.out]; rfl) y8
               have e107 : (many gg_ L (VL z))[107]?.getD undef = .int .i64 (r : Int) := many_eval3 hgN (HOK.out z) (by rw [HVL.out]; rfl) y9
               have e108 : (many gg_ L (VL z))[108]?.getD undef = .int .i64 (k : Int) := many_eval3 hgN (HOK.out z) (by rw [HVL.out]; rfl) y10
               refine opIn_call (f := 30) (args := #[.agg #[.int .i64 b0, .int .i64 b1, .int .i64 b2, .int .i64 b3], .agg #[.int .i64 z0, .int .i64 z1, .int .i64 z2, .int .i64 z3], .agg #[.int .i64 TX, .int .i64 TY, .int .i64 (LV : Int), .int .i64 (BW : Int), .int .i64 (BH : Int), .int .i64 (PR : Int), .int .i64 ST, .int .i64 OD, .int .i64 (LY : Int), .bool RC, .bool SO, .bool EP], .int .i64 (r : Int), .int .i64 (k : Int)]) (w' := w') rfl rfl (fun c h => by cases h) (fun _ => trivial) rfl (by go_simp) ((callsIn_wide.2 (BK1.out w')).mono ?_)
               rintro e w2 ⟨A5x, C5x, rfl, hrl, hb⟩
               exact ⟨_, rfl, (A5x, C5x), by rw [show many gg_ L (VL z) = many gg_ L (VL (A5x, C5x)) from by rw [HVL.out]; simp only [many, y4, y6, y7, y8, y9, y10, n12, n13, n15, hL, cond_false, cond_true]]; exact many_put3 (HOK.out _) (by rw [HVL.out]; rfl) hL, by simp only [upd, y4, y6, y7, y8, y9, y10, n12, n13, n15, hL, Nat.reduceBEq, cond_true, cond_false]; exact ⟨hph.trans (hb.mono hph.size), hrl⟩⟩
             · skip
               have y11 : L 11 = true := up_at hu 11 (by kernel_rfl)
               have n13 : L 13 = false := not_yet hL fun h => shut_at hs 13 12 (by kernel_rfl) (h)
               have n15 : L 15 = false := not_yet hL fun h => shut_at hs 15 12 (by kernel_rfl) (h)
               try simp only [y11, n13, n15, hL, cond_true, cond_false] at hph
               have e109 : (many gg_ L (VL z))[109]?.getD undef = .tuple #[.slice z.1 bl z.2, .int .i64 bwd] := many_eval3 hgN (HOK.out z) (by rw [HVL.out]; rfl) y11
               refine opIn_run (v := .tuple #[.slice z.1 bl z.2, .int .i64 bwd]) (w' := w') rfl rfl (fun c h => by cases h) (fun _ => trivial) ?_ ⟨z, by exact many_put3 (HOK.out _) (by rw [HVL.out]; rfl) hL, by simp only [upd, y11, n13, n15, hL, Nat.reduceBEq, cond_true, cond_false]; exact hph⟩
               go_simp
             · skip
               have y11 : L 11 = true := shut_at hs 12 11 (by kernel_rfl) (up_at hu 12 (by kernel_rfl))
               have y12 : L 12 = true := up_at hu 12 (by kernel_rfl)
               have n15 : L 15 = false := not_yet hL fun h => shut_at hs 15 13 (by kernel_rfl) (h)
               try simp only [y11, y12, n15, hL, cond_true, cond_false] at hph
               have e97 : (many gg_ L (VL z))[97]?.getD undef = .tuple #[.slice z.1 bl z.2, .int .i64 bwd] := many_eval3 hgN (HOK.out z) (by rw [HVL.out]; rfl) y12
               refine opIn_run (v := .slice z.1 bl z.2) (w' := w') rfl rfl (fun c h => by cases h) (fun _ => trivial) ?_ ⟨z, by exact many_put3 (HOK.out _) (by rw [HVL.out]; rfl) hL, by simp only [upd, y11, y12, n15, hL, Nat.reduceBEq, cond_true, cond_false]; exact hph⟩
               go_simp
             · skip
               have y11 : L 11 = true := shut_at hs 12 11 (by kernel_rfl) (up_at hu 12 (by kernel_rfl))
               have y12 : L 12 = true := up_at hu 12 (by kernel_rfl)
               try simp only [y11, y12, hL, cond_true, cond_false] at hph
               have e97 : (many gg_ L (VL z))[97]?.getD undef = .tuple #[.slice z.1 bl z.2, .int .i64 bwd] := many_eval3 hgN (HOK.out z) (by rw [HVL.out]; rfl) y12
               refine opIn_run (v := .int .i64 bwd) (w' := w') rfl rfl (fun c h => by cases h) (fun _ => trivial) ?_ ⟨z, by exact many_put3 (HOK.out _) (by rw [HVL.out]; rfl) hL, by simp only [upd, y11, y12, hL, Nat.reduceBEq, cond_true, cond_false]; exact hph⟩
               go_simp
             · skip
               have y0 : L 0 = true := up_at hu 0 (by kernel_rfl)
               have y1 : L 1 = true := up_at hu 1 (by kernel_rfl)
               have y2 : L 2 = true := up_at hu 2 (by kernel_rfl)
               have y3 : L 3 = true := up_at hu 3 (by kernel_rfl)
               have y4 : L 4 = true := up_at hu 4 (by kernel_rfl)
               have y5 : L 5 = true := up_at hu 5 (by kernel_rfl)
               have y6 : L 6 = true := up_at hu 6 (by kernel_rfl)
               have y7 : L 7 = true := up_at hu 7 (by kernel_rfl)
               have y8 : L 8 = true := up_at hu 8 (by kernel_rfl)
               have y9 : L 9 = true := up_at hu 9 (by kernel_rfl)
               have y10 : L 10 = true := up_at hu 10 (by kernel_rfl)
               have y11 : L 11 = true := up_at hu 11 (by kernel_rfl)
               have y12 : L 12 = true := up_at hu 12 (by kernel_rfl)
               have y13 : L 13 = true := up_at hu 13 (by kernel_rfl)
               try simp only [y0, y1, y2, y3, y4, y5, y6, y7, y8, y9, y10, y11, y12, y13, hL, cond_true, cond_false] at hph
               have e110 : (many gg_ L (VL z))[110]?.getD undef = .slice z.1 bl z.2 := many_eval3 hgN (HOK.out z) (by rw [HVL.out]; rfl) y13
               refine opIn_run (v := .slice z.1 bl z.2) (w' := w') rfl rfl (fun c h => by cases h) (fun _ => trivial) ?_ ⟨z, by exact many_put3 (HOK.out _) (by rw [HVL.out]; rfl) hL, by simp only [upd, y0, y1, y2, y3, y4, y5, y6, y7, y8, y9, y10, y11, y12, y13, hL, Nat.reduceBEq, cond_true, cond_false]; exact hph⟩
               go_simp
             · skip
               have y0 : L 0 = true := up_at hu 0 (by kernel_rfl)
               have y1 : L 1 = true := up_at hu 1 (by kernel_rfl)
               have y2 : L 2 = true := up_at hu 2 (by kernel_rfl)
               have y3 : L 3 = true := up_at hu 3 (by kernel_rfl)
               have y4 : L 4 = true := up_at hu 4 (by kernel_rfl)
               have y5 : L 5 = true := up_at hu 5 (by kernel_rfl)
               have y6 : L 6 = true := up_at hu 6 (by kernel_rfl)
               have y7 : L 7 = true := up_at hu 7 (by kernel_rfl)
               have y8 : L 8 = true := up_at hu 8 (by kernel_rfl)
               have y9 : L 9 = true := up_at hu 9 (by kernel_rfl)
               have y10 : L 10 = true := up_at hu 10 (by kernel_rfl)
               have y11 : L 11 = true := up_at hu 11 (by kernel_rfl)
               have y12 : L 12 = true := up_at hu 12 (by kernel_rfl)
               have y13 : L 13 = true := up_at hu 13 (by kernel_rfl)
               have y14 : L 14 = true := up_at hu 14 (by kernel_rfl)
               have y15 : L 15 = true := up_at hu 15 (by kernel_rfl)
               try simp only [y0, y1, y2, y3, y4, y5, y6, y7, y8, y9, y10, y11, y12, y13, y14, y15, hL, cond_true, cond_false] at hph
               have e111 : (many gg_ L (VL z))[111]?.getD undef = .int .i64 bwd := many_eval3 hgN (HOK.out z) (by rw [HVL.out]; rfl) y14
               refine opIn_run (v := .int .i64 bwd) (w' := w') rfl rfl (fun c h => by cases h) (fun _ => trivial) ?_ ⟨z, by exact many_put3 (HOK.out _) (by rw [HVL.out]; rfl) hL, by simp only [upd, y0, y1, y2, y3, y4, y5, y6, y7, y8, y9, y10, y11, y12, y13, y14, y15, hL, Nat.reduceBEq, cond_true, cond_false]; exact hph⟩
               go_simp
           case fin =>
             intro L z w' hall hph
             have l11 := hall 11 (by decide)
             simp only [l11, cond_true] at hph
             clear l11
             rw [HVL.out]
             dsimp only [manyL, List.set_cons_zero, List.set_cons_succ]
             clear hall HVL HOK HVI
             have HP := Lib.hid hph
             clear hph
             go_wp2_with fail
             go_meet
             exact ⟨z.1, z.2, rfl, rfl, HP⟩
         case rest =>
          obtain ⟨A5, C5, rfl, rfl, HBh⟩ := hcut
          obtain ⟨W5, hW5⟩ : ∃ W5, W5 = wc := ⟨wc, rfl⟩
          subst hW5
          clear BK1 HBe
          go_upto_region 17 with fail
          go_cut [129] from 112 to 128 (fun v wx => v = .bool false ∧ wx = W5)
          case first =>
           rcases HBF.out with ⟨hz, hnil⟩ | ⟨wd, ht, hw1, hw2, hlen, hok⟩
           · have hbl0 : bl = 0 := by rw [← HBL.out, hnil]; rfl
             subst hz
             subst hbl0
             go_wp2_with fail
             go_meet
             exact ⟨rfl, rfl⟩
           · subst hw1
             have e0 : (0 : Int) < (wd : Int) ∧ ¬ (wd : Int) = 0 ∧ 0 < wd ∧ ¬ wd = 0 := by omega
             have e1 : ((wd : Int) == 0) = false := by simpa using e0.2.2.2
             have e2 : (bl : Int).tmod (wd : Int) = 0 := by rw [← HBL.out, hlen, Int.natCast_mul]; exact Int.mul_tmod_left _ _
             obtain ⟨e01, e02, e03, e04⟩ := e0
             clear hok
             go_wp2_with fail
             go_meet
             exact ⟨rfl, rfl⟩
          case rest =>
           obtain ⟨rfl, rfl⟩ := hcut
           obtain ⟨W5, hW5⟩ : ∃ W5, W5 = wc := ⟨wc, rfl⟩
           subst hW5
           go_wp2_with fail
           go_loopg [21] bl (fun g v wr => ∃ i : Nat, i + g = bl ∧ v = .int .i64 (i : Int) ∧ Hid (Below W5.heap.size W5 wr))
           case atStart => exact ⟨0, by omega, rfl, Lib.hid (Below.refl _ _)⟩
           case round =>
            obtain ⟨i, hig, rfl, HBi⟩ := hrel
            obtain ⟨wi, hwi⟩ : ∃ wi, wi = wr := ⟨wr, rfl⟩
            subst hwi
            by_cases hib : i < bl
            · obtain ⟨g4, rfl⟩ : ∃ g4, gk = g4 + 1 := ⟨gk - 1, by omega⟩
              have hiI : (i : Int) < (bl : Int) ∧ (0 : Int) ≤ (i : Int) := by omega
              rcases HBF.out with ⟨hz, hnil⟩ | ⟨wd, ht, hw1, hw2, hlen, hok⟩
              · have hbl0 : bl = 0 := by rw [← HBL.out, hnil]; rfl
                omega
              · have hwd625 : wd ≤ 1000 := by
                  have h1 := HBL.out
                  rw [hlen] at h1
                  have h3 : 0 < ht := by
                    rcases Nat.eq_zero_or_pos ht with h0 | h0
                    · rw [h0, Nat.zero_mul] at h1; omega
                    · exact h0
                  have h2 := Nat.le_mul_of_pos_left wd h3
                  omega
                have hil : i < BL.length := by rw [HBL.out]; exact hib
                obtain ⟨⟨c0, c1, c2, c3⟩, hcb⟩ : ∃ b, BL[i] = b := ⟨_, rfl⟩
                have hcb2 : BL[i]? = some (c0, c1, c2, c3) := by rw [List.getElem?_eq_getElem hil, hcb]
                have BO := hok i _ hcb2
                obtain ⟨A5', C5', hMA, hMcell⟩ := HBh.out.2
                injection hMA with hMA1 hMA2 hMA3
                subst hMA1 hMA3
                obtain ⟨g5, o5, rfl, hmg, y0, y1, y2, y3⟩ := hMcell i _ hcb2
                have HCE : Hid (g5 < W5.heap.size ∧ W5.cell? ⟨g5, o5 + i * 4, none⟩ = some (.int .i64 c0) ∧ W5.cell? ⟨g5, o5 + i * 4 + 1, none⟩ = some (.int .i64 c1) ∧ W5.cell? ⟨g5, o5 + i * 4 + 2, none⟩ = some (.int .i64 c2) ∧ W5.cell? ⟨g5, o5 + i * 4 + 3, none⟩ = some (.int .i64 c3)) := Lib.hid ⟨hmg, y0, y1, y2, y3⟩
                have HRC : Hid (∀ j s, BL[j]? = some s → W5.cell? ⟨g5, o5 + j * 4, none⟩ = some (.int .i64 s.1) ∧ W5.cell? ⟨g5, o5 + j * 4 + 1, none⟩ = some (.int .i64 s.2.1) ∧ W5.cell? ⟨g5, o5 + j * 4 + 2, none⟩ = some (.int .i64 s.2.2.1) ∧ W5.cell? ⟨g5, o5 + j * 4 + 3, none⟩ = some (.int .i64 s.2.2.2)) := Lib.hid fun j s hj => by
                  obtain ⟨g, o, hgo, _, h⟩ := hMcell j s hj
                  injection hgo with hgo
                  injection hgo with h1 h2
                  subst h1 h2
                  exact h
                obtain ⟨⟨q1a, q1b, q1c, q1d⟩, q2, q3⟩ := BO.ok
                have hpo := BO.pos
                simp only at q1a q1b q1c q1d q2 q3 hpo
                obtain ⟨ar, har⟩ : ∃ a, (c2 - c0) * (c3 - c1) = a := ⟨_, rfl⟩
                have har0 : ¬ ar = 0 := by rw [← har]; exact Int.mul_ne_zero (by omega) (by omega)
                have har1 : (ar == 0) = false := by simpa using har0
                have AR : Hid (∀ u, Calls Try.prog 32 #[.agg #[.int .i64 c0, .int .i64 c1, .int .i64 c2, .int .i64 c3]] u fun e w' => e = .returned (.int .i64 ar) ∧ Below u.heap.size u w') := Lib.hid fun u => by
                  have := rarea_any c0 c1 c2 c3 u (by omega) (by omega)
                  rw [har] at this
                  exact this
                obtain ⟨d0, hd0⟩ : ∃ d, c0.tdiv x = d := ⟨_, rfl⟩
                obtain ⟨d1, hd1⟩ : ∃ d, c1.tdiv y = d := ⟨_, rfl⟩
                have hd2 : (c2 - 1).tdiv x = d0 := by
                  rw [← hd0, Int.tdiv_eq_ediv_of_nonneg (by omega), Int.tdiv_eq_ediv_of_nonneg (by omega)]
                  exact BO.gx.symm
                have hd3 : (c3 - 1).tdiv y = d1 := by
                  rw [← hd1, Int.tdiv_eq_ediv_of_nonneg (by omega), Int.tdiv_eq_ediv_of_nonneg (by omega)]
                  exact BO.gy.symm
                have hdb0 : 0 ≤ d0 ∧ d0 ≤ 100 := by
                  rw [← hd0, Int.tdiv_eq_ediv_of_nonneg (by omega)]
                  exact ⟨Int.ediv_nonneg (by omega) (by omega), Int.le_trans (Int.ediv_le_self _ (by omega)) (by omega)⟩
                have hdb1 : 0 ≤ d1 ∧ d1 ≤ 100 := by
                  rw [← hd1, Int.tdiv_eq_ediv_of_nonneg (by omega)]
                  exact ⟨Int.ediv_nonneg (by omega) (by omega), Int.le_trans (Int.ediv_le_self _ (by omega)) (by omega)⟩
                have HDQ : Hid (IntKind.i64.wrap (c0.tdiv x) = d0 ∧ IntKind.i64.wrap ((c2 - 1).tdiv x) = d0 ∧ IntKind.i64.wrap (c1.tdiv y) = d1 ∧ IntKind.i64.wrap ((c3 - 1).tdiv y) = d1 ∧ IntKind.i64.wrap (c2 - 1) = c2 - 1 ∧ IntKind.i64.wrap (c3 - 1) = c3 - 1) := Lib.hid (by
                  rw [hd0, hd1, hd2, hd3]
                  exact ⟨IntWalk.i64_in _ (by omega), IntWalk.i64_in _ (by omega), IntWalk.i64_in _ (by omega), IntWalk.i64_in _ (by omega), IntWalk.i64_in _ (by omega), IntWalk.i64_in _ (by omega)⟩)
                have hx0 : ¬ x = 0 := by omega
                have hy0 : ¬ y = 0 := by omega
                have HBO2 := Lib.hid BO
                have HWD : Hid (bwd = (wd : Int) ∧ BL.length = ht * wd) := Lib.hid ⟨hw1, hlen⟩
                clear hil hcb hcb2 hok hMA2 hMcell hmg y0 y1 y2 y3 har hd0 hd1 hd2 hd3 BO hw1 hlen
                go_upto_region 22 with fail
                go_cut [177] from 136 to 176 (fun v wx => v = .bool false ∧ Hid (Below W5.heap.size W5 wx))
                case first =>
                  refine wp_reg (ops' := regOps Try.f9 22) (by kernel_rfl) (cbReg22 g5 o5 bl C5 i x y c0 c1 c2 c3 d0 d1 ar W5 wi hiI HCE HBi AR har1 har0 hx0 hy0 HDQ _ rfl rfl rfl rfl rfl (fun w' hph => ?_))
                  dsimp only [manyL, List.set_cons_zero, List.set_cons_succ]
                  have HP := Lib.hid hph
                  clear hph
                  go_wp2_with fail
                  go_meet
                  exact ⟨rfl, HP⟩
                case rest =>
                  obtain ⟨rfl, HBj⟩ := hcut
                  obtain ⟨W6, hW6⟩ : ∃ W6, W6 = wc := ⟨wc, rfl⟩
                  subst hW6
                  clear HBi AR HDQ har0 har1
                  have hmd : i % wd < wd := Nat.mod_lt _ hw2
                  obtain ⟨md, hmde⟩ : ∃ m, i % wd = m := ⟨_, rfl⟩
                  have HMD : Hid ((i : Int).tmod bwd = (md : Int) ∧ IntKind.i64.wrap ((i : Int).tmod bwd) = (md : Int) ∧ i % wd = md) := Lib.hid (by
                    have h : (i : Int).tmod bwd = (md : Int) := by rw [HWD.out.1, Int.tmod_eq_emod_of_nonneg (by omega), ← hmde, Int.natCast_emod]
                    rw [hmde] at hmd
                    exact ⟨h, by rw [h]; exact IntWalk.i64_in _ (by omega), hmde⟩)
                  rw [hmde] at hmd
                  have hmi : (i = 0 → md = 0) ∧ (0 < i → md = 0 → wd ≤ i) := by
                    refine ⟨fun h => by rw [← hmde, h, Nat.zero_mod], fun h h0 => ?_⟩
                    have h2 := Nat.div_add_mod i wd
                    rw [hmde, h0] at h2
                    rcases Nat.eq_zero_or_pos (i / wd) with h3 | h3
                    · rw [h3] at h2; omega
                    · have := Nat.le_mul_of_pos_right wd h3; omega
                  clear hmde
                  go_upto_region 24 with fail
                  go_cut [233] from 178 to 232 (fun v wx => v = .bool false ∧ Hid (Below W5.heap.size W5 wx))
                  case first =>
                    rcases (by omega : (i = 0 ∧ i < wd) ∨ (0 < i ∧ md = 0 ∧ wd ≤ i) ∨ (0 < i ∧ 0 < md ∧ i < wd) ∨ (0 < i ∧ 0 < md ∧ wd ≤ i)) with ⟨hA, hB⟩ | ⟨hA, hB, hC⟩ | ⟨hA, hB, hC⟩ | ⟨hA, hB, hC⟩
                    · have i1 : ¬ (0 : Int) < (i : Int) := by omega
                      have i1n : ¬ 0 < i := by omega
                      have i1d : decide ((0 : Int) < (i : Int)) = false := by simpa using i1
                      have i1e : decide (0 < i) = false := by simpa using i1n
                      have w1 : ¬ bwd ≤ (i : Int) := by have := HWD.out.1; omega
                      have w1d : decide (bwd ≤ (i : Int)) = false := by simpa using w1
                      have x0' := (HBj.out.cell (p := ⟨g5, o5 + i * 4, none⟩) HCE.out.1).trans HCE.out.2.1
                      have x1' := (HBj.out.cell (p := ⟨g5, o5 + i * 4 + 1, none⟩) HCE.out.1).trans HCE.out.2.2.1
                      have bw0 : ¬ bwd = 0 := by have := HWD.out.1; omega
                      clear hA hB hmi
                      go_quiet (fail)
                      go_wp2_with fail
                      go_meet
                      exact ⟨rfl, Lib.hid (below_drewN HBj.out _)⟩
                    · have i1 : (0 : Int) < (i : Int) := by omega
                      have i1n : 0 < i := by omega
                      have m1 : ¬ (0 : Int) < (i : Int).tmod bwd := by rw [HMD.out.1]; omega
                      have m1d : decide ((0 : Int) < (i : Int).tmod bwd) = false := by simpa using m1
                      have w1 : bwd ≤ (i : Int) := by have := HWD.out.1; omega
                      obtain ⟨s', hs', hs3⟩ := HBO2.out.up (by have := HWD.out.1; omega)
                      obtain ⟨p0', p1', p2', p3'⟩ := HRC.out _ s' hs'
                      have q3' := (HBj.out.cell (p := ⟨g5, o5 + (i - wd) * 4 + 3, none⟩) HCE.out.1).trans p3'
                      rw [← hs3] at q3'
                      have iu : ((i - wd : Nat) : Int) = (i : Int) - bwd := by have := HWD.out.1; omega
                      obtain ⟨j2, hj2⟩ : ∃ j, i - wd = j := ⟨_, rfl⟩
                      rw [hj2] at q3' iu
                      have HWU : Hid (IntKind.i64.wrap ((i : Int) - bwd) = (j2 : Int)) := Lib.hid (by rw [← iu]; exact IntWalk.i64_in _ (by omega))
                      have bu1 : (j2 : Int) < (bl : Int) ∧ (0 : Int) ≤ (j2 : Int) := by have := HWD.out.1; omega
                      clear iu
                      clear hs' hs3 p0' p1' p2' p3' hj2
                      have x0' := (HBj.out.cell (p := ⟨g5, o5 + i * 4, none⟩) HCE.out.1).trans HCE.out.2.1
                      have x1' := (HBj.out.cell (p := ⟨g5, o5 + i * 4 + 1, none⟩) HCE.out.1).trans HCE.out.2.2.1
                      have bw0 : ¬ bwd = 0 := by have := HWD.out.1; omega
                      have HMD0 := Lib.hid hB
                      clear hA hB hC hmi
                      have HW6 : Hid (g5 < W6.heap.size) := Lib.hid (Nat.lt_of_lt_of_le HCE.out.1 HBj.out.size)
                      refine wp_reg (ops' := regOps Try.f9 24) (by kernel_rfl) (cbReg24b g5 o5 bl C5 i 0 j2 md bwd c0 c1 W6 hiI i1 i1n (Lib.hid HMD.out.1) bw0 HMD0 w1 HW6 x0' x1' bu1 HWU q3' _ rfl rfl rfl rfl (fun w' hph => ?_))
                      dsimp only [manyL, List.set_cons_zero, List.set_cons_succ]
                      have HP := Lib.hid (HBj.out.trans (hph.mono HBj.out.size))
                      clear hph
                      go_wp2_with fail
                      go_meet
                      exact ⟨rfl, HP⟩
                    · have i1 : (0 : Int) < (i : Int) := by omega
                      have i1n : 0 < i := by omega
                      have m1 : (0 : Int) < (i : Int).tmod bwd := by rw [HMD.out.1]; omega
                      have m1d : decide ((0 : Int) < (i : Int).tmod bwd) = true := by simpa using m1
                      obtain ⟨s, hs, hs1, hs2⟩ := HBO2.out.left (by have := HMD.out.2.2; omega)
                      obtain ⟨p0, p1, p2, p3⟩ := HRC.out _ s hs
                      have q2 := (HBj.out.cell (p := ⟨g5, o5 + (i - 1) * 4 + 2, none⟩) HCE.out.1).trans p2
                      have q1 := (HBj.out.cell (p := ⟨g5, o5 + (i - 1) * 4 + 1, none⟩) HCE.out.1).trans p1
                      rw [← hs1] at q2
                      rw [← hs2] at q1
                      have il : ((i - 1 : Nat) : Int) = (i : Int) - 1 := by omega
                      obtain ⟨j1, hj1⟩ : ∃ j, i - 1 = j := ⟨_, rfl⟩
                      rw [hj1] at q2 q1 il
                      have HWL : Hid (IntKind.i64.wrap ((i : Int) - 1) = (j1 : Int)) := Lib.hid (by rw [← il]; exact IntWalk.i64_in _ (by omega))
                      have bl1 : (j1 : Int) < (bl : Int) ∧ (0 : Int) ≤ (j1 : Int) := by omega
                      clear il
                      clear hs hs1 hs2 p0 p1 p2 p3 hj1
                      have w1 : ¬ bwd ≤ (i : Int) := by have := HWD.out.1; omega
                      have w1d : decide (bwd ≤ (i : Int)) = false := by simpa using w1
                      have x0' := (HBj.out.cell (p := ⟨g5, o5 + i * 4, none⟩) HCE.out.1).trans HCE.out.2.1
                      have x1' := (HBj.out.cell (p := ⟨g5, o5 + i * 4 + 1, none⟩) HCE.out.1).trans HCE.out.2.2.1
                      have bw0 : ¬ bwd = 0 := by have := HWD.out.1; omega
                      have HMD0 := Lib.hid hB
                      clear hA hB hC hmi
                      have HW6 : Hid (g5 < W6.heap.size) := Lib.hid (Nat.lt_of_lt_of_le HCE.out.1 HBj.out.size)
                      refine wp_reg (ops' := regOps Try.f9 24) (by kernel_rfl) (cbReg24c g5 o5 bl C5 i j1 0 md bwd c0 c1 W6 hiI i1 i1n (Lib.hid HMD.out.1) bw0 HMD0 w1 HW6 x0' x1' bl1 HWL q2 q1 _ rfl rfl rfl rfl (fun w' hph => ?_))
                      dsimp only [manyL, List.set_cons_zero, List.set_cons_succ]
                      have HP := Lib.hid (HBj.out.trans (hph.mono HBj.out.size))
                      clear hph
                      go_wp2_with fail
                      go_meet
                      exact ⟨rfl, HP⟩
                    · have i1 : (0 : Int) < (i : Int) := by omega
                      have i1n : 0 < i := by omega
                      have m1 : (0 : Int) < (i : Int).tmod bwd := by rw [HMD.out.1]; omega
                      have m1d : decide ((0 : Int) < (i : Int).tmod bwd) = true := by simpa using m1
                      obtain ⟨s, hs, hs1, hs2⟩ := HBO2.out.left (by have := HMD.out.2.2; omega)
                      obtain ⟨p0, p1, p2, p3⟩ := HRC.out _ s hs
                      have q2 := (HBj.out.cell (p := ⟨g5, o5 + (i - 1) * 4 + 2, none⟩) HCE.out.1).trans p2
                      have q1 := (HBj.out.cell (p := ⟨g5, o5 + (i - 1) * 4 + 1, none⟩) HCE.out.1).trans p1
                      rw [← hs1] at q2
                      rw [← hs2] at q1
                      have il : ((i - 1 : Nat) : Int) = (i : Int) - 1 := by omega
                      obtain ⟨j1, hj1⟩ : ∃ j, i - 1 = j := ⟨_, rfl⟩
                      rw [hj1] at q2 q1 il
                      have HWL : Hid (IntKind.i64.wrap ((i : Int) - 1) = (j1 : Int)) := Lib.hid (by rw [← il]; exact IntWalk.i64_in _ (by omega))
                      have bl1 : (j1 : Int) < (bl : Int) ∧ (0 : Int) ≤ (j1 : Int) := by omega
                      clear il
                      clear hs hs1 hs2 p0 p1 p2 p3 hj1
                      have w1 : bwd ≤ (i : Int) := by have := HWD.out.1; omega
                      obtain ⟨s', hs', hs3⟩ := HBO2.out.up (by have := HWD.out.1; omega)
                      obtain ⟨p0', p1', p2', p3'⟩ := HRC.out _ s' hs'
                      have q3' := (HBj.out.cell (p := ⟨g5, o5 + (i - wd) * 4 + 3, none⟩) HCE.out.1).trans p3'
                      rw [← hs3] at q3'
                      have iu : ((i - wd : Nat) : Int) = (i : Int) - bwd := by have := HWD.out.1; omega
                      obtain ⟨j2, hj2⟩ : ∃ j, i - wd = j := ⟨_, rfl⟩
                      rw [hj2] at q3' iu
                      have HWU : Hid (IntKind.i64.wrap ((i : Int) - bwd) = (j2 : Int)) := Lib.hid (by rw [← iu]; exact IntWalk.i64_in _ (by omega))
                      have bu1 : (j2 : Int) < (bl : Int) ∧ (0 : Int) ≤ (j2 : Int) := by have := HWD.out.1; omega
                      clear iu
                      clear hs' hs3 p0' p1' p2' p3' hj2
                      have x0' := (HBj.out.cell (p := ⟨g5, o5 + i * 4, none⟩) HCE.out.1).trans HCE.out.2.1
                      have x1' := (HBj.out.cell (p := ⟨g5, o5 + i * 4 + 1, none⟩) HCE.out.1).trans HCE.out.2.2.1
                      have bw0 : ¬ bwd = 0 := by have := HWD.out.1; omega
                      have HMD0 := Lib.hid hB
                      clear hA hB hC hmi
                      have HW6 : Hid (g5 < W6.heap.size) := Lib.hid (Nat.lt_of_lt_of_le HCE.out.1 HBj.out.size)
                      refine wp_reg (ops' := regOps Try.f9 24) (by kernel_rfl) (cbReg24d g5 o5 bl C5 i j1 j2 md bwd c0 c1 W6 hiI i1 i1n (Lib.hid HMD.out.1) bw0 HMD0 w1 HW6 x0' x1' bl1 HWL q2 q1 bu1 HWU q3' _ rfl rfl rfl rfl (fun w' hph => ?_))
                      dsimp only [manyL, List.set_cons_zero, List.set_cons_succ]
                      have HP := Lib.hid (HBj.out.trans (hph.mono HBj.out.size))
                      clear hph
                      go_wp2_with fail
                      go_meet
                      exact ⟨rfl, HP⟩
                  case rest =>
                   obtain ⟨rfl, HBl⟩ := hcut
                   clear HBj
                   go_wp2_with fail
                   go_roundg g4
                   case measure => omega
                   case rel => exact ⟨i + 1, by omega, by go_num, HBl⟩
            · obtain rfl : i = bl := by omega
              have hlcI : ¬ (i : Int) < (i : Int) := by omega
              have HBk : Hid (Below W2.heap.size W2 wi) := Lib.hid (HBh.out.1.trans (HBi.out.mono HBh.out.1.size))
              go_wp2
              go_roundg g3
              case measure => omega
              case rel => exact ⟨k + 1, by omega, by go_num, HBk⟩
       · obtain rfl : k = TN := by omega
         have hkI : ¬ (k : Int) < T := by have := HTN2.out; omega
         obtain ⟨⟨e0, e1, e2, e3⟩, hb0⟩ : ∃ b, rb[0]'(by rw [HBO.out.1]; omega) = b := ⟨_, rfl⟩
         have hbk0 : RcOk 25 (e0, e1, e2, e3) := HBO.out.2 (e0, e1, e2, e3) (by rw [← hb0]; exact List.getElem_mem _)
         have hb02 : rb[0]? = some (e0, e1, e2, e3) := by rw [List.getElem?_eq_getElem (by rw [HBO.out.1]; omega), hb0]
         obtain ⟨MA', MC', hMA, hMcell⟩ := FW.out.2.2.2.2.1
         injection hMA with hMA1 hMA2 hMA3
         obtain ⟨mg', mq', hmm, hmg, y0, y1, y2, y3⟩ := hMcell 0 _ hb02
         rw [hmm] at hMA1
         injection hMA1 with hMA1
         injection hMA1 with hMA1 hMA4
         subst hMA1 hMA4
         have HM0 : Hid (mg < W2.heap.size ∧ W2.cell? ⟨mg, mq, none⟩ = some (.int .i64 e0) ∧ W2.cell? ⟨mg, mq + 1, none⟩ = some (.int .i64 e1) ∧ W2.cell? ⟨mg, mq + 2, none⟩ = some (.int .i64 e2) ∧ W2.cell? ⟨mg, mq + 3, none⟩ = some (.int .i64 e3)) := Lib.hid ⟨hmg, by simpa using y0, by simpa using y1, by simpa using y2, by simpa using y3⟩
         have hBL : blkF (e0, e1, e2, e3) (z0, z1, z2, z3) PR BW BH r k = ([], 0) := by
           unfold blkF
           rw [if_pos (Or.inl (by rw [HPCF.out.1, HPCF.out.2, HTW.out.2.1, ← HTN2.out]; exact Int.le_refl _))]
         have c1 : inN (e0, e1, e2, e3) 255 := by obtain ⟨⟨a1, a2, a3, a4⟩, _⟩ := hbk0; exact ⟨by omega, by omega, by omega, by omega⟩
         have c2 : inN (z0, z1, z2, z3) 255 := by obtain ⟨⟨a1, a2, a3, a4⟩, _⟩ := HZK.out; exact ⟨by omega, by omega, by omega, by omega⟩
         have BK1 : Hid (∀ u, Calls Try.prog 30 #[.agg #[.int .i64 e0, .int .i64 e1, .int .i64 e2, .int .i64 e3], .agg #[.int .i64 z0, .int .i64 z1, .int .i64 z2, .int .i64 z3], .agg #[.int .i64 TX, .int .i64 TY, .int .i64 (LV : Int), .int .i64 (BW : Int), .int .i64 (BH : Int), .int .i64 (PR : Int), .int .i64 ST, .int .i64 OD, .int .i64 (LY : Int), .bool RC, .bool SO, .bool EP], .int .i64 (r : Int), .int .i64 T] u fun e w' => ∃ A c, e = .returned (.tuple #[.slice A 0 c, .int .i64 0]) ∧ Below u.heap.size u w') := Lib.hid fun u => by
           have := blocks_any (e0, e1, e2, e3) (z0, z1, z2, z3) TX TY (LV : Int) ST OD (LY : Int) RC SO EP BW BH PR r k u c1 hbk0.2 c2 HZK.out.2 (by omega) (by omega) (by omega) (by omega) (by omega)
           rw [hBL, HTN2.out] at this
           unfold rA at this
           refine this.mono ?_
           rintro e w' ⟨A, c, he, _, hb⟩
           exact ⟨A, c, he, hb⟩
         have hbnI : (0 : Int) < (bn : Int) ∧ ¬ bn = 0 := by omega
         clear hb0 hbk0 hb02 hMA2 hMA3 hMcell hmm hmg y0 y1 y2 y3 hBL c1 c2
         go_upto_region 26 with fail
         go_cut [22, 23] from 234 to 246 (fun a b wx => ∃ A5 C5, a = .slice A5 0 C5 ∧ b = .int .i64 0 ∧ Hid (Below W2.heap.size W2 wx))
         case first =>
           obtain ⟨VL, hVL⟩ : ∃ VL : Option Addr × Nat → List (Nat × Nat × Value), VL = fun z => [(0, 235, .slice (some ⟨mg, mq, none⟩) bn MC), (1, 236, .pointer (some ⟨mg, mq, none⟩)), (2, 237, .agg #[.int .i64 e0, .int .i64 e1, .int .i64 e2, .int .i64 e3]), (3, 238, .agg #[.int .i64 z0, .int .i64 z1, .int .i64 z2, .int .i64 z3]), (4, 239, .agg #[.int .i64 TX, .int .i64 TY, .int .i64 (LV : Int), .int .i64 (BW : Int), .int .i64 (BH : Int), .int .i64 (PR : Int), .int .i64 ST, .int .i64 OD, .int .i64 (LY : Int), .bool RC, .bool SO, .bool EP]), (5, 240, .int .i64 (r : Int)), (6, 241, .int .i64 CWI), (7, 242, .int .i64 RHI), (8, 243, .int .i64 T), (9, 244, .tuple #[.slice z.1 0 z.2, .int .i64 0]), (10, 234, .tuple #[.slice z.1 0 z.2, .int .i64 0]), (11, 245, .slice z.1 0 z.2), (12, 246, .int .i64 0), (13, 22, .slice z.1 0 z.2), (14, 23, .int .i64 0)] := ⟨_, rfl⟩
           have hok : ∀ z, manyOk 254 (VL z) := fun z => by rw [hVL]; exact okB_ok rfl
           have HVL := Lib.hid hVL
           have hvi : ∀ z, ∀ x ∈ VL z, x.1 < 15 := fun z => by rw [hVL]; exact ltB_ok rfl
           have HOK := Lib.hid hok
           have HVI := Lib.hid hvi
           clear hVL hok hvi
           refine (wpIn_wide (n := 9)).1 (regionIn_many (N := 254) (w := _) VL (fun L z w' => Below W2.heap.size W2 w') [(1, .int .i64 (r : Int)), (8, .pointer (some ⟨bm + 1, 0, none⟩)), (10, .pointer (some ⟨q10, 0, none⟩)), (12, .slice (some ⟨mg, mq, none⟩) bn MC), (13, .int .i64 CWI), (14, .int .i64 RHI)] (by kernel_rfl) (by kernel_rfl) rfl (by simp only [List.forall_mem_cons, List.not_mem_nil, false_imp_iff, implies_true, and_true]; exact ⟨rfl, rfl, rfl, rfl, rfl, rfl⟩) HVI.out (none, 0) ?start ?step ?fin)
           case start => exact HBe.out.drew
           case step =>
             intro gg_ hgN hgF ii_ hii_ L z w' hph hs hu
             have hF1 := hgF (1, .int .i64 (r : Int)) (by simp)
             have hF8 := hgF (8, .pointer (some ⟨bm + 1, 0, none⟩)) (by simp)
             have hF10 := hgF (10, .pointer (some ⟨q10, 0, none⟩)) (by simp)
             have hF12 := hgF (12, .slice (some ⟨mg, mq, none⟩) bn MC) (by simp)
             have hF13 := hgF (13, .int .i64 CWI) (by simp)
             have hF14 := hgF (14, .int .i64 RHI) (by simp)
             have hL := hu.1
             have hii_ : ii_ < 15 := hii_
             clear hgF
             obtain rfl | rfl | rfl | rfl | rfl | rfl | rfl | rfl | rfl | rfl | rfl | rfl | rfl | rfl | rfl := (by omega : ii_ = 0 ∨ ii_ = 1 ∨ ii_ = 2 ∨ ii_ = 3 ∨ ii_ = 4 ∨ ii_ = 5 ∨ ii_ = 6 ∨ ii_ = 7 ∨ ii_ = 8 ∨ ii_ = 9 ∨ ii_ = 10 ∨ ii_ = 11 ∨ ii_ = 12 ∨ ii_ = 13 ∨ ii_ = 14)
             · skip
               have n10 : L 10 = false := not_yet hL fun h => shut_at hs 1 0 (by kernel_rfl) (shut_at hs 2 1 (by kernel_rfl) (shut_at hs 9 2 (by kernel_rfl) (shut_at hs 10 9 (by kernel_rfl) (h))))
               have n11 : L 11 = false := not_yet hL fun h => shut_at hs 1 0 (by kernel_rfl) (shut_at hs 2 1 (by kernel_rfl) (shut_at hs 9 2 (by kernel_rfl) (shut_at hs 10 9 (by kernel_rfl) (shut_at hs 11 10 (by kernel_rfl) (h)))))
               have n13 : L 13 = false := not_yet hL fun h => shut_at hs 13 0 (by kernel_rfl) (h)
               have e12 : (many gg_ L (VL z))[12]?.getD undef = .slice (some ⟨mg, mq, none⟩) bn MC := many_out3 hgN (HOK.out z) (by rw [HVL.out]; rfl) hF12
               refine opIn_run (v := .slice (some ⟨mg, mq, none⟩) bn MC) (w' := w') rfl rfl (fun c h => by cases h) (fun _ => trivial) ?_ ⟨z, by exact many_put3 (HOK.out _) (by rw [HVL.out]; rfl) hL, hph⟩
               go_simp
             · skip
               have y0 : L 0 = true := up_at hu 0 (by kernel_rfl)
               have n10 : L 10 = false := not_yet hL fun h => shut_at hs 2 1 (by kernel_rfl) (shut_at hs 9 2 (by kernel_rfl) (shut_at hs 10 9 (by kernel_rfl) (h)))
               have n11 : L 11 = false := not_yet hL fun h => shut_at hs 2 1 (by kernel_rfl) (shut_at hs 9 2 (by kernel_rfl) (shut_at hs 10 9 (by kernel_rfl) (shut_at hs 11 10 (by kernel_rfl) (h))))
               have n13 : L 13 = false := not_yet hL fun h => shut_at hs 13 1 (by kernel_rfl) (h)
               have e235 : (many gg_ L (VL z))[235]?.getD undef = .slice (some ⟨mg, mq, none⟩) bn MC := many_eval3 hgN (HOK.out z) (by rw [HVL.out]; rfl) y0
               refine opIn_run (v := .pointer (some ⟨mg, mq, none⟩)) (w' := w') rfl rfl (fun c h => by cases h) (fun _ => trivial) ?_ ⟨z, by exact many_put3 (HOK.out _) (by rw [HVL.out]; rfl) hL, hph⟩
               go_simp
               try (intro h; omega)
             · skip
               have y1 : L 1 = true := up_at hu 1 (by kernel_rfl)
               have n10 : L 10 = false := not_yet hL fun h => shut_at hs 9 2 (by kernel_rfl) (shut_at hs 10 9 (by kernel_rfl) (h))
               have n11 : L 11 = false := not_yet hL fun h => shut_at hs 9 2 (by kernel_rfl) (shut_at hs 10 9 (by kernel_rfl) (shut_at hs 11 10 (by kernel_rfl) (h)))
               have n13 : L 13 = false := not_yet hL fun h => shut_at hs 13 2 (by kernel_rfl) (h)
               have g0 := (hph.cell (p := ⟨mg, mq, none⟩) HM0.out.1).trans HM0.out.2.1
               have g1 := (hph.cell (p := ⟨mg, mq + 1, none⟩) HM0.out.1).trans HM0.out.2.2.1
               have g2 := (hph.cell (p := ⟨mg, mq + 2, none⟩) HM0.out.1).trans HM0.out.2.2.2.1
               have g3 := (hph.cell (p := ⟨mg, mq + 3, none⟩) HM0.out.1).trans HM0.out.2.2.2.2
               have e236 : (many gg_ L (VL z))[236]?.getD undef = .pointer (some ⟨mg, mq, none⟩) := many_eval3 hgN (HOK.out z) (by rw [HVL.out]; rfl) y1
               refine opIn_run (v := .agg #[.int .i64 e0, .int .i64 e1, .int .i64 e2, .int .i64 e3]) (w' := w') rfl rfl (fun c h => by cases h) (fun _ => trivial) ?_ ⟨z, by exact many_put3 (HOK.out _) (by rw [HVL.out]; rfl) hL, hph⟩
               go_simp
             · skip
               have n10 : L 10 = false := not_yet hL fun h => shut_at hs 9 3 (by kernel_rfl) (shut_at hs 10 9 (by kernel_rfl) (h))
               have n11 : L 11 = false := not_yet hL fun h => shut_at hs 9 3 (by kernel_rfl) (shut_at hs 10 9 (by kernel_rfl) (shut_at hs 11 10 (by kernel_rfl) (h)))
               have n13 : L 13 = false := not_yet hL fun h => shut_at hs 13 3 (by kernel_rfl) (h)
               obtain ⟨v0, v1, v2, v3⟩ := rc_cells ((hph.block _ FW.out.2.1).trans FW.out.2.2.2.1)
               have e10 : (many gg_ L (VL z))[10]?.getD undef = .pointer (some ⟨q10, 0, none⟩) := many_out3 hgN (HOK.out z) (by rw [HVL.out]; rfl) hF10
               refine opIn_run (v := .agg #[.int .i64 z0, .int .i64 z1, .int .i64 z2, .int .i64 z3]) (w' := w') rfl rfl (fun c h => by cases h) (fun _ => trivial) ?_ ⟨z, by exact many_put3 (HOK.out _) (by rw [HVL.out]; rfl) hL, hph⟩
               go_simp
             · skip
               have n10 : L 10 = false := not_yet hL fun h => shut_at hs 9 4 (by kernel_rfl) (shut_at hs 10 9 (by kernel_rfl) (h))
               have n11 : L 11 = false := not_yet hL fun h => shut_at hs 9 4 (by kernel_rfl) (shut_at hs 10 9 (by kernel_rfl) (shut_at hs 11 10 (by kernel_rfl) (h)))
               have n13 : L 13 = false := not_yet hL fun h => shut_at hs 13 4 (by kernel_rfl) (h)
               obtain ⟨j0, j1, j2, j3, j4, j5, j6, j7, j8, j9, j10, j11⟩ := par_cells ((hph.block _ FW.out.1).trans FW.out.2.2.1)
               have e8 : (many gg_ L (VL z))[8]?.getD undef = .pointer (some ⟨bm + 1, 0, none⟩) := many_out3 hgN (HOK.out z) (by rw [HVL.out]; rfl) hF8
               refine opIn_run (v := .agg #[.int .i64 TX, .int .i64 TY, .int .i64 (LV : Int), .int .i64 (BW : Int), .int .i64 (BH : Int), .int .i64 (PR : Int), .int .i64 ST, .int .i64 OD, .int .i64 (LY : Int), .bool RC, .bool SO, .bool EP]) (w' := w') rfl rfl (fun c h => by cases h) (fun _ => trivial) ?_ ⟨z, by exact many_put3 (HOK.out _) (by rw [HVL.out]; rfl) hL, hph⟩
               go_simp
             · skip
               have n10 : L 10 = false := not_yet hL fun h => shut_at hs 9 5 (by kernel_rfl) (shut_at hs 10 9 (by kernel_rfl) (h))
               have n11 : L 11 = false := not_yet hL fun h => shut_at hs 9 5 (by kernel_rfl) (shut_at hs 10 9 (by kernel_rfl) (shut_at hs 11 10 (by kernel_rfl) (h)))
               have n13 : L 13 = false := not_yet hL fun h => shut_at hs 13 5 (by kernel_rfl) (h)
               have e1 : (many gg_ L (VL z))[1]?.getD undef = .int .i64 (r : Int) := many_out3 hgN (HOK.out z) (by rw [HVL.out]; rfl) hF1
               refine opIn_run (v := .int .i64 (r : Int)) (w' := w') rfl rfl (fun c h => by cases h) (fun _ => trivial) ?_ ⟨z, by exact many_put3 (HOK.out _) (by rw [HVL.out]; rfl) hL, hph⟩
               go_simp
             · skip
               have n10 : L 10 = false := not_yet hL fun h => shut_at hs 8 6 (by kernel_rfl) (shut_at hs 9 8 (by kernel_rfl) (shut_at hs 10 9 (by kernel_rfl) (h)))
               have n11 : L 11 = false := not_yet hL fun h => shut_at hs 8 6 (by kernel_rfl) (shut_at hs 9 8 (by kernel_rfl) (shut_at hs 10 9 (by kernel_rfl) (shut_at hs 11 10 (by kernel_rfl) (h))))
               have n13 : L 13 = false := not_yet hL fun h => shut_at hs 13 6 (by kernel_rfl) (h)
               have e13 : (many gg_ L (VL z))[13]?.getD undef = .int .i64 CWI := many_out3 hgN (HOK.out z) (by rw [HVL.out]; rfl) hF13
               refine opIn_run (v := .int .i64 CWI) (w' := w') rfl rfl (fun c h => by cases h) (fun _ => trivial) ?_ ⟨z, by exact many_put3 (HOK.out _) (by rw [HVL.out]; rfl) hL, hph⟩
               go_simp
             · skip
               have n10 : L 10 = false := not_yet hL fun h => shut_at hs 8 7 (by kernel_rfl) (shut_at hs 9 8 (by kernel_rfl) (shut_at hs 10 9 (by kernel_rfl) (h)))
               have n11 : L 11 = false := not_yet hL fun h => shut_at hs 8 7 (by kernel_rfl) (shut_at hs 9 8 (by kernel_rfl) (shut_at hs 10 9 (by kernel_rfl) (shut_at hs 11 10 (by kernel_rfl) (h))))
               have n13 : L 13 = false := not_yet hL fun h => shut_at hs 13 7 (by kernel_rfl) (h)
               have e14 : (many gg_ L (VL z))[14]?.getD undef = .int .i64 RHI := many_out3 hgN (HOK.out z) (by rw [HVL.out]; rfl) hF14
               refine opIn_run (v := .int .i64 RHI) (w' := w') rfl rfl (fun c h => by cases h) (fun _ => trivial) ?_ ⟨z, by exact many_put3 (HOK.out _) (by rw [HVL.out]; rfl) hL, hph⟩
               go_simp
             · skip
               have y6 : L 6 = true := up_at hu 6 (by kernel_rfl)
               have y7 : L 7 = true := up_at hu 7 (by kernel_rfl)
               have n10 : L 10 = false := not_yet hL fun h => shut_at hs 9 8 (by kernel_rfl) (shut_at hs 10 9 (by kernel_rfl) (h))
               have n11 : L 11 = false := not_yet hL fun h => shut_at hs 9 8 (by kernel_rfl) (shut_at hs 10 9 (by kernel_rfl) (shut_at hs 11 10 (by kernel_rfl) (h)))
               have n13 : L 13 = false := not_yet hL fun h => shut_at hs 13 8 (by kernel_rfl) (h)
               have q1 := HTW.out.2.1
               have q2 := HTW.out.2.2
               have e241 : (many gg_ L (VL z))[241]?.getD undef = .int .i64 CWI := many_eval3 hgN (HOK.out z) (by rw [HVL.out]; rfl) y6
               have e242 : (many gg_ L (VL z))[242]?.getD undef = .int .i64 RHI := many_eval3 hgN (HOK.out z) (by rw [HVL.out]; rfl) y7
               refine opIn_run (v := .int .i64 T) (w' := w') rfl rfl (fun c h => by cases h) (fun _ => trivial) ?_ ⟨z, by exact many_put3 (HOK.out _) (by rw [HVL.out]; rfl) hL, hph⟩
               go_simp
             · skip
               have y2 : L 2 = true := up_at hu 2 (by kernel_rfl)
               have y3 : L 3 = true := up_at hu 3 (by kernel_rfl)
               have y4 : L 4 = true := up_at hu 4 (by kernel_rfl)
               have y5 : L 5 = true := up_at hu 5 (by kernel_rfl)
               have y8 : L 8 = true := up_at hu 8 (by kernel_rfl)
               have n10 : L 10 = false := not_yet hL fun h => shut_at hs 10 9 (by kernel_rfl) (h)
               have n11 : L 11 = false := not_yet hL fun h => shut_at hs 10 9 (by kernel_rfl) (shut_at hs 11 10 (by kernel_rfl) (h))
               have n13 : L 13 = false := not_yet hL fun h => shut_at hs 13 9 (by kernel_rfl) (h)
               have e237 : (many gg_ L (VL z))[237]?.getD undef = .agg #[.int .i64 e0, .int .i64 e1, .int .i64 e2, .int .i64 e3] := many_eval3 hgN (HOK.out z) (by rw [HVL.out]; rfl) y2
               have e238 : (many gg_ L (VL z))[238]?.getD undef = .agg #[.int .i64 z0, .int .i64 z1, .int .i64 z2, .int .i64 z3] := many_eval3 hgN (HOK.out z) (by rw [HVL.out]; rfl) y3
               have e239 : (many gg_ L (VL z))[239]?.getD undef = .agg #[.int .i64 TX, .int .i64 TY, .int .i64 (LV : Int), .int .i64 (BW : Int), .int .i64 (BH : Int), .int .i64 (PR : Int), .int .i64 ST, .int .i64 OD, .int .i64 (LY : Int), .bool RC, .bool SO, .bool EP] := many_eval3 hgN (HOK.out z) (by rw [HVL.out]; rfl) y4
               have e240 : (many gg_ L (VL z))[240]?.getD undef = .int .i64 (r : Int) := many_eval3 hgN (HOK.out z) (by rw [HVL.out]; rfl) y5
               have e243 : (many gg_ L (VL z))[243]?.getD undef = .int .i64 T := many_eval3 hgN (HOK.out z) (by rw [HVL.out]; rfl) y8
               refine opIn_call (f := 30) (args := #[.agg #[.int .i64 e0, .int .i64 e1, .int .i64 e2, .int .i64 e3], .agg #[.int .i64 z0, .int .i64 z1, .int .i64 z2, .int .i64 z3], .agg #[.int .i64 TX, .int .i64 TY, .int .i64 (LV : Int), .int .i64 (BW : Int), .int .i64 (BH : Int), .int .i64 (PR : Int), .int .i64 ST, .int .i64 OD, .int .i64 (LY : Int), .bool RC, .bool SO, .bool EP], .int .i64 (r : Int), .int .i64 T]) (w' := w') rfl rfl (fun c h => by cases h) (fun _ => trivial) rfl (by go_simp) ((callsIn_wide.2 (BK1.out w')).mono ?_)
               rintro e w2 ⟨A5x, C5x, rfl, hb⟩
               exact ⟨_, rfl, (A5x, C5x), by rw [show many gg_ L (VL z) = many gg_ L (VL (A5x, C5x)) from by rw [HVL.out]; simp only [many, y2, y3, y4, y5, y8, n10, n11, n13, hL, cond_false, cond_true]]; exact many_put3 (HOK.out _) (by rw [HVL.out]; rfl) hL, hph.trans (hb.mono hph.size)⟩
             · skip
               have y9 : L 9 = true := up_at hu 9 (by kernel_rfl)
               have n11 : L 11 = false := not_yet hL fun h => shut_at hs 11 10 (by kernel_rfl) (h)
               have n13 : L 13 = false := not_yet hL fun h => shut_at hs 13 10 (by kernel_rfl) (h)
               have e244 : (many gg_ L (VL z))[244]?.getD undef = .tuple #[.slice z.1 0 z.2, .int .i64 0] := many_eval3 hgN (HOK.out z) (by rw [HVL.out]; rfl) y9
               refine opIn_run (v := .tuple #[.slice z.1 0 z.2, .int .i64 0]) (w' := w') rfl rfl (fun c h => by cases h) (fun _ => trivial) ?_ ⟨z, by exact many_put3 (HOK.out _) (by rw [HVL.out]; rfl) hL, hph⟩
               go_simp
             · skip
               have y10 : L 10 = true := up_at hu 10 (by kernel_rfl)
               have n13 : L 13 = false := not_yet hL fun h => shut_at hs 13 11 (by kernel_rfl) (h)
               have e234 : (many gg_ L (VL z))[234]?.getD undef = .tuple #[.slice z.1 0 z.2, .int .i64 0] := many_eval3 hgN (HOK.out z) (by rw [HVL.out]; rfl) y10
               refine opIn_run (v := .slice z.1 0 z.2) (w' := w') rfl rfl (fun c h => by cases h) (fun _ => trivial) ?_ ⟨z, by exact many_put3 (HOK.out _) (by rw [HVL.out]; rfl) hL, hph⟩
               go_simp
             · skip
               have y10 : L 10 = true := up_at hu 10 (by kernel_rfl)
               have e234 : (many gg_ L (VL z))[234]?.getD undef = .tuple #[.slice z.1 0 z.2, .int .i64 0] := many_eval3 hgN (HOK.out z) (by rw [HVL.out]; rfl) y10
               refine opIn_run (v := .int .i64 0) (w' := w') rfl rfl (fun c h => by cases h) (fun _ => trivial) ?_ ⟨z, by exact many_put3 (HOK.out _) (by rw [HVL.out]; rfl) hL, hph⟩
               go_simp
             · skip
               have y0 : L 0 = true := up_at hu 0 (by kernel_rfl)
               have y1 : L 1 = true := up_at hu 1 (by kernel_rfl)
               have y2 : L 2 = true := up_at hu 2 (by kernel_rfl)
               have y3 : L 3 = true := up_at hu 3 (by kernel_rfl)
               have y4 : L 4 = true := up_at hu 4 (by kernel_rfl)
               have y5 : L 5 = true := up_at hu 5 (by kernel_rfl)
               have y6 : L 6 = true := up_at hu 6 (by kernel_rfl)
               have y7 : L 7 = true := up_at hu 7 (by kernel_rfl)
               have y8 : L 8 = true := up_at hu 8 (by kernel_rfl)
               have y9 : L 9 = true := up_at hu 9 (by kernel_rfl)
               have y10 : L 10 = true := up_at hu 10 (by kernel_rfl)
               have y11 : L 11 = true := up_at hu 11 (by kernel_rfl)
               have e245 : (many gg_ L (VL z))[245]?.getD undef = .slice z.1 0 z.2 := many_eval3 hgN (HOK.out z) (by rw [HVL.out]; rfl) y11
               refine opIn_run (v := .slice z.1 0 z.2) (w' := w') rfl rfl (fun c h => by cases h) (fun _ => trivial) ?_ ⟨z, by exact many_put3 (HOK.out _) (by rw [HVL.out]; rfl) hL, hph⟩
               go_simp
             · skip
               have y0 : L 0 = true := up_at hu 0 (by kernel_rfl)
               have y1 : L 1 = true := up_at hu 1 (by kernel_rfl)
               have y2 : L 2 = true := up_at hu 2 (by kernel_rfl)
               have y3 : L 3 = true := up_at hu 3 (by kernel_rfl)
               have y4 : L 4 = true := up_at hu 4 (by kernel_rfl)
               have y5 : L 5 = true := up_at hu 5 (by kernel_rfl)
               have y6 : L 6 = true := up_at hu 6 (by kernel_rfl)
               have y7 : L 7 = true := up_at hu 7 (by kernel_rfl)
               have y8 : L 8 = true := up_at hu 8 (by kernel_rfl)
               have y9 : L 9 = true := up_at hu 9 (by kernel_rfl)
               have y10 : L 10 = true := up_at hu 10 (by kernel_rfl)
               have y11 : L 11 = true := up_at hu 11 (by kernel_rfl)
               have y12 : L 12 = true := up_at hu 12 (by kernel_rfl)
               have y13 : L 13 = true := up_at hu 13 (by kernel_rfl)
               have e246 : (many gg_ L (VL z))[246]?.getD undef = .int .i64 0 := many_eval3 hgN (HOK.out z) (by rw [HVL.out]; rfl) y12
               refine opIn_run (v := .int .i64 0) (w' := w') rfl rfl (fun c h => by cases h) (fun _ => trivial) ?_ ⟨z, by exact many_put3 (HOK.out _) (by rw [HVL.out]; rfl) hL, hph⟩
               go_simp
           case fin =>
             intro L z w' hall hph
             rw [HVL.out]
             dsimp only [manyL, List.set_cons_zero, List.set_cons_succ]
             clear hall HVL HOK HVI
             have HP := Lib.hid hph
             clear hph
             go_wp2_with fail
             go_meet
             exact ⟨z.1, z.2, rfl, rfl, HP⟩
         case rest =>
          obtain ⟨A5, C5, rfl, rfl, HBz⟩ := hcut
          clear BK1 HBe
          go_wp2
          go_ret
          exact ⟨rfl, by rw [HBE.out]; exact HBW.out.trans ((FW.out.2.2.2.2.2.trans (HBz.out.mono FW.out.2.2.2.2.2.size)).mono (by have := HBW.out.size; have := HBE.out; omega))⟩
end Go.Proofs.Ythcpmonahmogaaa
