/- canvas: CanvasPlaces walked. -/
import Derived.Test.YthcpmonahmogaaaCvQ0
import Derived.Test.YthcpmonahmogaaaCvM5
import Derived.Laws.Rows
import Derived.Deep.CutRange
import Derived.Deep.CutBlock
import Derived.Deep.LoopGhost
set_option linter.unusedVariables false
set_option linter.unusedSimpArgs false
namespace Go.Proofs.Ythcpmonahmogaaa
open Go.RowKit
set_option maxRecDepth 100000
/-- A component's cells. -/
theorem CRow.cells {lo : Nat} {w : World} {V : Value} {cs : List Cp} (h : CRow lo w V cs) {i : Nat} {c : Cp} (hc : cs[i]? = some c) : ∃ g cap, V = .slice (some ⟨g, 0, none⟩) cs.length cap ∧ lo ≤ g ∧ g < w.heap.size ∧ cs.length ≤ cap ∧ cap ≤ maxLen ∧
    w.cell? ⟨g, i * 5, none⟩ = some (.int .i64 c.d) ∧ w.cell? ⟨g, i * 5 + 1, none⟩ = some (.bool c.sg) ∧ w.cell? ⟨g, i * 5 + 2, none⟩ = some (.int .i64 c.dx) ∧ w.cell? ⟨g, i * 5 + 3, none⟩ = some (.int .i64 c.dy) ∧ w.cell? ⟨g, i * 5 + 4, none⟩ = some (.slice c.A c.n c.cap) := by
  have hi : i < cs.length := (List.getElem?_eq_some_iff.1 hc).1
  obtain ⟨g, cap, hv, hg, hgl, hcc, hm⟩ := own_form h.own (by omega)
  have flat : ∀ (l : List Cp) (i : Nat) (c : Cp), l[i]? = some c → ∀ k, k < 5 → (l.flatMap cpV)[i * 5 + k]? = (cpV c)[k]? := by
    intro l
    induction l with
    | nil => intro i c hc; simp at hc
    | cons a l ih =>
      intro i c hc k hk
      rw [List.flatMap_cons]
      cases i with
      | zero =>
        simp at hc
        subst hc
        rw [Nat.zero_mul, Nat.zero_add, List.getElem?_append_left (by simp [cpV]; omega)]
      | succ i =>
        rw [List.getElem?_append_right (by simp [cpV]; omega), show (i + 1) * 5 + k - (cpV a).length = i * 5 + k by simp [cpV]; omega]
        exact ih i c (by simpa using hc) k hk
  have fc : ∀ k, k < 5 → w.cell? ⟨g, i * 5 + k, none⟩ = (cpV c)[k]? := fun k hk => by
    rw [← flat cs i c hc k hk]
    have h1 := h.own
    rw [hv] at h1
    exact h1.cellAt _ (by omega)
  exact ⟨g, cap, hv, hg, hgl, hcc, hm, fc 0 (by omega), fc 1 (by omega), fc 2 (by omega), fc 3 (by omega), fc 4 (by omega)⟩
set_option maxHeartbeats 16000000 in
theorem walk_canvasPlaces (f : FN) (A0 : Option Addr) (len0 cap0 : Nat) (z0 : List Int) (w : World) (w0 : IsRow .i64 w A0 len0 cap0 z0) (s0 : -9223372036854775808 ≤ f.sb ∧ f.sb ≤ 9223372036854775807) :
    Calls Try.prog 4 #[.agg (f.arr A0 len0 cap0)] w fun e w' => e = .returned (.bool true) ∧ Below w.heap.size w w' := by
  have MK := Lib.hid (fun u hu => make_any f A0 len0 cap0 z0 16 u (by omega) hu s0)
  obtain ⟨fc, hfc⟩ : ∃ fc, f.arr A0 len0 cap0 = fc := ⟨_, rfl⟩
  have hfs : fc.size = 21 := by rw [← hfc]; rfl
  rw [hfc] at MK ⊢
  have HFS := Lib.hid hfs
  clear hfc hfs
  have HOK := mkPN_ok f 16 (by omega)
  obtain ⟨M, hM⟩ : ∃ M, mkPN f 16 = M := ⟨_, rfl⟩
  obtain ⟨N, hN⟩ : ∃ N, mkN f = N := ⟨_, rfl⟩
  have hNb : 1 ≤ N ∧ N ≤ 4 := by
    have := within_rng f.nc 4 (by omega)
    rw [← hN]
    unfold mkN
    omega
  obtain ⟨DP, hDP⟩ : ∃ D, mkDP f = D := ⟨_, rfl⟩
  have hDPb : 1 ≤ DP ∧ DP ≤ 10 := by
    have := within_rng f.dp 10 (by omega)
    rw [← hDP]
    unfold mkDP
    omega
  rw [hM, hN, hDP] at MK
  rw [hM] at HOK
  have HMN : Hid (mkPN f 16 = M ∧ mkN f = N ∧ mkDP f = DP) := Lib.hid ⟨hM, hN, hDP⟩
  clear hM hN hDP
  obtain ⟨X, Y, OX, OY, TX, TY, LV, BW, BH, PR, ST, OD, LY, RC, SO, EP⟩ := M
  obtain ⟨o1, o2, o3, o4, o5, o6, o7, o8, o9, o10, o11, o12, o13⟩ := HOK
  simp only at o1 o2 o3 o4 o5 o6 o7 o8 o9 o10 o11 o12 o13
  go_enter Try.func4, Try.ntmps4
  go_wp2_with fail
  obtain ⟨B0, hB0⟩ : ∃ B, w.heap.size = B := ⟨_, rfl⟩
  obtain ⟨Wf, hWf⟩ : ∃ Wf, w.alloc (Obj.cells fc 29) = Wf := ⟨_, rfl⟩
  have HF0 : Hid (MkW w B0 [(fc, 29)] Wf) := Lib.hid (by
    have h0 : MkW w B0 [] w := ⟨fun i c e => by simp at e, Below.refl _ _, by simp; omega⟩
    have h1 := h0.more (by simp; omega) fc 29
    rw [← hWf]; exact h1)
  rw [hWf, hB0]
  have HBE := Lib.hid hB0
  clear hWf hB0
  refine (known12 _).mono ?_
  rintro e w1 ⟨rfl, hb⟩
  have HF1 := Lib.hid (HF0.out.keep hb)
  clear hb HF0
  have MK1 := MK.out w1 (IsRow.below w0 (by rw [HBE.out]; exact HF1.out.bel))
  go_wp2_with (refine wpList_load_row rfl 29 _ rfl B0 rfl 29 fc (0, 0) _ (show w1.heap[B0]? = _ from HF1.out.b 0 _ rfl) Try.underlying29 rfl (by rw [HFS.out]; kernel_rfl) ?_)
  refine MK1.mono ?_
  rintro e w2 ⟨A2, C2, cs, rfl, hcl, hCR, hKY, hb, hfx⟩
  try simp only at hfx
  try simp only at hKY
  have HB2 : Hid (Below B0 w w2) := Lib.hid (HF1.out.bel.trans (hb.mono (by have := HF1.out.sz; simp at this; omega)))
  have HCR : Hid (CRow B0 w2 (.slice A2 N C2) cs) := Lib.hid (by
    have h1 := HF1.out.sz
    simp at h1
    exact ⟨own_low hCR.own (by omega), fun c hc => (hCR.dat c hc).low (by omega)⟩)
  have HKY := Lib.hid hKY
  have HCL := Lib.hid hcl
  obtain ⟨hTX, hTY, hCT⟩ := hfx
  have HCT := Lib.hid hCT
  clear MK MK1 hb hCR hKY hcl hCT HF1 w0 s0
  have hgr := frame_tiles (x := X) (y := Y) (ox := OX) (oy := OY) (tx := TX) (ty := TY) (by omega) (by omega) (by omega) (by omega) HCT.out
  have bw1 := ceil_bd X TX (by omega) (by omega)
  have bw2 := ceil_bd Y TY (by omega) (by omega)
  obtain ⟨wd, hwd⟩ : ∃ wd : Nat, ceilF X TX = (wd : Int) := ⟨(ceilF X TX).toNat, by omega⟩
  obtain ⟨ht, hht⟩ : ∃ ht : Nat, ceilF Y TY = (ht : Int) := ⟨(ceilF Y TY).toNat, by omega⟩
  obtain ⟨rs, hrs⟩ : ∃ rs, rtls X Y OX OY TX TY wd ht = rs := ⟨_, rfl⟩
  obtain ⟨tn, htn⟩ : ∃ tn, ht * wd = tn := ⟨_, rfl⟩
  have htn6 : tn ≤ 6 := by
    have h := HCT.out
    unfold cntT at h
    rw [hwd, hht, Int.toNat_natCast, Int.toNat_natCast] at h
    omega
  have HRS : Hid (rs.length = tn ∧ (∀ r ∈ rs, RcOk 25 r ∧ (OX ≤ r.1 ∧ r.1 < r.2.2.1 ∧ r.2.2.1 ≤ X) ∧ (OY ≤ r.2.1 ∧ r.2.1 < r.2.2.2 ∧ r.2.2.2 ≤ Y))) := Lib.hid (by
    refine ⟨by rw [← hrs, rtls_cell, List.length_map, plP_len, htn], ?_⟩
    rw [← hrs]
    exact tile_ok (by omega) (by omega) o5 o6 hwd hht)
  have CTL : Hid (∀ u, Calls Try.prog 18 #[.agg #[.int .i64 X, .int .i64 Y, .int .i64 OX, .int .i64 OY, .slice A2 N C2], .agg #[.int .i64 TX, .int .i64 TY, .int .i64 (LV : Int), .int .i64 (BW : Int), .int .i64 (BH : Int), .int .i64 (PR : Int), .int .i64 ST, .int .i64 OD, .int .i64 (LY : Int), .bool RC, .bool SO, .bool EP]] u fun e w' => ∃ A c, e = .returned (.slice A tn c) ∧ RcL w' w'.heap.size (.slice A tn c) rs ∧ Below u.heap.size u w') := Lib.hid fun u => by
    refine (tilesL X Y OX OY A2 N C2 TX TY LV BW BH PR ST OD LY RC SO EP u hgr.1 hgr.2).mono ?_
    rintro e w' ⟨A, c, he, ho, hb⟩
    rw [hwd, hht, Int.toNat_natCast, Int.toNat_natCast, htn] at he ho
    refine ⟨A, c, he, RcL.own (q := u.heap.size) (m := tn) ?_ HRS.out.1, hb⟩
    rw [← List.flatMap_map, ← rtls_cell, hrs] at ho
    exact ho
  have CTR : Hid (∀ u, Calls Try.prog 20 #[.agg #[.int .i64 X, .int .i64 Y, .int .i64 OX, .int .i64 OY, .slice A2 N C2], .agg #[.int .i64 TX, .int .i64 TY, .int .i64 (LV : Int), .int .i64 (BW : Int), .int .i64 (BH : Int), .int .i64 (PR : Int), .int .i64 ST, .int .i64 OD, .int .i64 (LY : Int), .bool RC, .bool SO, .bool EP]] u fun e w' => ∃ A c, e = .returned (.slice A tn c) ∧ RcL w' w'.heap.size (.slice A tn c) rs ∧ Below u.heap.size u w') := Lib.hid fun u => by
    refine (rtiles_any X Y OX OY A2 N C2 TX TY LV BW BH PR ST OD LY RC SO EP wd ht u (by omega) (by omega) (by omega) (by omega) hwd hht).mono ?_
    rintro e w' ⟨A, c, he, ho, hb⟩
    rw [htn] at he ho
    rw [hrs] at ho
    exact ⟨A, c, he, RcL.own ho HRS.out.1, hb⟩
  have HTN : Hid (ht * wd = tn ∧ ceilF X TX = (wd : Int) ∧ ceilF Y TY = (ht : Int) ∧ rtls X Y OX OY TX TY wd ht = rs) := Lib.hid ⟨htn, hwd, hht, hrs⟩
  clear hgr bw1 bw2 hwd hht hrs htn
  go_wp2_with fail
  obtain ⟨bm, hbm⟩ : ∃ bm, w2.heap.size = bm := ⟨_, rfl⟩
  obtain ⟨W3, hW3⟩ : ∃ W3, (w2.alloc (Obj.cells #[.int .i64 X, .int .i64 Y, .int .i64 OX, .int .i64 OY, .slice A2 N C2] 24)).alloc (Obj.cells #[.int .i64 TX, .int .i64 TY, .int .i64 (LV : Int), .int .i64 (BW : Int), .int .i64 (BH : Int), .int .i64 (PR : Int), .int .i64 ST, .int .i64 OD, .int .i64 (LY : Int), .bool RC, .bool SO, .bool EP] 26) = W3 := ⟨_, rfl⟩
  have HM3 : Hid (MkW w2 bm [(#[.int .i64 X, .int .i64 Y, .int .i64 OX, .int .i64 OY, .slice A2 N C2], 24), (#[.int .i64 TX, .int .i64 TY, .int .i64 (LV : Int), .int .i64 (BW : Int), .int .i64 (BH : Int), .int .i64 (PR : Int), .int .i64 ST, .int .i64 OD, .int .i64 (LY : Int), .bool RC, .bool SO, .bool EP], 26)] W3) := Lib.hid (by
    have h0 : MkW w2 bm [] w2 := ⟨fun i c e => by simp at e, Below.refl _ _, by simp; omega⟩
    have h1 := (h0.more (by simp; omega) #[.int .i64 X, .int .i64 Y, .int .i64 OX, .int .i64 OY, .slice A2 N C2] 24).more (by simp; omega) #[.int .i64 TX, .int .i64 TY, .int .i64 (LV : Int), .int .i64 (BW : Int), .int .i64 (BH : Int), .int .i64 (PR : Int), .int .i64 ST, .int .i64 OD, .int .i64 (LY : Int), .bool RC, .bool SO, .bool EP] 26
    rw [← hW3]; exact h1)
  rw [hW3, hbm]
  have HBM := Lib.hid hbm
  clear hW3 hbm
  refine (CTL.out _).mono ?_
  rintro e w4 ⟨TA, TC, rfl, hRT, hb⟩
  have HM4 := Lib.hid (HM3.out.keep hb)
  have HRT := Lib.hid hRT
  clear hb hRT HM3
  have i0' : w4.cell? ⟨bm, 0, none⟩ = some (.int .i64 X) := blk_cell (show w4.heap[bm]? = _ from HM4.out.b 0 _ rfl) 0
  have i1' : w4.cell? ⟨bm, 1, none⟩ = some (.int .i64 Y) := blk_cell (show w4.heap[bm]? = _ from HM4.out.b 0 _ rfl) 1
  have i2' : w4.cell? ⟨bm, 2, none⟩ = some (.int .i64 OX) := blk_cell (show w4.heap[bm]? = _ from HM4.out.b 0 _ rfl) 2
  have i3' : w4.cell? ⟨bm, 3, none⟩ = some (.int .i64 OY) := blk_cell (show w4.heap[bm]? = _ from HM4.out.b 0 _ rfl) 3
  have i4' : w4.cell? ⟨bm, 4, none⟩ = some (.slice A2 N C2) := blk_cell (show w4.heap[bm]? = _ from HM4.out.b 0 _ rfl) 4
  have j0' : w4.cell? ⟨bm + 1, 0, none⟩ = some (.int .i64 TX) := blk_cell (HM4.out.b 1 _ rfl) 0
  have j1' : w4.cell? ⟨bm + 1, 1, none⟩ = some (.int .i64 TY) := blk_cell (HM4.out.b 1 _ rfl) 1
  have j2' : w4.cell? ⟨bm + 1, 2, none⟩ = some (.int .i64 (LV : Int)) := blk_cell (HM4.out.b 1 _ rfl) 2
  have j3' : w4.cell? ⟨bm + 1, 3, none⟩ = some (.int .i64 (BW : Int)) := blk_cell (HM4.out.b 1 _ rfl) 3
  have j4' : w4.cell? ⟨bm + 1, 4, none⟩ = some (.int .i64 (BH : Int)) := blk_cell (HM4.out.b 1 _ rfl) 4
  have j5' : w4.cell? ⟨bm + 1, 5, none⟩ = some (.int .i64 (PR : Int)) := blk_cell (HM4.out.b 1 _ rfl) 5
  have j6' : w4.cell? ⟨bm + 1, 6, none⟩ = some (.int .i64 ST) := blk_cell (HM4.out.b 1 _ rfl) 6
  have j7' : w4.cell? ⟨bm + 1, 7, none⟩ = some (.int .i64 OD) := blk_cell (HM4.out.b 1 _ rfl) 7
  have j8' : w4.cell? ⟨bm + 1, 8, none⟩ = some (.int .i64 (LY : Int)) := blk_cell (HM4.out.b 1 _ rfl) 8
  have j9' : w4.cell? ⟨bm + 1, 9, none⟩ = some (.bool RC) := blk_cell (HM4.out.b 1 _ rfl) 9
  have j10' : w4.cell? ⟨bm + 1, 10, none⟩ = some (.bool SO) := blk_cell (HM4.out.b 1 _ rfl) 10
  have j11' : w4.cell? ⟨bm + 1, 11, none⟩ = some (.bool EP) := blk_cell (HM4.out.b 1 _ rfl) 11
  go_wp2_with fail
  refine (CTR.out _).mono ?_
  rintro e w5 ⟨TB, TD, rfl, hRT2, hb⟩
  have HM5 := Lib.hid (HM4.out.keep hb)
  have HRT5 := Lib.hid (HRT.out.below hb hb.size)
  have RCC := Lib.hid (rects_any HRT5.out hRT2 (by have := HRS.out.1; omega))
  clear hb hRT2 HM4 HRT i0' i1' i2' i3' i4' j0' j1' j2' j3' j4' j5' j6' j7' j8' j9' j10' j11'
  go_wp2_with fail
  refine RCC.out.mono ?_
  rintro e W0 ⟨rfl, hb⟩
  have HM0 := Lib.hid (HM5.out.keep hb)
  have HRT0 := Lib.hid (HRT5.out.below hb hb.size)
  clear hb HM5 HRT5 RCC CTL CTR
  have hcl1 : 1 ≤ cs.length := by have := HCL.out; omega
  obtain ⟨cg, hcg⟩ : ∃ cg, A2 = some ⟨cg, 0, none⟩ := by
    obtain ⟨g, cap, hv, _⟩ := own_form HCR.out.own hcl1
    injection hv with h1
    exact ⟨g, h1⟩
  subst hcg
  have HC0 : Hid (CRow B0 W0 (.slice (some ⟨cg, 0, none⟩) N C2) cs) := Lib.hid (HCR.out.below (by have := HM0.out.bel; rw [← HBM.out] at this; exact this))
  have HW0 : Hid (bm + 2 ≤ W0.heap.size) := Lib.hid HM0.out.sz
  clear HCR hcl1
  go_wp2_with fail
  go_loopg [6] tn (fun g v wr => ∃ i : Nat, i + g = tn ∧ v = .int .i64 (i : Int) ∧ Hid (Below W0.heap.size W0 wr))
  case atStart => exact ⟨0, by omega, rfl, Lib.hid (Below.refl _ _)⟩
  case round =>
   obtain ⟨i, hig, rfl, HBa⟩ := hrel
   obtain ⟨wa, hwa⟩ : ∃ wa, wa = wr := ⟨wr, rfl⟩
   subst hwa
   by_cases hlt : i < tn
   · obtain ⟨g0, rfl⟩ : ∃ g0, gk = g0 + 1 := ⟨gk - 1, by omega⟩
     have hil : i < rs.length := by rw [HRS.out.1]; exact hlt
     obtain ⟨⟨t0, t1, t2, t3⟩, hr⟩ : ∃ r, rs[i] = r := ⟨_, rfl⟩
     have hrk := (HRS.out.2 (t0, t1, t2, t3) (by rw [← hr]; exact List.getElem_mem hil)).1
     have hr2 : rs[i]? = some (t0, t1, t2, t3) := by rw [List.getElem?_eq_getElem hil, hr]
     obtain ⟨TA', TC', hTA, hTcell⟩ := HRT0.out
     injection hTA with hTA1 hTA2 hTA3
     subst hTA1 hTA3
     obtain ⟨tg, tq, rfl, htg, x0, x1, x2, x3⟩ := hTcell i _ hr2
     have HT4 : Hid (tg < W0.heap.size ∧ W0.cell? ⟨tg, tq + i * 4, none⟩ = some (.int .i64 t0) ∧ W0.cell? ⟨tg, tq + i * 4 + 1, none⟩ = some (.int .i64 t1) ∧ W0.cell? ⟨tg, tq + i * 4 + 2, none⟩ = some (.int .i64 t2) ∧ W0.cell? ⟨tg, tq + i * 4 + 3, none⟩ = some (.int .i64 t3)) := Lib.hid ⟨htg, x0, x1, x2, x3⟩
     have HRK := Lib.hid hrk
     have htlt : (i : Int) < (tn : Int) ∧ (0 : Int) ≤ (i : Int) := by omega
     clear hil hr hrk hr2 hTA2 hTcell htg x0 x1 x2 x3
     go_wp2_with fail
     go_loopg [7] N (fun g v wr => ∃ c : Nat, c + g = N ∧ v = .int .i64 (c : Int) ∧ Hid (Below W0.heap.size W0 wr))
     case atStart => exact ⟨0, by omega, rfl, HBa⟩
     case round =>
      obtain ⟨c, hcg2, rfl, HBb⟩ := hrel
      obtain ⟨wb, hwb⟩ : ∃ wb, wb = wr := ⟨wr, rfl⟩
      subst hwb
      have i4' : wb.cell? ⟨bm, 4, none⟩ = some (.slice (some ⟨cg, 0, none⟩) N C2) := blk_cell ((HBb.out.block bm (by have := HW0.out; omega)).trans (HM0.out.b 0 _ rfl)) 4
      by_cases hlc : c < N
      · obtain ⟨g1, rfl⟩ : ∃ g1, gk = g1 + 1 := ⟨gk - 1, by omega⟩
        have hcl : c < cs.length := by have := HCL.out; omega
        obtain ⟨cp, hcp⟩ : ∃ cp, cs[c] = cp := ⟨_, rfl⟩
        have hcp2 : cs[c]? = some cp := by rw [List.getElem?_eq_getElem hcl, hcp]
        obtain ⟨k1, _, k3, k4, _⟩ := HKY.out c cp hcp2
        have kb := cpK_bd (sb := f.sb) (DP := DP) c hDPb
        obtain ⟨cg', cap', hv', _, hcgl, _, _, _, _, y2, y3, _⟩ := HC0.out.cells hcp2
        injection hv' with hv1 hv2 hv3
        injection hv1 with hv1
        injection hv1 with hv1
        subst hv1
        obtain ⟨dx, hdx⟩ : ∃ dx, cp.dx = dx := ⟨_, rfl⟩
        obtain ⟨dy, hdy⟩ : ∃ dy, cp.dy = dy := ⟨_, rfl⟩
        rw [← k3, ← k4, hdx, hdy] at kb
        have hdxb := kb.2.1
        have hdyb := kb.2.2
        rw [hdx] at y2
        rw [hdy] at y3
        have HC2 : Hid (cg < W0.heap.size ∧ W0.cell? ⟨cg, c * 5 + 2, none⟩ = some (.int .i64 dx) ∧ W0.cell? ⟨cg, c * 5 + 3, none⟩ = some (.int .i64 dy)) := Lib.hid ⟨hcgl, y2, y3⟩
        obtain ⟨p0, hp0⟩ : ∃ p, ceilF t0 dx = p := ⟨_, rfl⟩
        obtain ⟨p1, hp1⟩ : ∃ p, ceilF t1 dy = p := ⟨_, rfl⟩
        obtain ⟨p2, hp2⟩ : ∃ p, ceilF t2 dx = p := ⟨_, rfl⟩
        obtain ⟨p3, hp3⟩ : ∃ p, ceilF t3 dy = p := ⟨_, rfl⟩
        have hq := over_ok HRK.out dx dy (by omega) (by omega) (by omega)
        simp only at hq
        have hrk := HRK.out
        unfold RcOk inN at hrk
        simp only at hrk
        have PT1 : Hid (∀ u, Calls Try.prog 21 #[.agg #[.int .i64 t0, .int .i64 t1, .int .i64 t2, .int .i64 t3], .int .i64 dx, .int .i64 dy] u fun e w' => e = .returned (.agg #[.int .i64 p0, .int .i64 p1, .int .i64 p2, .int .i64 p3]) ∧ Below u.heap.size u w') := Lib.hid fun u => by
          have := part_any t0 t1 t2 t3 dx dy u (by omega) (by omega) (by omega) (by omega) (by omega) (by omega)
          rw [hp0, hp1, hp2, hp3] at this
          exact this
        have PT2 : Hid (∀ u, Calls Try.prog 22 #[.agg #[.int .i64 t0, .int .i64 t1, .int .i64 t2, .int .i64 t3], .int .i64 dx, .int .i64 dy] u fun e w' => e = .returned (.agg #[.int .i64 p0, .int .i64 p1, .int .i64 p2, .int .i64 p3]) ∧ Below u.heap.size u w') := Lib.hid fun u => by
          have := rpart_any t0 t1 t2 t3 dx dy u (by omega) (by omega) (by omega) (by omega) (by omega) (by omega)
          rw [hp0, hp1, hp2, hp3] at this
          exact this
        rw [hp0, hp1, hp2, hp3] at hq
        have HQ := Lib.hid hq
        have hlcI : (c : Int) < (N : Int) ∧ (0 : Int) ≤ (c : Int) := by omega
        clear hcl hcp hcp2 k1 k3 k4 kb hv2 hv3 hcgl y2 y3 hdx hdy hp0 hp1 hp2 hp3 hq hrk
        go_upto_region 13 with fail
        clear i4'
        go_cut [8] from 54 to 70 (fun v wx => ∃ q8, v = .pointer (some ⟨q8, 0, none⟩) ∧ Hid (Below W0.heap.size W0 wx ∧ W0.heap.size ≤ q8 ∧ wx.heap[q8]? = some (.cells #[.int .i64 p0, .int .i64 p1, .int .i64 p2, .int .i64 p3] 48 (0, 0))))
        case first =>
          obtain ⟨VL, hVL⟩ : ∃ VL : Nat → List (Nat × Nat × Value), VL = fun z => [(0, 54, .slice (some ⟨tg, tq, none⟩) tn TC), (1, 55, .int .i64 (i : Int)), (2, 56, .pointer (some ⟨tg, tq + i * 4, none⟩)), (3, 57, .agg #[.int .i64 t0, .int .i64 t1, .int .i64 t2, .int .i64 t3]), (4, 58, .pointer (some ⟨bm, 4, none⟩)), (5, 59, .slice (some ⟨cg, 0, none⟩) N C2), (6, 60, .int .i64 (c : Int)), (7, 61, .pointer (some ⟨cg, c * 5, none⟩)), (8, 62, .pointer (some ⟨cg, c * 5 + 2, none⟩)), (9, 63, .int .i64 dx), (10, 64, .pointer (some ⟨bm, 4, none⟩)), (11, 65, .slice (some ⟨cg, 0, none⟩) N C2), (12, 66, .int .i64 (c : Int)), (13, 67, .pointer (some ⟨cg, c * 5, none⟩)), (14, 68, .pointer (some ⟨cg, c * 5 + 3, none⟩)), (15, 69, .int .i64 dy), (16, 70, .agg #[.int .i64 p0, .int .i64 p1, .int .i64 p2, .int .i64 p3]), (17, 8, .pointer (some ⟨z, 0, none⟩))] := ⟨_, rfl⟩
          have hok : ∀ z, manyOk 210 (VL z) := fun z => by rw [hVL]; exact ⟨by simp, by simp, by simp⟩
          have HVL := Lib.hid hVL
          have hvi : ∀ z, ∀ x ∈ VL z, x.1 < 19 := fun z => by rw [hVL]; simp
          have HOK := Lib.hid hok
          have HVI := Lib.hid hvi
          clear hVL hok hvi
          refine (wpIn_wide (n := 9)).1 (regionIn_many (N := 210) (w := _) VL (fun L z w' => (Below W0.heap.size W0 w') ∧ (bif L 18 then (W0.heap.size ≤ z ∧ w'.heap[z]? = some (.cells #[.int .i64 p0, .int .i64 p1, .int .i64 p2, .int .i64 p3] 48 (0, 0))) else (bif L 17 then (W0.heap.size ≤ z ∧ w'.heap[z]? = some (.cells #[.int .i64 0, .int .i64 0, .int .i64 0, .int .i64 0] 48 (0, 0))) else True))) [(3, .pointer (some ⟨bm, 0, none⟩)), (5, .slice (some ⟨tg, tq, none⟩) tn TC), (6, .int .i64 (i : Int)), (7, .int .i64 (c : Int))] (by kernel_rfl) (by kernel_rfl) rfl (by simp only [List.forall_mem_cons, List.not_mem_nil, false_imp_iff, implies_true, and_true]; exact ⟨rfl, rfl, rfl, rfl⟩) HVI.out 0 ?start ?step ?fin)
          case start => exact ⟨HBb.out.drew, trivial⟩
          case step =>
            intro gg_ hgN hgF ii_ hii_ L z w' hph hs hu
            obtain ⟨hcm, hph⟩ := hph
            have hF3 := hgF (3, .pointer (some ⟨bm, 0, none⟩)) (by simp)
            have hF5 := hgF (5, .slice (some ⟨tg, tq, none⟩) tn TC) (by simp)
            have hF6 := hgF (6, .int .i64 (i : Int)) (by simp)
            have hF7 := hgF (7, .int .i64 (c : Int)) (by simp)
            have hL := hu.1
            have hii_ : ii_ < 19 := hii_
            clear hgF
            obtain rfl | rfl | rfl | rfl | rfl | rfl | rfl | rfl | rfl | rfl | rfl | rfl | rfl | rfl | rfl | rfl | rfl | rfl | rfl := (by omega : ii_ = 0 ∨ ii_ = 1 ∨ ii_ = 2 ∨ ii_ = 3 ∨ ii_ = 4 ∨ ii_ = 5 ∨ ii_ = 6 ∨ ii_ = 7 ∨ ii_ = 8 ∨ ii_ = 9 ∨ ii_ = 10 ∨ ii_ = 11 ∨ ii_ = 12 ∨ ii_ = 13 ∨ ii_ = 14 ∨ ii_ = 15 ∨ ii_ = 16 ∨ ii_ = 17 ∨ ii_ = 18)
            · skip
              have n18 : L 18 = false := not_yet hL fun h => shut_at hs 18 0 (by kernel_rfl) (h)
              try simp only [n18, hL, cond_true, cond_false] at hph
              have e5 : (many gg_ L (VL z))[5]?.getD undef = .slice (some ⟨tg, tq, none⟩) tn TC := many_out hgN (HOK.out z).1 (by rw [HVL.out]; rfl) hF5
              refine opIn_run (v := .slice (some ⟨tg, tq, none⟩) tn TC) (w' := w') rfl rfl (fun c h => by cases h) (fun _ => trivial) ?_ ⟨z, by exact many_put (HOK.out _) 0 54 _ (by rw [HVL.out]; simp) hL, hcm, by simp only [upd, n18, hL, Nat.reduceBEq, cond_true, cond_false]; exact hph⟩
              go_simp
            · skip
              have n18 : L 18 = false := not_yet hL fun h => shut_at hs 18 1 (by kernel_rfl) (h)
              try simp only [n18, hL, cond_true, cond_false] at hph
              have e6 : (many gg_ L (VL z))[6]?.getD undef = .int .i64 (i : Int) := many_out hgN (HOK.out z).1 (by rw [HVL.out]; rfl) hF6
              refine opIn_run (v := .int .i64 (i : Int)) (w' := w') rfl rfl (fun c h => by cases h) (fun _ => trivial) ?_ ⟨z, by exact many_put (HOK.out _) 1 55 _ (by rw [HVL.out]; simp) hL, hcm, by simp only [upd, n18, hL, Nat.reduceBEq, cond_true, cond_false]; exact hph⟩
              go_simp
            · skip
              have y0 : L 0 = true := up_at hu 0 (by kernel_rfl)
              have y1 : L 1 = true := up_at hu 1 (by kernel_rfl)
              have n18 : L 18 = false := not_yet hL fun h => shut_at hs 18 2 (by kernel_rfl) (h)
              try simp only [y0, y1, n18, hL, cond_true, cond_false] at hph
              have e54 : (many gg_ L (VL z))[54]?.getD undef = .slice (some ⟨tg, tq, none⟩) tn TC := many_eval hgN (HOK.out z).1 (by rw [HVL.out]; simp [lookM, y0])
              have e55 : (many gg_ L (VL z))[55]?.getD undef = .int .i64 (i : Int) := many_eval hgN (HOK.out z).1 (by rw [HVL.out]; simp [lookM, y1])
              refine opIn_run (v := .pointer (some ⟨tg, tq + i * 4, none⟩)) (w' := w') rfl rfl (fun c h => by cases h) (fun _ => trivial) ?_ ⟨z, by exact many_put (HOK.out _) 2 56 _ (by rw [HVL.out]; simp) hL, hcm, by simp only [upd, y0, y1, n18, hL, Nat.reduceBEq, cond_true, cond_false]; exact hph⟩
              go_simp
            · skip
              have y2 : L 2 = true := up_at hu 2 (by kernel_rfl)
              have n18 : L 18 = false := not_yet hL fun h => shut_at hs 18 3 (by kernel_rfl) (h)
              try simp only [y2, n18, hL, cond_true, cond_false] at hph
              have g0 := (hcm.cell (p := ⟨tg, tq + i * 4, none⟩) HT4.out.1).trans HT4.out.2.1
              have g1 := (hcm.cell (p := ⟨tg, tq + i * 4 + 1, none⟩) HT4.out.1).trans HT4.out.2.2.1
              have g2 := (hcm.cell (p := ⟨tg, tq + i * 4 + 2, none⟩) HT4.out.1).trans HT4.out.2.2.2.1
              have g3 := (hcm.cell (p := ⟨tg, tq + i * 4 + 3, none⟩) HT4.out.1).trans HT4.out.2.2.2.2
              have e56 : (many gg_ L (VL z))[56]?.getD undef = .pointer (some ⟨tg, tq + i * 4, none⟩) := many_eval hgN (HOK.out z).1 (by rw [HVL.out]; simp [lookM, y2])
              refine opIn_run (v := .agg #[.int .i64 t0, .int .i64 t1, .int .i64 t2, .int .i64 t3]) (w' := w') rfl rfl (fun c h => by cases h) (fun _ => trivial) ?_ ⟨z, by exact many_put (HOK.out _) 3 57 _ (by rw [HVL.out]; simp) hL, hcm, by simp only [upd, y2, n18, hL, Nat.reduceBEq, cond_true, cond_false]; exact hph⟩
              go_simp
            · skip
              have n18 : L 18 = false := not_yet hL fun h => shut_at hs 18 4 (by kernel_rfl) (h)
              try simp only [n18, hL, cond_true, cond_false] at hph
              have e3 : (many gg_ L (VL z))[3]?.getD undef = .pointer (some ⟨bm, 0, none⟩) := many_out hgN (HOK.out z).1 (by rw [HVL.out]; rfl) hF3
              refine opIn_run (v := .pointer (some ⟨bm, 4, none⟩)) (w' := w') rfl rfl (fun c h => by cases h) (fun _ => trivial) ?_ ⟨z, by exact many_put (HOK.out _) 4 58 _ (by rw [HVL.out]; simp) hL, hcm, by simp only [upd, n18, hL, Nat.reduceBEq, cond_true, cond_false]; exact hph⟩
              go_simp
            · skip
              have y4 : L 4 = true := up_at hu 4 (by kernel_rfl)
              have n18 : L 18 = false := not_yet hL fun h => shut_at hs 18 5 (by kernel_rfl) (h)
              try simp only [y4, n18, hL, cond_true, cond_false] at hph
              have hcell : w'.cell? ⟨bm, 4, none⟩ = some (.slice (some ⟨cg, 0, none⟩) N C2) := blk_cell ((hcm.block bm (by have := HW0.out; omega)).trans (HM0.out.b 0 _ rfl)) 4
              have e58 : (many gg_ L (VL z))[58]?.getD undef = .pointer (some ⟨bm, 4, none⟩) := many_eval hgN (HOK.out z).1 (by rw [HVL.out]; simp [lookM, y4])
              refine opIn_run (v := .slice (some ⟨cg, 0, none⟩) N C2) (w' := w') rfl rfl (fun c h => by cases h) (fun _ => trivial) ?_ ⟨z, by exact many_put (HOK.out _) 5 59 _ (by rw [HVL.out]; simp) hL, hcm, by simp only [upd, y4, n18, hL, Nat.reduceBEq, cond_true, cond_false]; exact hph⟩
              go_simp
            · skip
              have n18 : L 18 = false := not_yet hL fun h => shut_at hs 18 6 (by kernel_rfl) (h)
              try simp only [n18, hL, cond_true, cond_false] at hph
              have e7 : (many gg_ L (VL z))[7]?.getD undef = .int .i64 (c : Int) := many_out hgN (HOK.out z).1 (by rw [HVL.out]; rfl) hF7
              refine opIn_run (v := .int .i64 (c : Int)) (w' := w') rfl rfl (fun c h => by cases h) (fun _ => trivial) ?_ ⟨z, by exact many_put (HOK.out _) 6 60 _ (by rw [HVL.out]; simp) hL, hcm, by simp only [upd, n18, hL, Nat.reduceBEq, cond_true, cond_false]; exact hph⟩
              go_simp
            · skip
              have y5 : L 5 = true := up_at hu 5 (by kernel_rfl)
              have y6 : L 6 = true := up_at hu 6 (by kernel_rfl)
              have n18 : L 18 = false := not_yet hL fun h => shut_at hs 18 7 (by kernel_rfl) (h)
              try simp only [y5, y6, n18, hL, cond_true, cond_false] at hph
              have e59 : (many gg_ L (VL z))[59]?.getD undef = .slice (some ⟨cg, 0, none⟩) N C2 := many_eval hgN (HOK.out z).1 (by rw [HVL.out]; simp [lookM, y5])
              have e60 : (many gg_ L (VL z))[60]?.getD undef = .int .i64 (c : Int) := many_eval hgN (HOK.out z).1 (by rw [HVL.out]; simp [lookM, y6])
              refine opIn_run (v := .pointer (some ⟨cg, c * 5, none⟩)) (w' := w') rfl rfl (fun c h => by cases h) (fun _ => trivial) ?_ ⟨z, by exact many_put (HOK.out _) 7 61 _ (by rw [HVL.out]; simp) hL, hcm, by simp only [upd, y5, y6, n18, hL, Nat.reduceBEq, cond_true, cond_false]; exact hph⟩
              go_simp
            · skip
              have y7 : L 7 = true := up_at hu 7 (by kernel_rfl)
              have n18 : L 18 = false := not_yet hL fun h => shut_at hs 18 8 (by kernel_rfl) (h)
              try simp only [y7, n18, hL, cond_true, cond_false] at hph
              have e61 : (many gg_ L (VL z))[61]?.getD undef = .pointer (some ⟨cg, c * 5, none⟩) := many_eval hgN (HOK.out z).1 (by rw [HVL.out]; simp [lookM, y7])
              refine opIn_run (v := .pointer (some ⟨cg, c * 5 + 2, none⟩)) (w' := w') rfl rfl (fun c h => by cases h) (fun _ => trivial) ?_ ⟨z, by exact many_put (HOK.out _) 8 62 _ (by rw [HVL.out]; simp) hL, hcm, by simp only [upd, y7, n18, hL, Nat.reduceBEq, cond_true, cond_false]; exact hph⟩
              go_simp
            · skip
              have y8 : L 8 = true := up_at hu 8 (by kernel_rfl)
              have n18 : L 18 = false := not_yet hL fun h => shut_at hs 18 9 (by kernel_rfl) (h)
              try simp only [y8, n18, hL, cond_true, cond_false] at hph
              have hcell : w'.cell? ⟨cg, c * 5 + 2, none⟩ = some (.int .i64 dx) := (hcm.cell (p := ⟨cg, c * 5 + 2, none⟩) HC2.out.1).trans HC2.out.2.1
              have e62 : (many gg_ L (VL z))[62]?.getD undef = .pointer (some ⟨cg, c * 5 + 2, none⟩) := many_eval hgN (HOK.out z).1 (by rw [HVL.out]; simp [lookM, y8])
              refine opIn_run (v := .int .i64 dx) (w' := w') rfl rfl (fun c h => by cases h) (fun _ => trivial) ?_ ⟨z, by exact many_put (HOK.out _) 9 63 _ (by rw [HVL.out]; simp) hL, hcm, by simp only [upd, y8, n18, hL, Nat.reduceBEq, cond_true, cond_false]; exact hph⟩
              go_simp
            · skip
              have n18 : L 18 = false := not_yet hL fun h => shut_at hs 18 10 (by kernel_rfl) (h)
              try simp only [n18, hL, cond_true, cond_false] at hph
              have e3 : (many gg_ L (VL z))[3]?.getD undef = .pointer (some ⟨bm, 0, none⟩) := many_out hgN (HOK.out z).1 (by rw [HVL.out]; rfl) hF3
              refine opIn_run (v := .pointer (some ⟨bm, 4, none⟩)) (w' := w') rfl rfl (fun c h => by cases h) (fun _ => trivial) ?_ ⟨z, by exact many_put (HOK.out _) 10 64 _ (by rw [HVL.out]; simp) hL, hcm, by simp only [upd, n18, hL, Nat.reduceBEq, cond_true, cond_false]; exact hph⟩
              go_simp
            · skip
              have y10 : L 10 = true := up_at hu 10 (by kernel_rfl)
              have n18 : L 18 = false := not_yet hL fun h => shut_at hs 18 11 (by kernel_rfl) (h)
              try simp only [y10, n18, hL, cond_true, cond_false] at hph
              have hcell : w'.cell? ⟨bm, 4, none⟩ = some (.slice (some ⟨cg, 0, none⟩) N C2) := blk_cell ((hcm.block bm (by have := HW0.out; omega)).trans (HM0.out.b 0 _ rfl)) 4
              have e64 : (many gg_ L (VL z))[64]?.getD undef = .pointer (some ⟨bm, 4, none⟩) := many_eval hgN (HOK.out z).1 (by rw [HVL.out]; simp [lookM, y10])
              refine opIn_run (v := .slice (some ⟨cg, 0, none⟩) N C2) (w' := w') rfl rfl (fun c h => by cases h) (fun _ => trivial) ?_ ⟨z, by exact many_put (HOK.out _) 11 65 _ (by rw [HVL.out]; simp) hL, hcm, by simp only [upd, y10, n18, hL, Nat.reduceBEq, cond_true, cond_false]; exact hph⟩
              go_simp
            · skip
              have n18 : L 18 = false := not_yet hL fun h => shut_at hs 18 12 (by kernel_rfl) (h)
              try simp only [n18, hL, cond_true, cond_false] at hph
              have e7 : (many gg_ L (VL z))[7]?.getD undef = .int .i64 (c : Int) := many_out hgN (HOK.out z).1 (by rw [HVL.out]; rfl) hF7
              refine opIn_run (v := .int .i64 (c : Int)) (w' := w') rfl rfl (fun c h => by cases h) (fun _ => trivial) ?_ ⟨z, by exact many_put (HOK.out _) 12 66 _ (by rw [HVL.out]; simp) hL, hcm, by simp only [upd, n18, hL, Nat.reduceBEq, cond_true, cond_false]; exact hph⟩
              go_simp
            · skip
              have y11 : L 11 = true := up_at hu 11 (by kernel_rfl)
              have y12 : L 12 = true := up_at hu 12 (by kernel_rfl)
              have n18 : L 18 = false := not_yet hL fun h => shut_at hs 18 13 (by kernel_rfl) (h)
              try simp only [y11, y12, n18, hL, cond_true, cond_false] at hph
              have e65 : (many gg_ L (VL z))[65]?.getD undef = .slice (some ⟨cg, 0, none⟩) N C2 := many_eval hgN (HOK.out z).1 (by rw [HVL.out]; simp [lookM, y11])
              have e66 : (many gg_ L (VL z))[66]?.getD undef = .int .i64 (c : Int) := many_eval hgN (HOK.out z).1 (by rw [HVL.out]; simp [lookM, y12])
              refine opIn_run (v := .pointer (some ⟨cg, c * 5, none⟩)) (w' := w') rfl rfl (fun c h => by cases h) (fun _ => trivial) ?_ ⟨z, by exact many_put (HOK.out _) 13 67 _ (by rw [HVL.out]; simp) hL, hcm, by simp only [upd, y11, y12, n18, hL, Nat.reduceBEq, cond_true, cond_false]; exact hph⟩
              go_simp
            · skip
              have y13 : L 13 = true := up_at hu 13 (by kernel_rfl)
              have n18 : L 18 = false := not_yet hL fun h => shut_at hs 18 14 (by kernel_rfl) (h)
              try simp only [y13, n18, hL, cond_true, cond_false] at hph
              have e67 : (many gg_ L (VL z))[67]?.getD undef = .pointer (some ⟨cg, c * 5, none⟩) := many_eval hgN (HOK.out z).1 (by rw [HVL.out]; simp [lookM, y13])
              refine opIn_run (v := .pointer (some ⟨cg, c * 5 + 3, none⟩)) (w' := w') rfl rfl (fun c h => by cases h) (fun _ => trivial) ?_ ⟨z, by exact many_put (HOK.out _) 14 68 _ (by rw [HVL.out]; simp) hL, hcm, by simp only [upd, y13, n18, hL, Nat.reduceBEq, cond_true, cond_false]; exact hph⟩
              go_simp
            · skip
              have y14 : L 14 = true := up_at hu 14 (by kernel_rfl)
              have n18 : L 18 = false := not_yet hL fun h => shut_at hs 18 15 (by kernel_rfl) (h)
              try simp only [y14, n18, hL, cond_true, cond_false] at hph
              have hcell : w'.cell? ⟨cg, c * 5 + 3, none⟩ = some (.int .i64 dy) := (hcm.cell (p := ⟨cg, c * 5 + 3, none⟩) HC2.out.1).trans HC2.out.2.2
              have e68 : (many gg_ L (VL z))[68]?.getD undef = .pointer (some ⟨cg, c * 5 + 3, none⟩) := many_eval hgN (HOK.out z).1 (by rw [HVL.out]; simp [lookM, y14])
              refine opIn_run (v := .int .i64 dy) (w' := w') rfl rfl (fun c h => by cases h) (fun _ => trivial) ?_ ⟨z, by exact many_put (HOK.out _) 15 69 _ (by rw [HVL.out]; simp) hL, hcm, by simp only [upd, y14, n18, hL, Nat.reduceBEq, cond_true, cond_false]; exact hph⟩
              go_simp
            · skip
              have y3 : L 3 = true := up_at hu 3 (by kernel_rfl)
              have y9 : L 9 = true := up_at hu 9 (by kernel_rfl)
              have y15 : L 15 = true := up_at hu 15 (by kernel_rfl)
              have n18 : L 18 = false := not_yet hL fun h => shut_at hs 18 16 (by kernel_rfl) (h)
              try simp only [y3, y9, y15, n18, hL, cond_true, cond_false] at hph
              have e57 : (many gg_ L (VL z))[57]?.getD undef = .agg #[.int .i64 t0, .int .i64 t1, .int .i64 t2, .int .i64 t3] := many_eval hgN (HOK.out z).1 (by rw [HVL.out]; simp [lookM, y3])
              have e63 : (many gg_ L (VL z))[63]?.getD undef = .int .i64 dx := many_eval hgN (HOK.out z).1 (by rw [HVL.out]; simp [lookM, y9])
              have e69 : (many gg_ L (VL z))[69]?.getD undef = .int .i64 dy := many_eval hgN (HOK.out z).1 (by rw [HVL.out]; simp [lookM, y15])
              refine opIn_call (f := 21) (args := #[.agg #[.int .i64 t0, .int .i64 t1, .int .i64 t2, .int .i64 t3], .int .i64 dx, .int .i64 dy]) (w' := w') rfl rfl (fun c h => by cases h) (fun _ => trivial) rfl (by go_simp) ((callsIn_wide.2 (PT1.out w')).mono ?_)
              rintro e w2 ⟨rfl, hb⟩
              exact ⟨_, rfl, z, by exact many_put (HOK.out _) 16 70 _ (by rw [HVL.out]; simp) hL, hcm.trans (hb.mono hcm.size), by simp only [upd, y3, y9, y15, n18, hL, Nat.reduceBEq, cond_true, cond_false]; exact (by revert hph; cases L 17 <;> (intro hph; first | exact ⟨hph.1, (hb.block _ (Array.getElem?_eq_some_iff.1 hph.2).1).trans hph.2⟩ | exact trivial))⟩
            · skip
              have n18 : L 18 = false := not_yet hL fun h => shut_at hs 18 17 (by kernel_rfl) (h)
              try simp only [n18, hL, cond_true, cond_false] at hph
              refine opIn_run (v := (.pointer (some ⟨w'.heap.size, 0, none⟩))) (w' := w'.alloc (.cells #[.int .i64 0, .int .i64 0, .int .i64 0, .int .i64 0] 48)) rfl rfl (fun c h => by cases h) (fun _ => trivial) ?_ ⟨w'.heap.size, by rw [show many gg_ L (VL z) = many gg_ L (VL w'.heap.size) from by rw [HVL.out]; simp only [many, n18, hL, cond_false, cond_true]]; exact many_put (HOK.out _) 17 8 _ (by rw [HVL.out]; simp) hL, hcm.alloc hcm.size _, by simp only [upd, n18, hL, Nat.reduceBEq, cond_true, cond_false]; exact ⟨hcm.size, World.alloc_heap_new w' _⟩⟩
              clear hph
              go_simp
            · skip
              have y0 : L 0 = true := up_at hu 0 (by kernel_rfl)
              have y1 : L 1 = true := up_at hu 1 (by kernel_rfl)
              have y2 : L 2 = true := up_at hu 2 (by kernel_rfl)
              have y3 : L 3 = true := up_at hu 3 (by kernel_rfl)
              have y4 : L 4 = true := up_at hu 4 (by kernel_rfl)
              have y5 : L 5 = true := up_at hu 5 (by kernel_rfl)
              have y6 : L 6 = true := up_at hu 6 (by kernel_rfl)
              have y7 : L 7 = true := up_at hu 7 (by kernel_rfl)
              have y8 : L 8 = true := up_at hu 8 (by kernel_rfl)
              have y9 : L 9 = true := up_at hu 9 (by kernel_rfl)
              have y10 : L 10 = true := up_at hu 10 (by kernel_rfl)
              have y11 : L 11 = true := up_at hu 11 (by kernel_rfl)
              have y12 : L 12 = true := up_at hu 12 (by kernel_rfl)
              have y13 : L 13 = true := up_at hu 13 (by kernel_rfl)
              have y14 : L 14 = true := up_at hu 14 (by kernel_rfl)
              have y15 : L 15 = true := up_at hu 15 (by kernel_rfl)
              have y16 : L 16 = true := up_at hu 16 (by kernel_rfl)
              have y17 : L 17 = true := up_at hu 17 (by kernel_rfl)
              try simp only [y0, y1, y2, y3, y4, y5, y6, y7, y8, y9, y10, y11, y12, y13, y14, y15, y16, y17, hL, cond_true, cond_false] at hph
              have e8 : (many gg_ L (VL z))[8]?.getD undef = .pointer (some ⟨z, 0, none⟩) := many_eval hgN (HOK.out z).1 (by rw [HVL.out]; simp [lookM, y17])
              have e70 : (many gg_ L (VL z))[70]?.getD undef = .agg #[.int .i64 p0, .int .i64 p1, .int .i64 p2, .int .i64 p3] := many_eval hgN (HOK.out z).1 (by rw [HVL.out]; simp [lookM, y16])
              refine opIn_skip (w' := w'.setRow z #[.int .i64 p0, .int .i64 p1, .int .i64 p2, .int .i64 p3]) rfl rfl (fun c h => by cases h) (fun _ => trivial) ?_ ⟨z, by exact many_none 18 _ (by rw [HVL.out]; simp), below_setRow hcm hph.1 _, by simp only [upd, y0, y1, y2, y3, y4, y5, y6, y7, y8, y9, y10, y11, y12, y13, y14, y15, y16, y17, hL, Nat.reduceBEq, cond_true, cond_false]; exact ⟨hph.1, setRow_heap _ _ _ _ _ _ hph.2⟩⟩
              exact run_store_many e8 e70 hph.2 (by kernel_rfl) rfl (by kernel_rfl)
          case fin =>
            intro L z w' hall hph
            obtain ⟨hcm, hph⟩ := hph
            have l17 := hall 17 (by decide)
            have l18 := hall 18 (by decide)
            simp only [l17, l18, cond_true] at hph
            clear l17 l18
            rw [HVL.out]
            dsimp only [manyL, List.set_cons_zero, List.set_cons_succ]
            clear hall HVL HOK HVI
            have HP := Lib.hid (And.intro hcm hph)
            clear hph hcm
            go_wp2_with fail
            go_meet
            exact ⟨_, rfl, HP⟩
        case rest =>
         obtain ⟨q8, rfl, HB1⟩ := hcut
         obtain ⟨W1, hW1⟩ : ∃ W1, W1 = wc := ⟨wc, rfl⟩
         subst hW1
         clear PT1 HBb
         have HT4b : Hid (tg < W1.heap.size ∧ W1.cell? ⟨tg, tq + i * 4, none⟩ = some (.int .i64 t0) ∧ W1.cell? ⟨tg, tq + i * 4 + 1, none⟩ = some (.int .i64 t1) ∧ W1.cell? ⟨tg, tq + i * 4 + 2, none⟩ = some (.int .i64 t2) ∧ W1.cell? ⟨tg, tq + i * 4 + 3, none⟩ = some (.int .i64 t3)) := Lib.hid (by
           obtain ⟨h0, h1, h2, h3, h4⟩ := HT4.out
           exact ⟨Nat.lt_of_lt_of_le h0 HB1.out.1.size, (HB1.out.1.cell (p := ⟨tg, _, none⟩) h0).trans h1, (HB1.out.1.cell (p := ⟨tg, _, none⟩) h0).trans h2, (HB1.out.1.cell (p := ⟨tg, _, none⟩) h0).trans h3, (HB1.out.1.cell (p := ⟨tg, _, none⟩) h0).trans h4⟩)
         have HC2b : Hid (cg < W1.heap.size ∧ W1.cell? ⟨cg, c * 5 + 2, none⟩ = some (.int .i64 dx) ∧ W1.cell? ⟨cg, c * 5 + 3, none⟩ = some (.int .i64 dy)) := Lib.hid (by
           obtain ⟨h0, h1, h2⟩ := HC2.out
           exact ⟨Nat.lt_of_lt_of_le h0 HB1.out.1.size, (HB1.out.1.cell (p := ⟨cg, _, none⟩) h0).trans h1, (HB1.out.1.cell (p := ⟨cg, _, none⟩) h0).trans h2⟩)
         have HM1 : Hid (bm + 2 ≤ W1.heap.size ∧ W1.heap[bm]? = some (.cells #[.int .i64 X, .int .i64 Y, .int .i64 OX, .int .i64 OY, .slice (some ⟨cg, 0, none⟩) N C2] 24 (0, 0)) ∧ W1.heap[bm + 1]? = some (.cells #[.int .i64 TX, .int .i64 TY, .int .i64 (LV : Int), .int .i64 (BW : Int), .int .i64 (BH : Int), .int .i64 (PR : Int), .int .i64 ST, .int .i64 OD, .int .i64 (LY : Int), .bool RC, .bool SO, .bool EP] 26 (0, 0)) ∧ q8 < W1.heap.size ∧ W1.heap[q8]? = some (.cells #[.int .i64 p0, .int .i64 p1, .int .i64 p2, .int .i64 p3] 48 (0, 0))) := Lib.hid (by
           have h0 := HW0.out
           have h1 := HB1.out.1.size
           exact ⟨by omega, (HB1.out.1.block bm (by omega)).trans (HM0.out.b 0 _ rfl), (HB1.out.1.block (bm + 1) (by omega)).trans (HM0.out.b 1 _ rfl), (Array.getElem?_eq_some_iff.1 HB1.out.2.2).1, HB1.out.2.2⟩)
         go_upto_region 14 with fail
         go_cut [89] from 71 to 88 (fun v wx => v = .bool false ∧ Hid (Below W1.heap.size W1 wx))
         case first =>
           obtain ⟨VL, hVL⟩ : ∃ VL : Unit → List (Nat × Nat × Value), VL = fun z => [(0, 71, .agg #[.int .i64 p0, .int .i64 p1, .int .i64 p2, .int .i64 p3]), (1, 72, .slice (some ⟨tg, tq, none⟩) tn TC), (2, 73, .int .i64 (i : Int)), (3, 74, .pointer (some ⟨tg, tq + i * 4, none⟩)), (4, 75, .agg #[.int .i64 t0, .int .i64 t1, .int .i64 t2, .int .i64 t3]), (5, 76, .pointer (some ⟨bm, 4, none⟩)), (6, 77, .slice (some ⟨cg, 0, none⟩) N C2), (7, 78, .int .i64 (c : Int)), (8, 79, .pointer (some ⟨cg, c * 5, none⟩)), (9, 80, .pointer (some ⟨cg, c * 5 + 2, none⟩)), (10, 81, .int .i64 dx), (11, 82, .pointer (some ⟨bm, 4, none⟩)), (12, 83, .slice (some ⟨cg, 0, none⟩) N C2), (13, 84, .int .i64 (c : Int)), (14, 85, .pointer (some ⟨cg, c * 5, none⟩)), (15, 86, .pointer (some ⟨cg, c * 5 + 3, none⟩)), (16, 87, .int .i64 dy), (17, 88, .agg #[.int .i64 p0, .int .i64 p1, .int .i64 p2, .int .i64 p3]), (18, 89, .bool false)] := ⟨_, rfl⟩
           have hok : ∀ z, manyOk 210 (VL z) := fun z => by rw [hVL]; exact ⟨by simp, by simp, by simp⟩
           have HVL := Lib.hid hVL
           have hvi : ∀ z, ∀ x ∈ VL z, x.1 < 19 := fun z => by rw [hVL]; simp
           have HOK := Lib.hid hok
           have HVI := Lib.hid hvi
           clear hVL hok hvi
           refine (wpIn_wide (n := 9)).1 (regionIn_many (N := 210) (w := _) VL (fun L z w' => Below W1.heap.size W1 w') [(3, .pointer (some ⟨bm, 0, none⟩)), (5, .slice (some ⟨tg, tq, none⟩) tn TC), (6, .int .i64 (i : Int)), (7, .int .i64 (c : Int)), (8, .pointer (some ⟨q8, 0, none⟩))] (by kernel_rfl) (by kernel_rfl) rfl (by simp only [List.forall_mem_cons, List.not_mem_nil, false_imp_iff, implies_true, and_true]; exact ⟨rfl, rfl, rfl, rfl, rfl⟩) HVI.out () ?start ?step ?fin)
           case start => exact (Below.refl _ _).drew
           case step =>
             intro gg_ hgN hgF ii_ hii_ L z w' hph hs hu
             have hF3 := hgF (3, .pointer (some ⟨bm, 0, none⟩)) (by simp)
             have hF5 := hgF (5, .slice (some ⟨tg, tq, none⟩) tn TC) (by simp)
             have hF6 := hgF (6, .int .i64 (i : Int)) (by simp)
             have hF7 := hgF (7, .int .i64 (c : Int)) (by simp)
             have hF8 := hgF (8, .pointer (some ⟨q8, 0, none⟩)) (by simp)
             have hL := hu.1
             have hii_ : ii_ < 19 := hii_
             clear hgF
             obtain rfl | rfl | rfl | rfl | rfl | rfl | rfl | rfl | rfl | rfl | rfl | rfl | rfl | rfl | rfl | rfl | rfl | rfl | rfl := (by omega : ii_ = 0 ∨ ii_ = 1 ∨ ii_ = 2 ∨ ii_ = 3 ∨ ii_ = 4 ∨ ii_ = 5 ∨ ii_ = 6 ∨ ii_ = 7 ∨ ii_ = 8 ∨ ii_ = 9 ∨ ii_ = 10 ∨ ii_ = 11 ∨ ii_ = 12 ∨ ii_ = 13 ∨ ii_ = 14 ∨ ii_ = 15 ∨ ii_ = 16 ∨ ii_ = 17 ∨ ii_ = 18)
             · skip
               obtain ⟨g0, g1, g2, g3⟩ := rc_cells ((hph.block _ HM1.out.2.2.2.1).trans HM1.out.2.2.2.2)
               have e8 : (many gg_ L (VL z))[8]?.getD undef = .pointer (some ⟨q8, 0, none⟩) := many_out hgN (HOK.out z).1 (by rw [HVL.out]; rfl) hF8
               refine opIn_run (v := .agg #[.int .i64 p0, .int .i64 p1, .int .i64 p2, .int .i64 p3]) (w' := w') rfl rfl (fun c h => by cases h) (fun _ => trivial) ?_ ⟨z, by exact many_put (HOK.out _) 0 71 _ (by rw [HVL.out]; simp) hL, hph⟩
               go_simp
             · skip
               have e5 : (many gg_ L (VL z))[5]?.getD undef = .slice (some ⟨tg, tq, none⟩) tn TC := many_out hgN (HOK.out z).1 (by rw [HVL.out]; rfl) hF5
               refine opIn_run (v := .slice (some ⟨tg, tq, none⟩) tn TC) (w' := w') rfl rfl (fun c h => by cases h) (fun _ => trivial) ?_ ⟨z, by exact many_put (HOK.out _) 1 72 _ (by rw [HVL.out]; simp) hL, hph⟩
               go_simp
             · skip
               have e6 : (many gg_ L (VL z))[6]?.getD undef = .int .i64 (i : Int) := many_out hgN (HOK.out z).1 (by rw [HVL.out]; rfl) hF6
               refine opIn_run (v := .int .i64 (i : Int)) (w' := w') rfl rfl (fun c h => by cases h) (fun _ => trivial) ?_ ⟨z, by exact many_put (HOK.out _) 2 73 _ (by rw [HVL.out]; simp) hL, hph⟩
               go_simp
             · skip
               have y1 : L 1 = true := up_at hu 1 (by kernel_rfl)
               have y2 : L 2 = true := up_at hu 2 (by kernel_rfl)
               have e72 : (many gg_ L (VL z))[72]?.getD undef = .slice (some ⟨tg, tq, none⟩) tn TC := many_eval hgN (HOK.out z).1 (by rw [HVL.out]; simp [lookM, y1])
               have e73 : (many gg_ L (VL z))[73]?.getD undef = .int .i64 (i : Int) := many_eval hgN (HOK.out z).1 (by rw [HVL.out]; simp [lookM, y2])
               refine opIn_run (v := .pointer (some ⟨tg, tq + i * 4, none⟩)) (w' := w') rfl rfl (fun c h => by cases h) (fun _ => trivial) ?_ ⟨z, by exact many_put (HOK.out _) 3 74 _ (by rw [HVL.out]; simp) hL, hph⟩
               go_simp
             · skip
               have y3 : L 3 = true := up_at hu 3 (by kernel_rfl)
               have g0 := (hph.cell (p := ⟨tg, tq + i * 4, none⟩) HT4b.out.1).trans HT4b.out.2.1
               have g1 := (hph.cell (p := ⟨tg, tq + i * 4 + 1, none⟩) HT4b.out.1).trans HT4b.out.2.2.1
               have g2 := (hph.cell (p := ⟨tg, tq + i * 4 + 2, none⟩) HT4b.out.1).trans HT4b.out.2.2.2.1
               have g3 := (hph.cell (p := ⟨tg, tq + i * 4 + 3, none⟩) HT4b.out.1).trans HT4b.out.2.2.2.2
               have e74 : (many gg_ L (VL z))[74]?.getD undef = .pointer (some ⟨tg, tq + i * 4, none⟩) := many_eval hgN (HOK.out z).1 (by rw [HVL.out]; simp [lookM, y3])
               refine opIn_run (v := .agg #[.int .i64 t0, .int .i64 t1, .int .i64 t2, .int .i64 t3]) (w' := w') rfl rfl (fun c h => by cases h) (fun _ => trivial) ?_ ⟨z, by exact many_put (HOK.out _) 4 75 _ (by rw [HVL.out]; simp) hL, hph⟩
               go_simp
             · skip
               have e3 : (many gg_ L (VL z))[3]?.getD undef = .pointer (some ⟨bm, 0, none⟩) := many_out hgN (HOK.out z).1 (by rw [HVL.out]; rfl) hF3
               refine opIn_run (v := .pointer (some ⟨bm, 4, none⟩)) (w' := w') rfl rfl (fun c h => by cases h) (fun _ => trivial) ?_ ⟨z, by exact many_put (HOK.out _) 5 76 _ (by rw [HVL.out]; simp) hL, hph⟩
               go_simp
             · skip
               have y5 : L 5 = true := up_at hu 5 (by kernel_rfl)
               have hcell : w'.cell? ⟨bm, 4, none⟩ = some (.slice (some ⟨cg, 0, none⟩) N C2) := blk_cell ((hph.block bm (by have := HM1.out.1; omega)).trans HM1.out.2.1) 4
               have e76 : (many gg_ L (VL z))[76]?.getD undef = .pointer (some ⟨bm, 4, none⟩) := many_eval hgN (HOK.out z).1 (by rw [HVL.out]; simp [lookM, y5])
               refine opIn_run (v := .slice (some ⟨cg, 0, none⟩) N C2) (w' := w') rfl rfl (fun c h => by cases h) (fun _ => trivial) ?_ ⟨z, by exact many_put (HOK.out _) 6 77 _ (by rw [HVL.out]; simp) hL, hph⟩
               go_simp
             · skip
               have e7 : (many gg_ L (VL z))[7]?.getD undef = .int .i64 (c : Int) := many_out hgN (HOK.out z).1 (by rw [HVL.out]; rfl) hF7
               refine opIn_run (v := .int .i64 (c : Int)) (w' := w') rfl rfl (fun c h => by cases h) (fun _ => trivial) ?_ ⟨z, by exact many_put (HOK.out _) 7 78 _ (by rw [HVL.out]; simp) hL, hph⟩
               go_simp
             · skip
               have y6 : L 6 = true := up_at hu 6 (by kernel_rfl)
               have y7 : L 7 = true := up_at hu 7 (by kernel_rfl)
               have e77 : (many gg_ L (VL z))[77]?.getD undef = .slice (some ⟨cg, 0, none⟩) N C2 := many_eval hgN (HOK.out z).1 (by rw [HVL.out]; simp [lookM, y6])
               have e78 : (many gg_ L (VL z))[78]?.getD undef = .int .i64 (c : Int) := many_eval hgN (HOK.out z).1 (by rw [HVL.out]; simp [lookM, y7])
               refine opIn_run (v := .pointer (some ⟨cg, c * 5, none⟩)) (w' := w') rfl rfl (fun c h => by cases h) (fun _ => trivial) ?_ ⟨z, by exact many_put (HOK.out _) 8 79 _ (by rw [HVL.out]; simp) hL, hph⟩
               go_simp
             · skip
               have y8 : L 8 = true := up_at hu 8 (by kernel_rfl)
               have e79 : (many gg_ L (VL z))[79]?.getD undef = .pointer (some ⟨cg, c * 5, none⟩) := many_eval hgN (HOK.out z).1 (by rw [HVL.out]; simp [lookM, y8])
               refine opIn_run (v := .pointer (some ⟨cg, c * 5 + 2, none⟩)) (w' := w') rfl rfl (fun c h => by cases h) (fun _ => trivial) ?_ ⟨z, by exact many_put (HOK.out _) 9 80 _ (by rw [HVL.out]; simp) hL, hph⟩
               go_simp
             · skip
               have y9 : L 9 = true := up_at hu 9 (by kernel_rfl)
               have hcell : w'.cell? ⟨cg, c * 5 + 2, none⟩ = some (.int .i64 dx) := (hph.cell (p := ⟨cg, c * 5 + 2, none⟩) HC2b.out.1).trans HC2b.out.2.1
               have e80 : (many gg_ L (VL z))[80]?.getD undef = .pointer (some ⟨cg, c * 5 + 2, none⟩) := many_eval hgN (HOK.out z).1 (by rw [HVL.out]; simp [lookM, y9])
               refine opIn_run (v := .int .i64 dx) (w' := w') rfl rfl (fun c h => by cases h) (fun _ => trivial) ?_ ⟨z, by exact many_put (HOK.out _) 10 81 _ (by rw [HVL.out]; simp) hL, hph⟩
               go_simp
             · skip
               have e3 : (many gg_ L (VL z))[3]?.getD undef = .pointer (some ⟨bm, 0, none⟩) := many_out hgN (HOK.out z).1 (by rw [HVL.out]; rfl) hF3
               refine opIn_run (v := .pointer (some ⟨bm, 4, none⟩)) (w' := w') rfl rfl (fun c h => by cases h) (fun _ => trivial) ?_ ⟨z, by exact many_put (HOK.out _) 11 82 _ (by rw [HVL.out]; simp) hL, hph⟩
               go_simp
             · skip
               have y11 : L 11 = true := up_at hu 11 (by kernel_rfl)
               have hcell : w'.cell? ⟨bm, 4, none⟩ = some (.slice (some ⟨cg, 0, none⟩) N C2) := blk_cell ((hph.block bm (by have := HM1.out.1; omega)).trans HM1.out.2.1) 4
               have e82 : (many gg_ L (VL z))[82]?.getD undef = .pointer (some ⟨bm, 4, none⟩) := many_eval hgN (HOK.out z).1 (by rw [HVL.out]; simp [lookM, y11])
               refine opIn_run (v := .slice (some ⟨cg, 0, none⟩) N C2) (w' := w') rfl rfl (fun c h => by cases h) (fun _ => trivial) ?_ ⟨z, by exact many_put (HOK.out _) 12 83 _ (by rw [HVL.out]; simp) hL, hph⟩
               go_simp
             · skip
               have e7 : (many gg_ L (VL z))[7]?.getD undef = .int .i64 (c : Int) := many_out hgN (HOK.out z).1 (by rw [HVL.out]; rfl) hF7
               refine opIn_run (v := .int .i64 (c : Int)) (w' := w') rfl rfl (fun c h => by cases h) (fun _ => trivial) ?_ ⟨z, by exact many_put (HOK.out _) 13 84 _ (by rw [HVL.out]; simp) hL, hph⟩
               go_simp
             · skip
               have y12 : L 12 = true := up_at hu 12 (by kernel_rfl)
               have y13 : L 13 = true := up_at hu 13 (by kernel_rfl)
               have e83 : (many gg_ L (VL z))[83]?.getD undef = .slice (some ⟨cg, 0, none⟩) N C2 := many_eval hgN (HOK.out z).1 (by rw [HVL.out]; simp [lookM, y12])
               have e84 : (many gg_ L (VL z))[84]?.getD undef = .int .i64 (c : Int) := many_eval hgN (HOK.out z).1 (by rw [HVL.out]; simp [lookM, y13])
               refine opIn_run (v := .pointer (some ⟨cg, c * 5, none⟩)) (w' := w') rfl rfl (fun c h => by cases h) (fun _ => trivial) ?_ ⟨z, by exact many_put (HOK.out _) 14 85 _ (by rw [HVL.out]; simp) hL, hph⟩
               go_simp
             · skip
               have y14 : L 14 = true := up_at hu 14 (by kernel_rfl)
               have e85 : (many gg_ L (VL z))[85]?.getD undef = .pointer (some ⟨cg, c * 5, none⟩) := many_eval hgN (HOK.out z).1 (by rw [HVL.out]; simp [lookM, y14])
               refine opIn_run (v := .pointer (some ⟨cg, c * 5 + 3, none⟩)) (w' := w') rfl rfl (fun c h => by cases h) (fun _ => trivial) ?_ ⟨z, by exact many_put (HOK.out _) 15 86 _ (by rw [HVL.out]; simp) hL, hph⟩
               go_simp
             · skip
               have y15 : L 15 = true := up_at hu 15 (by kernel_rfl)
               have hcell : w'.cell? ⟨cg, c * 5 + 3, none⟩ = some (.int .i64 dy) := (hph.cell (p := ⟨cg, c * 5 + 3, none⟩) HC2b.out.1).trans HC2b.out.2.2
               have e86 : (many gg_ L (VL z))[86]?.getD undef = .pointer (some ⟨cg, c * 5 + 3, none⟩) := many_eval hgN (HOK.out z).1 (by rw [HVL.out]; simp [lookM, y15])
               refine opIn_run (v := .int .i64 dy) (w' := w') rfl rfl (fun c h => by cases h) (fun _ => trivial) ?_ ⟨z, by exact many_put (HOK.out _) 16 87 _ (by rw [HVL.out]; simp) hL, hph⟩
               go_simp
             · skip
               have y4 : L 4 = true := up_at hu 4 (by kernel_rfl)
               have y10 : L 10 = true := up_at hu 10 (by kernel_rfl)
               have y16 : L 16 = true := up_at hu 16 (by kernel_rfl)
               have e75 : (many gg_ L (VL z))[75]?.getD undef = .agg #[.int .i64 t0, .int .i64 t1, .int .i64 t2, .int .i64 t3] := many_eval hgN (HOK.out z).1 (by rw [HVL.out]; simp [lookM, y4])
               have e81 : (many gg_ L (VL z))[81]?.getD undef = .int .i64 dx := many_eval hgN (HOK.out z).1 (by rw [HVL.out]; simp [lookM, y10])
               have e87 : (many gg_ L (VL z))[87]?.getD undef = .int .i64 dy := many_eval hgN (HOK.out z).1 (by rw [HVL.out]; simp [lookM, y16])
               refine opIn_call (f := 22) (args := #[.agg #[.int .i64 t0, .int .i64 t1, .int .i64 t2, .int .i64 t3], .int .i64 dx, .int .i64 dy]) (w' := w') rfl rfl (fun c h => by cases h) (fun _ => trivial) rfl (by go_simp) ((callsIn_wide.2 (PT2.out w')).mono ?_)
               rintro e w2 ⟨rfl, hb⟩
               exact ⟨_, rfl, z, by exact many_put (HOK.out _) 17 88 _ (by rw [HVL.out]; simp) hL, hph.trans (hb.mono hph.size)⟩
             · skip
               have y0 : L 0 = true := up_at hu 0 (by kernel_rfl)
               have y17 : L 17 = true := up_at hu 17 (by kernel_rfl)
               have e71 : (many gg_ L (VL z))[71]?.getD undef = .agg #[.int .i64 p0, .int .i64 p1, .int .i64 p2, .int .i64 p3] := many_eval hgN (HOK.out z).1 (by rw [HVL.out]; simp [lookM, y0])
               have e88 : (many gg_ L (VL z))[88]?.getD undef = .agg #[.int .i64 p0, .int .i64 p1, .int .i64 p2, .int .i64 p3] := many_eval hgN (HOK.out z).1 (by rw [HVL.out]; simp [lookM, y17])
               refine opIn_run (v := .bool false) (w' := w') rfl rfl (fun c h => by cases h) (fun _ => trivial) ?_ ⟨z, by exact many_put (HOK.out _) 18 89 _ (by rw [HVL.out]; simp) hL, hph⟩
               go_simp
           case fin =>
             intro L z w' hall hph
             rw [HVL.out]
             dsimp only [manyL, List.set_cons_zero, List.set_cons_succ]
             clear hall HVL HOK HVI
             have HP := Lib.hid hph
             clear hph
             go_wp2_with fail
             go_meet
             exact ⟨rfl, HP⟩
         case rest =>
          obtain ⟨rfl, HB2⟩ := hcut
          clear PT2 HT4b HC2b HC2
          go_wp2_with fail
          go_loopg [9] (LV + 1) (fun g v wr => ∃ r : Nat, r + g = LV + 1 ∧ v = .int .i64 (r : Int) ∧ Hid (Below W1.heap.size W1 wr))
          case atStart => exact ⟨0, by omega, rfl, HB2⟩
          case round =>
           obtain ⟨r, hrg, rfl, HBc⟩ := hrel
           obtain ⟨wd4, hwd4⟩ : ∃ wd4, wd4 = wr := ⟨wr, rfl⟩
           subst hwd4
           clear HB2
           have j2' : wd4.cell? ⟨bm + 1, 2, none⟩ = some (.int .i64 (LV : Int)) := blk_cell ((HBc.out.block (bm + 1) (by have := HM1.out.1; omega)).trans HM1.out.2.2.1) 2
           by_cases hlr : r ≤ LV
           · obtain ⟨g2, rfl⟩ : ∃ g2, gk = g2 + 1 := ⟨gk - 1, by omega⟩
             have hlrI : (r : Int) ≤ (LV : Int) ∧ (0 : Int) ≤ (r : Int) := by omega
             have hqq := HQ.out
             unfold RcOk inN at hqq
             simp only at hqq
             obtain ⟨z0, hz0⟩ : ∃ z, ceilF p0 ((2 ^ (LV - r) : Nat) : Int) = z := ⟨_, rfl⟩
             obtain ⟨z1, hz1⟩ : ∃ z, ceilF p1 ((2 ^ (LV - r) : Nat) : Int) = z := ⟨_, rfl⟩
             obtain ⟨z2, hz2⟩ : ∃ z, ceilF p2 ((2 ^ (LV - r) : Nat) : Int) = z := ⟨_, rfl⟩
             obtain ⟨z3, hz3⟩ : ∃ z, ceilF p3 ((2 ^ (LV - r) : Nat) : Int) = z := ⟨_, rfl⟩
             have hzk := over_ok HQ.out ((2 ^ (LV - r) : Nat) : Int) ((2 ^ (LV - r) : Nat) : Int) (pow16 _ (by omega)).1 (pow16 _ (by omega)).1 (by omega)
             simp only at hzk
             rw [hz0, hz1, hz2, hz3] at hzk
             have RS1 : Hid (∀ u, Calls Try.prog 23 #[.agg #[.int .i64 p0, .int .i64 p1, .int .i64 p2, .int .i64 p3], .int .i64 (LV : Int), .int .i64 (r : Int)] u fun e w' => e = .returned (.agg #[.int .i64 z0, .int .i64 z1, .int .i64 z2, .int .i64 z3]) ∧ Below u.heap.size u w') := Lib.hid fun u => by
               have := res_any (p0, p1, p2, p3) LV r u ⟨by simp only; omega, by simp only; omega, by simp only; omega, by simp only; omega⟩ (by omega)
               unfold rA overN at this
               simp only at this
               rw [hz0, hz1, hz2, hz3] at this
               exact this
             have RS2 : Hid (∀ u, Calls Try.prog 28 #[.agg #[.int .i64 p0, .int .i64 p1, .int .i64 p2, .int .i64 p3], .int .i64 (LV : Int), .int .i64 (r : Int)] u fun e w' => e = .returned (.agg #[.int .i64 z0, .int .i64 z1, .int .i64 z2, .int .i64 z3]) ∧ Below u.heap.size u w') := Lib.hid fun u => by
               have := rres_any (p0, p1, p2, p3) LV r u ⟨by simp only; omega, by simp only; omega, by simp only; omega, by simp only; omega⟩ (by omega)
               unfold rA overN at this
               simp only at this
               rw [hz0, hz1, hz2, hz3] at this
               exact this
             obtain ⟨kb, hkb⟩ : ∃ k, bandsK r = k := ⟨_, rfl⟩
             obtain ⟨rb, hrb⟩ : ∃ k, bandsR (p0, p1, p2, p3) LV r = k := ⟨_, rfl⟩
             have hbok := bands_ok HQ.out LV r (by omega) (by omega)
             have hbl := bands_len (p0, p1, p2, p3) LV r
             obtain ⟨bn, hbn⟩ : ∃ n, rb.length = n := ⟨_, rfl⟩
             rw [hrb] at hbok hbl
             rw [hkb, hbn] at hbl
             have BD1 : Hid (∀ u, Calls Try.prog 24 #[.agg #[.int .i64 p0, .int .i64 p1, .int .i64 p2, .int .i64 p3], .int .i64 (LV : Int), .int .i64 (r : Int)] u fun e w' => ∃ A1 c1 A2 c2, e = .returned (.tuple #[.slice A1 bn c1, .slice A2 bn c2]) ∧ Lst w' w'.heap.size A1 (kb.map (Value.int .i64)) ∧ RcL w' w'.heap.size (.slice A2 bn c2) rb ∧ Below u.heap.size u w') := Lib.hid fun u => by
               have := bands_any (p0, p1, p2, p3) LV r u ⟨by simp only; omega, by simp only; omega, by simp only; omega, by simp only; omega⟩ (by omega)
               unfold rA at this
               simp only at this
               rw [hkb, hrb, hbl.2.2, hbn] at this
               exact this
             have BD2 : Hid (∀ u, Calls Try.prog 25 #[.agg #[.int .i64 p0, .int .i64 p1, .int .i64 p2, .int .i64 p3], .int .i64 (LV : Int), .int .i64 (r : Int)] u fun e w' => ∃ A1 c1 A2 c2, e = .returned (.tuple #[.slice A1 bn c1, .slice A2 bn c2]) ∧ Lst w' w'.heap.size A1 (kb.map (Value.int .i64)) ∧ RcL w' w'.heap.size (.slice A2 bn c2) rb ∧ Below u.heap.size u w') := Lib.hid fun u => by
               have := rbands_any (p0, p1, p2, p3) LV r u ⟨by simp only; omega, by simp only; omega, by simp only; omega, by simp only; omega⟩ (by omega)
               unfold rA at this
               simp only at this
               rw [hkb, hrb, hbl.2.2, hbn] at this
               exact this
             obtain ⟨CWI, hCW⟩ : ∃ c, (pcF (z0, z1, z2, z3) ((2 ^ PR : Nat) : Int)).1 = c := ⟨_, rfl⟩
             obtain ⟨RHI, hRH⟩ : ∃ c, (pcF (z0, z1, z2, z3) ((2 ^ PR : Nat) : Int)).2 = c := ⟨_, rfl⟩
             have hpb := pc_bd (z := (z0, z1, z2, z3)) (m := 25) ((2 ^ PR : Nat) : Int) (pow16 _ (by omega)).1 (by omega) hzk.1 hzk.2
             rw [hCW, hRH] at hpb
             have hzz := hzk
             unfold RcOk inN at hzz
             simp only at hzz
             have PC1 : Hid (∀ u, Calls Try.prog 26 #[.agg #[.int .i64 z0, .int .i64 z1, .int .i64 z2, .int .i64 z3], .int .i64 (PR : Int)] u fun e w' => e = .returned (.tuple #[.int .i64 CWI, .int .i64 RHI]) ∧ Below u.heap.size u w') := Lib.hid fun u => by
               have := prec_any (z0, z1, z2, z3) PR u ⟨by simp only; omega, by simp only; omega, by simp only; omega, by simp only; omega⟩ (by omega)
               unfold rA at this
               simp only at this
               rw [hCW, hRH] at this
               exact this
             have PC2 : Hid (∀ u, Calls Try.prog 27 #[.agg #[.int .i64 z0, .int .i64 z1, .int .i64 z2, .int .i64 z3], .int .i64 (PR : Int)] u fun e w' => e = .returned (.tuple #[.int .i64 CWI, .int .i64 RHI]) ∧ Below u.heap.size u w') := Lib.hid fun u => by
               have := rprec_any (z0, z1, z2, z3) PR u ⟨by simp only; omega, by simp only; omega, by simp only; omega, by simp only; omega⟩ (by simp only; omega) (by omega)
               unfold rA at this
               simp only at this
               rw [hCW, hRH] at this
               exact this
             have HZK := Lib.hid hzk
             have HBO : Hid (rb.length = bn ∧ kb.length = bn ∧ ∀ b ∈ rb, RcOk 25 b) := Lib.hid ⟨hbn, hbl.2.2.trans rfl, hbok⟩
             have hbn3 : 1 ≤ bn ∧ bn ≤ 3 := by omega
             clear hqq hz0 hz1 hz2 hz3 hzk hkb hrb hbok hbl hbn hCW hRH hzz
             obtain ⟨x0, x1, x2, x3⟩ := rc_cells ((HBc.out.block _ HM1.out.2.2.2.1).trans HM1.out.2.2.2.2)
             go_wp2_with fail
             refine (RS1.out _).mono ?_
             rintro e w8 ⟨rfl, hb⟩
             have HB8 := Lib.hid (HBc.out.trans (hb.mono HBc.out.size))
             clear hb x0 x1 x2 x3 j2' RS1
             go_upto_region 20 with fail
             obtain ⟨q10, hq10⟩ : ∃ q, w8.heap.size = q := ⟨_, rfl⟩
             obtain ⟨Wq, hWq⟩ : ∃ Wq, w8.alloc (Obj.cells #[.int .i64 z0, .int .i64 z1, .int .i64 z2, .int .i64 z3] 48) = Wq := ⟨_, rfl⟩
             have FQ : Hid (q8 < Wq.heap.size ∧ q10 < Wq.heap.size ∧ bm + 1 < Wq.heap.size ∧ Wq.heap[q8]? = some (.cells #[.int .i64 p0, .int .i64 p1, .int .i64 p2, .int .i64 p3] 48 (0, 0)) ∧ Wq.heap[q10]? = some (.cells #[.int .i64 z0, .int .i64 z1, .int .i64 z2, .int .i64 z3] 48 (0, 0)) ∧ Wq.heap[bm + 1]? = some (.cells #[.int .i64 TX, .int .i64 TY, .int .i64 (LV : Int), .int .i64 (BW : Int), .int .i64 (BH : Int), .int .i64 (PR : Int), .int .i64 ST, .int .i64 OD, .int .i64 (LY : Int), .bool RC, .bool SO, .bool EP] 26 (0, 0)) ∧ Below W1.heap.size W1 Wq) := Lib.hid (by
               have hbe : Below W1.heap.size W1 Wq := by rw [← hWq]; exact HB8.out.alloc HB8.out.size _
               have h1 := hbe.size
               have h2 := HM1.out.1
               have h3 := HM1.out.2.2.2.1
               refine ⟨by omega, ?_, by omega, (hbe.block _ h3).trans HM1.out.2.2.2.2, ?_, (hbe.block _ (by omega)).trans HM1.out.2.2.1, hbe⟩
               · rw [← hWq, ← hq10]; simp
               · rw [← hWq, ← hq10]; exact World.alloc_heap_new w8 _)
             rw [hWq, hq10]
             clear hWq hq10 HB8
             obtain ⟨x0, x1, x2, x3⟩ := rc_cells FQ.out.2.2.2.1
             have j2' : Wq.cell? ⟨bm + 1, 2, none⟩ = some (.int .i64 (LV : Int)) := blk_cell FQ.out.2.2.2.2.2.1 2
             have j5' : Wq.cell? ⟨bm + 1, 5, none⟩ = some (.int .i64 (PR : Int)) := blk_cell FQ.out.2.2.2.2.2.1 5
             go_wp2_with fail
             refine (BD1.out _).mono ?_
             rintro e w9 ⟨LA, LC, MA, MC, rfl, hL1, hR1, HBd⟩
             have HB9 := Lib.hid HBd
             have HL1 := Lib.hid hL1
             have HR1 := Lib.hid hR1
             clear HBd hL1 hR1 BD1 x0 x1 x2 x3 j2' j5'
             obtain ⟨x0, x1, x2, x3⟩ := rc_cells ((HB9.out.block _ FQ.out.1).trans FQ.out.2.2.2.1)
             have j2' : w9.cell? ⟨bm + 1, 2, none⟩ = some (.int .i64 (LV : Int)) := blk_cell ((HB9.out.block _ FQ.out.2.2.1).trans FQ.out.2.2.2.2.2.1) 2
             have j5' : w9.cell? ⟨bm + 1, 5, none⟩ = some (.int .i64 (PR : Int)) := blk_cell ((HB9.out.block _ FQ.out.2.2.1).trans FQ.out.2.2.2.2.2.1) 5
             go_wp2_with fail
             refine (BD2.out _).mono ?_
             rintro e w10 ⟨LB, LD, MB, MD, rfl, hL2, hR2, hb⟩
             have HB10 := Lib.hid (HB9.out.trans (hb.mono HB9.out.size))
             have HL1b := Lib.hid ((HL1.out.below hb).more hb.size)
             have HR1b := Lib.hid (HR1.out.below hb hb.size)
             have HL2 := Lib.hid hL2
             have HR2 := Lib.hid hR2
             clear hb hL2 hR2 HB9 HL1 HR1 BD2 x0 x1 x2 x3 j2' j5'
             obtain ⟨v0, v1, v2, v3⟩ := rc_cells ((HB10.out.block _ FQ.out.2.1).trans FQ.out.2.2.2.2.1)
             have j2' : w10.cell? ⟨bm + 1, 2, none⟩ = some (.int .i64 (LV : Int)) := blk_cell ((HB10.out.block _ FQ.out.2.2.1).trans FQ.out.2.2.2.2.2.1) 2
             have j5' : w10.cell? ⟨bm + 1, 5, none⟩ = some (.int .i64 (PR : Int)) := blk_cell ((HB10.out.block _ FQ.out.2.2.1).trans FQ.out.2.2.2.2.2.1) 5
             go_wp2_with fail
             refine (PC1.out _).mono ?_
             rintro e w11 ⟨rfl, hb⟩
             have HB11 := Lib.hid (HB10.out.trans (hb.mono HB10.out.size))
             have HL1c := Lib.hid ((HL1b.out.below hb).more hb.size)
             have HR1c := Lib.hid (HR1b.out.below hb hb.size)
             have HL2c := Lib.hid ((HL2.out.below hb).more hb.size)
             have HR2c := Lib.hid (HR2.out.below hb hb.size)
             clear hb HB10 HL1b HR1b HL2 HR2 PC1 v0 v1 v2 v3 j2' j5'
             obtain ⟨v0, v1, v2, v3⟩ := rc_cells ((HB11.out.block _ FQ.out.2.1).trans FQ.out.2.2.2.2.1)
             have j2' : w11.cell? ⟨bm + 1, 2, none⟩ = some (.int .i64 (LV : Int)) := blk_cell ((HB11.out.block _ FQ.out.2.2.1).trans FQ.out.2.2.2.2.2.1) 2
             have j5' : w11.cell? ⟨bm + 1, 5, none⟩ = some (.int .i64 (PR : Int)) := blk_cell ((HB11.out.block _ FQ.out.2.2.1).trans FQ.out.2.2.2.2.2.1) 5
             go_wp2_with fail
             refine (PC2.out _).mono ?_
             rintro e Wr ⟨rfl, hb⟩
             have HBr := Lib.hid (HB11.out.trans (hb.mono HB11.out.size))
             have HL1d := Lib.hid ((HL1c.out.below hb).more hb.size)
             have HR1d := Lib.hid (HR1c.out.below hb hb.size)
             have HL2d := Lib.hid ((HL2c.out.below hb).more hb.size)
             have HR2d := Lib.hid (HR2c.out.below hb hb.size)
             clear hb HB11 HL1c HR1c HL2c HR2c PC2 v0 v1 v2 v3 j2' j5'
             have FR : Hid (q8 < Wr.heap.size ∧ q10 < Wr.heap.size ∧ bm + 1 < Wr.heap.size ∧ Wr.heap[q8]? = some (.cells #[.int .i64 p0, .int .i64 p1, .int .i64 p2, .int .i64 p3] 48 (0, 0)) ∧ Wr.heap[q10]? = some (.cells #[.int .i64 z0, .int .i64 z1, .int .i64 z2, .int .i64 z3] 48 (0, 0)) ∧ Wr.heap[bm + 1]? = some (.cells #[.int .i64 TX, .int .i64 TY, .int .i64 (LV : Int), .int .i64 (BW : Int), .int .i64 (BH : Int), .int .i64 (PR : Int), .int .i64 ST, .int .i64 OD, .int .i64 (LY : Int), .bool RC, .bool SO, .bool EP] 26 (0, 0)) ∧ Below W1.heap.size W1 Wr) := Lib.hid (by
               obtain ⟨h1, h2, h3, h4, h5, h6, h7⟩ := FQ.out
               have hs := HBr.out.size
               exact ⟨by omega, by omega, by omega, (HBr.out.block _ h1).trans h4, (HBr.out.block _ h2).trans h5, (HBr.out.block _ h3).trans h6, h7.trans (HBr.out.mono h7.size)⟩)
             clear FQ HBr
             go_upto_region 24 with fail
             go_cut [159] from 131 to 158 (fun v wx => v = .bool false ∧ Hid (Below Wr.heap.size Wr wx))
             case first =>
               obtain ⟨VL, hVL⟩ : ∃ VL : Unit → List (Nat × Nat × Value), VL = fun z => [(0, 131, .agg #[.int .i64 z0, .int .i64 z1, .int .i64 z2, .int .i64 z3]), (1, 132, .agg #[.int .i64 p0, .int .i64 p1, .int .i64 p2, .int .i64 p3]), (2, 133, .pointer (some ⟨bm + 1, 2, none⟩)), (3, 134, .int .i64 (LV : Int)), (4, 135, .int .i64 (r : Int)), (5, 136, .agg #[.int .i64 z0, .int .i64 z1, .int .i64 z2, .int .i64 z3]), (6, 137, .bool false), (7, 138, .bool false), (8, 139, .slice LA bn LC), (9, 140, .slice LB bn LD), (10, 141, .bool true), (11, 142, .bool false), (12, 143, .bool false), (13, 144, .bool false), (14, 145, .slice MA bn MC), (15, 146, .slice MB bn MD), (16, 147, .bool true), (17, 148, .bool false), (18, 149, .bool false), (19, 150, .bool false), (20, 151, .int .i64 CWI), (21, 152, .int .i64 CWI), (22, 153, .bool false), (23, 154, .bool false), (24, 155, .bool false), (25, 156, .int .i64 RHI), (26, 157, .int .i64 RHI), (27, 158, .bool false), (28, 159, .bool false)] := ⟨_, rfl⟩
               have hok : ∀ z, manyOk 210 (VL z) := fun z => by rw [hVL]; exact ⟨by simp, by simp, by simp⟩
               have HVL := Lib.hid hVL
               have hvi : ∀ z, ∀ x ∈ VL z, x.1 < 29 := fun z => by rw [hVL]; simp
               have HOK := Lib.hid hok
               have HVI := Lib.hid hvi
               clear hVL hok hvi
               refine (wpIn_wide (n := 9)).1 (regionIn_many (N := 210) (w := _) VL (fun L z w' => Below Wr.heap.size Wr w') [(4, .pointer (some ⟨bm + 1, 0, none⟩)), (8, .pointer (some ⟨q8, 0, none⟩)), (9, .int .i64 (r : Int)), (10, .pointer (some ⟨q10, 0, none⟩)), (11, .slice LA bn LC), (12, .slice MA bn MC), (13, .slice LB bn LD), (14, .slice MB bn MD), (15, .int .i64 CWI), (16, .int .i64 RHI), (17, .int .i64 CWI), (18, .int .i64 RHI)] (by kernel_rfl) (by kernel_rfl) rfl (by simp only [List.forall_mem_cons, List.not_mem_nil, false_imp_iff, implies_true, and_true]; exact ⟨rfl, rfl, rfl, rfl, rfl, rfl, rfl, rfl, rfl, rfl, rfl, rfl⟩) HVI.out () ?start ?step ?fin)
               case start => exact (Below.refl _ _).drew
               case step =>
                 intro gg_ hgN hgF ii_ hii_ L z w' hph hs hu
                 have hF4 := hgF (4, .pointer (some ⟨bm + 1, 0, none⟩)) (by simp)
                 have hF8 := hgF (8, .pointer (some ⟨q8, 0, none⟩)) (by simp)
                 have hF9 := hgF (9, .int .i64 (r : Int)) (by simp)
                 have hF10 := hgF (10, .pointer (some ⟨q10, 0, none⟩)) (by simp)
                 have hF11 := hgF (11, .slice LA bn LC) (by simp)
                 have hF12 := hgF (12, .slice MA bn MC) (by simp)
                 have hF13 := hgF (13, .slice LB bn LD) (by simp)
                 have hF14 := hgF (14, .slice MB bn MD) (by simp)
                 have hF15 := hgF (15, .int .i64 CWI) (by simp)
                 have hF16 := hgF (16, .int .i64 RHI) (by simp)
                 have hF17 := hgF (17, .int .i64 CWI) (by simp)
                 have hF18 := hgF (18, .int .i64 RHI) (by simp)
                 have hL := hu.1
                 have hii_ : ii_ < 29 := hii_
                 clear hgF
                 obtain rfl | rfl | rfl | rfl | rfl | rfl | rfl | rfl | rfl | rfl | rfl | rfl | rfl | rfl | rfl | rfl | rfl | rfl | rfl | rfl | rfl | rfl | rfl | rfl | rfl | rfl | rfl | rfl | rfl := (by omega : ii_ = 0 ∨ ii_ = 1 ∨ ii_ = 2 ∨ ii_ = 3 ∨ ii_ = 4 ∨ ii_ = 5 ∨ ii_ = 6 ∨ ii_ = 7 ∨ ii_ = 8 ∨ ii_ = 9 ∨ ii_ = 10 ∨ ii_ = 11 ∨ ii_ = 12 ∨ ii_ = 13 ∨ ii_ = 14 ∨ ii_ = 15 ∨ ii_ = 16 ∨ ii_ = 17 ∨ ii_ = 18 ∨ ii_ = 19 ∨ ii_ = 20 ∨ ii_ = 21 ∨ ii_ = 22 ∨ ii_ = 23 ∨ ii_ = 24 ∨ ii_ = 25 ∨ ii_ = 26 ∨ ii_ = 27 ∨ ii_ = 28)
                 · skip
                   obtain ⟨v0, v1, v2, v3⟩ := rc_cells ((hph.block _ FR.out.2.1).trans FR.out.2.2.2.2.1)
                   have e10 : (many gg_ L (VL z))[10]?.getD undef = .pointer (some ⟨q10, 0, none⟩) := many_out hgN (HOK.out z).1 (by rw [HVL.out]; rfl) hF10
                   refine opIn_run (v := .agg #[.int .i64 z0, .int .i64 z1, .int .i64 z2, .int .i64 z3]) (w' := w') rfl rfl (fun c h => by cases h) (fun _ => trivial) ?_ ⟨z, by exact many_put (HOK.out _) 0 131 _ (by rw [HVL.out]; simp) hL, hph⟩
                   go_simp
                 · skip
                   obtain ⟨x0, x1, x2, x3⟩ := rc_cells ((hph.block _ FR.out.1).trans FR.out.2.2.2.1)
                   have e8 : (many gg_ L (VL z))[8]?.getD undef = .pointer (some ⟨q8, 0, none⟩) := many_out hgN (HOK.out z).1 (by rw [HVL.out]; rfl) hF8
                   refine opIn_run (v := .agg #[.int .i64 p0, .int .i64 p1, .int .i64 p2, .int .i64 p3]) (w' := w') rfl rfl (fun c h => by cases h) (fun _ => trivial) ?_ ⟨z, by exact many_put (HOK.out _) 1 132 _ (by rw [HVL.out]; simp) hL, hph⟩
                   go_simp
                 · skip
                   have e4 : (many gg_ L (VL z))[4]?.getD undef = .pointer (some ⟨bm + 1, 0, none⟩) := many_out hgN (HOK.out z).1 (by rw [HVL.out]; rfl) hF4
                   refine opIn_run (v := .pointer (some ⟨bm + 1, 2, none⟩)) (w' := w') rfl rfl (fun c h => by cases h) (fun _ => trivial) ?_ ⟨z, by exact many_put (HOK.out _) 2 133 _ (by rw [HVL.out]; simp) hL, hph⟩
                   go_simp
                 · skip
                   have y2 : L 2 = true := up_at hu 2 (by kernel_rfl)
                   have hcell : w'.cell? ⟨bm + 1, 2, none⟩ = some (.int .i64 (LV : Int)) := blk_cell ((hph.block _ FR.out.2.2.1).trans FR.out.2.2.2.2.2.1) 2
                   have e133 : (many gg_ L (VL z))[133]?.getD undef = .pointer (some ⟨bm + 1, 2, none⟩) := many_eval hgN (HOK.out z).1 (by rw [HVL.out]; simp [lookM, y2])
                   refine opIn_run (v := .int .i64 (LV : Int)) (w' := w') rfl rfl (fun c h => by cases h) (fun _ => trivial) ?_ ⟨z, by exact many_put (HOK.out _) 3 134 _ (by rw [HVL.out]; simp) hL, hph⟩
                   go_simp
                 · skip
                   have e9 : (many gg_ L (VL z))[9]?.getD undef = .int .i64 (r : Int) := many_out hgN (HOK.out z).1 (by rw [HVL.out]; rfl) hF9
                   refine opIn_run (v := .int .i64 (r : Int)) (w' := w') rfl rfl (fun c h => by cases h) (fun _ => trivial) ?_ ⟨z, by exact many_put (HOK.out _) 4 135 _ (by rw [HVL.out]; simp) hL, hph⟩
                   go_simp
                 · skip
                   have y1 : L 1 = true := up_at hu 1 (by kernel_rfl)
                   have y3 : L 3 = true := up_at hu 3 (by kernel_rfl)
                   have y4 : L 4 = true := up_at hu 4 (by kernel_rfl)
                   have e132 : (many gg_ L (VL z))[132]?.getD undef = .agg #[.int .i64 p0, .int .i64 p1, .int .i64 p2, .int .i64 p3] := many_eval hgN (HOK.out z).1 (by rw [HVL.out]; simp [lookM, y1])
                   have e134 : (many gg_ L (VL z))[134]?.getD undef = .int .i64 (LV : Int) := many_eval hgN (HOK.out z).1 (by rw [HVL.out]; simp [lookM, y3])
                   have e135 : (many gg_ L (VL z))[135]?.getD undef = .int .i64 (r : Int) := many_eval hgN (HOK.out z).1 (by rw [HVL.out]; simp [lookM, y4])
                   refine opIn_call (f := 28) (args := #[.agg #[.int .i64 p0, .int .i64 p1, .int .i64 p2, .int .i64 p3], .int .i64 (LV : Int), .int .i64 (r : Int)]) (w' := w') rfl rfl (fun c h => by cases h) (fun _ => trivial) rfl (by go_simp) ((callsIn_wide.2 (RS2.out w')).mono ?_)
                   rintro e w2 ⟨rfl, hb⟩
                   exact ⟨_, rfl, z, by exact many_put (HOK.out _) 5 136 _ (by rw [HVL.out]; simp) hL, hph.trans (hb.mono hph.size)⟩
                 · skip
                   have y0 : L 0 = true := up_at hu 0 (by kernel_rfl)
                   have y5 : L 5 = true := up_at hu 5 (by kernel_rfl)
                   have e131 : (many gg_ L (VL z))[131]?.getD undef = .agg #[.int .i64 z0, .int .i64 z1, .int .i64 z2, .int .i64 z3] := many_eval hgN (HOK.out z).1 (by rw [HVL.out]; simp [lookM, y0])
                   have e136 : (many gg_ L (VL z))[136]?.getD undef = .agg #[.int .i64 z0, .int .i64 z1, .int .i64 z2, .int .i64 z3] := many_eval hgN (HOK.out z).1 (by rw [HVL.out]; simp [lookM, y5])
                   refine opIn_run (v := .bool false) (w' := w') rfl rfl (fun c h => by cases h) (fun _ => trivial) ?_ ⟨z, by exact many_put (HOK.out _) 6 137 _ (by rw [HVL.out]; simp) hL, hph⟩
                   go_simp
                 · skip
                   have y5 : L 5 = true := up_at hu 5 (by kernel_rfl)
                   have y6 : L 6 = true := up_at hu 6 (by kernel_rfl)
                   have e137 : (many gg_ L (VL z))[137]?.getD undef = .bool false := many_eval hgN (HOK.out z).1 (by rw [HVL.out]; simp [lookM, y6])
                   refine opIn_run (v := .bool false) (w' := w') rfl rfl (fun c h => by cases h) (fun _ => trivial) ?_ ⟨z, by exact many_put (HOK.out _) 7 138 _ (by rw [HVL.out]; simp) hL, hph⟩
                   go_simp
                 · skip
                   have y7 : L 7 = true := up_at hu 7 (by kernel_rfl)
                   have e11 : (many gg_ L (VL z))[11]?.getD undef = .slice LA bn LC := many_out hgN (HOK.out z).1 (by rw [HVL.out]; rfl) hF11
                   have e138 : (many gg_ L (VL z))[138]?.getD undef = .bool false := many_eval hgN (HOK.out z).1 (by rw [HVL.out]; simp [lookM, y7])
                   refine opIn_run_g (v := .slice LA bn LC) (w' := w') (j := 7) (b := false) rfl rfl (by simp [yielded, many_some hgN (show 138 < 210 by decide) e138]) (fun c h => by cases h) (fun _ => trivial) ?_ ⟨z, by exact many_put (HOK.out _) 8 139 _ (by rw [HVL.out]; simp) hL, hph⟩
                   go_simp
                 · skip
                   have y7 : L 7 = true := up_at hu 7 (by kernel_rfl)
                   have e13 : (many gg_ L (VL z))[13]?.getD undef = .slice LB bn LD := many_out hgN (HOK.out z).1 (by rw [HVL.out]; rfl) hF13
                   have e138 : (many gg_ L (VL z))[138]?.getD undef = .bool false := many_eval hgN (HOK.out z).1 (by rw [HVL.out]; simp [lookM, y7])
                   refine opIn_run_g (v := .slice LB bn LD) (w' := w') (j := 7) (b := false) rfl rfl (by simp [yielded, many_some hgN (show 138 < 210 by decide) e138]) (fun c h => by cases h) (fun _ => trivial) ?_ ⟨z, by exact many_put (HOK.out _) 9 140 _ (by rw [HVL.out]; simp) hL, hph⟩
                   go_simp
                 · skip
                   have y7 : L 7 = true := up_at hu 7 (by kernel_rfl)
                   have y8 : L 8 = true := up_at hu 8 (by kernel_rfl)
                   have y9 : L 9 = true := up_at hu 9 (by kernel_rfl)
                   have e138 : (many gg_ L (VL z))[138]?.getD undef = .bool false := many_eval hgN (HOK.out z).1 (by rw [HVL.out]; simp [lookM, y7])
                   have e139 : (many gg_ L (VL z))[139]?.getD undef = .slice LA bn LC := many_eval hgN (HOK.out z).1 (by rw [HVL.out]; simp [lookM, y8])
                   have e140 : (many gg_ L (VL z))[140]?.getD undef = .slice LB bn LD := many_eval hgN (HOK.out z).1 (by rw [HVL.out]; simp [lookM, y9])
                   refine opIn_call_g (f := 29) (args := #[.slice LA bn LC, .slice LB bn LD]) (w' := w') (j := 7) (b := false) rfl rfl (by simp [yielded, many_some hgN (show 138 < 210 by decide) e138]) (fun c h => by cases h) (fun _ => trivial) rfl (by go_simp) ((callsIn_wide.2 (ints_any ((HL1d.out.below hph).more hph.size) ((HL2d.out.below hph).more hph.size) HBO.out.2.1 (by omega))).mono ?_)
                   rintro e w2 ⟨rfl, hb⟩
                   exact ⟨_, rfl, z, by exact many_put (HOK.out _) 10 141 _ (by rw [HVL.out]; simp) hL, hph.trans (hb.mono hph.size)⟩
                 · skip
                   have y7 : L 7 = true := up_at hu 7 (by kernel_rfl)
                   have y10 : L 10 = true := up_at hu 10 (by kernel_rfl)
                   have e138 : (many gg_ L (VL z))[138]?.getD undef = .bool false := many_eval hgN (HOK.out z).1 (by rw [HVL.out]; simp [lookM, y7])
                   have e141 : (many gg_ L (VL z))[141]?.getD undef = .bool true := many_eval hgN (HOK.out z).1 (by rw [HVL.out]; simp [lookM, y10])
                   refine opIn_run_g (v := .bool false) (w' := w') (j := 7) (b := false) rfl rfl (by simp [yielded, many_some hgN (show 138 < 210 by decide) e138]) (fun c h => by cases h) (fun _ => trivial) ?_ ⟨z, by exact many_put (HOK.out _) 11 142 _ (by rw [HVL.out]; simp) hL, hph⟩
                   go_simp
                 · skip
                   have y7 : L 7 = true := up_at hu 7 (by kernel_rfl)
                   have y11 : L 11 = true := up_at hu 11 (by kernel_rfl)
                   have e138 : (many gg_ L (VL z))[138]?.getD undef = .bool false := many_eval hgN (HOK.out z).1 (by rw [HVL.out]; simp [lookM, y7])
                   have e142 : (many gg_ L (VL z))[142]?.getD undef = .bool false := many_eval hgN (HOK.out z).1 (by rw [HVL.out]; simp [lookM, y11])
                   refine opIn_run (v := .bool false) (w' := w') rfl rfl (fun c h => by cases h) (fun _ => trivial) ?_ ⟨z, by exact many_put (HOK.out _) 12 143 _ (by rw [HVL.out]; simp) hL, hph⟩
                   go_simp
                 · skip
                   have y10 : L 10 = true := up_at hu 10 (by kernel_rfl)
                   have y12 : L 12 = true := up_at hu 12 (by kernel_rfl)
                   have e143 : (many gg_ L (VL z))[143]?.getD undef = .bool false := many_eval hgN (HOK.out z).1 (by rw [HVL.out]; simp [lookM, y12])
                   refine opIn_run (v := .bool false) (w' := w') rfl rfl (fun c h => by cases h) (fun _ => trivial) ?_ ⟨z, by exact many_put (HOK.out _) 13 144 _ (by rw [HVL.out]; simp) hL, hph⟩
                   go_simp
                 · skip
                   have y13 : L 13 = true := up_at hu 13 (by kernel_rfl)
                   have e12 : (many gg_ L (VL z))[12]?.getD undef = .slice MA bn MC := many_out hgN (HOK.out z).1 (by rw [HVL.out]; rfl) hF12
                   have e144 : (many gg_ L (VL z))[144]?.getD undef = .bool false := many_eval hgN (HOK.out z).1 (by rw [HVL.out]; simp [lookM, y13])
                   refine opIn_run_g (v := .slice MA bn MC) (w' := w') (j := 13) (b := false) rfl rfl (by simp [yielded, many_some hgN (show 144 < 210 by decide) e144]) (fun c h => by cases h) (fun _ => trivial) ?_ ⟨z, by exact many_put (HOK.out _) 14 145 _ (by rw [HVL.out]; simp) hL, hph⟩
                   go_simp
                 · skip
                   have y13 : L 13 = true := up_at hu 13 (by kernel_rfl)
                   have e14 : (many gg_ L (VL z))[14]?.getD undef = .slice MB bn MD := many_out hgN (HOK.out z).1 (by rw [HVL.out]; rfl) hF14
                   have e144 : (many gg_ L (VL z))[144]?.getD undef = .bool false := many_eval hgN (HOK.out z).1 (by rw [HVL.out]; simp [lookM, y13])
                   refine opIn_run_g (v := .slice MB bn MD) (w' := w') (j := 13) (b := false) rfl rfl (by simp [yielded, many_some hgN (show 144 < 210 by decide) e144]) (fun c h => by cases h) (fun _ => trivial) ?_ ⟨z, by exact many_put (HOK.out _) 15 146 _ (by rw [HVL.out]; simp) hL, hph⟩
                   go_simp
                 · skip
                   have y13 : L 13 = true := up_at hu 13 (by kernel_rfl)
                   have y14 : L 14 = true := up_at hu 14 (by kernel_rfl)
                   have y15 : L 15 = true := up_at hu 15 (by kernel_rfl)
                   have e144 : (many gg_ L (VL z))[144]?.getD undef = .bool false := many_eval hgN (HOK.out z).1 (by rw [HVL.out]; simp [lookM, y13])
                   have e145 : (many gg_ L (VL z))[145]?.getD undef = .slice MA bn MC := many_eval hgN (HOK.out z).1 (by rw [HVL.out]; simp [lookM, y14])
                   have e146 : (many gg_ L (VL z))[146]?.getD undef = .slice MB bn MD := many_eval hgN (HOK.out z).1 (by rw [HVL.out]; simp [lookM, y15])
                   refine opIn_call_g (f := 19) (args := #[.slice MA bn MC, .slice MB bn MD]) (w' := w') (j := 13) (b := false) rfl rfl (by simp [yielded, many_some hgN (show 144 < 210 by decide) e144]) (fun c h => by cases h) (fun _ => trivial) rfl (by go_simp) ((callsIn_wide.2 (rects_any (HR1d.out.below hph hph.size) (HR2d.out.below hph hph.size) (by rw [HBO.out.1]; omega))).mono ?_)
                   rintro e w2 ⟨rfl, hb⟩
                   exact ⟨_, rfl, z, by exact many_put (HOK.out _) 16 147 _ (by rw [HVL.out]; simp) hL, hph.trans (hb.mono hph.size)⟩
                 · skip
                   have y13 : L 13 = true := up_at hu 13 (by kernel_rfl)
                   have y16 : L 16 = true := up_at hu 16 (by kernel_rfl)
                   have e144 : (many gg_ L (VL z))[144]?.getD undef = .bool false := many_eval hgN (HOK.out z).1 (by rw [HVL.out]; simp [lookM, y13])
                   have e147 : (many gg_ L (VL z))[147]?.getD undef = .bool true := many_eval hgN (HOK.out z).1 (by rw [HVL.out]; simp [lookM, y16])
                   refine opIn_run_g (v := .bool false) (w' := w') (j := 13) (b := false) rfl rfl (by simp [yielded, many_some hgN (show 144 < 210 by decide) e144]) (fun c h => by cases h) (fun _ => trivial) ?_ ⟨z, by exact many_put (HOK.out _) 17 148 _ (by rw [HVL.out]; simp) hL, hph⟩
                   go_simp
                 · skip
                   have y13 : L 13 = true := up_at hu 13 (by kernel_rfl)
                   have y17 : L 17 = true := up_at hu 17 (by kernel_rfl)
                   have e144 : (many gg_ L (VL z))[144]?.getD undef = .bool false := many_eval hgN (HOK.out z).1 (by rw [HVL.out]; simp [lookM, y13])
                   have e148 : (many gg_ L (VL z))[148]?.getD undef = .bool false := many_eval hgN (HOK.out z).1 (by rw [HVL.out]; simp [lookM, y17])
                   refine opIn_run (v := .bool false) (w' := w') rfl rfl (fun c h => by cases h) (fun _ => trivial) ?_ ⟨z, by exact many_put (HOK.out _) 18 149 _ (by rw [HVL.out]; simp) hL, hph⟩
                   go_simp
                 · skip
                   have y16 : L 16 = true := up_at hu 16 (by kernel_rfl)
                   have y18 : L 18 = true := up_at hu 18 (by kernel_rfl)
                   have e149 : (many gg_ L (VL z))[149]?.getD undef = .bool false := many_eval hgN (HOK.out z).1 (by rw [HVL.out]; simp [lookM, y18])
                   refine opIn_run (v := .bool false) (w' := w') rfl rfl (fun c h => by cases h) (fun _ => trivial) ?_ ⟨z, by exact many_put (HOK.out _) 19 150 _ (by rw [HVL.out]; simp) hL, hph⟩
                   go_simp
                 · skip
                   have y19 : L 19 = true := up_at hu 19 (by kernel_rfl)
                   have e15 : (many gg_ L (VL z))[15]?.getD undef = .int .i64 CWI := many_out hgN (HOK.out z).1 (by rw [HVL.out]; rfl) hF15
                   have e150 : (many gg_ L (VL z))[150]?.getD undef = .bool false := many_eval hgN (HOK.out z).1 (by rw [HVL.out]; simp [lookM, y19])
                   refine opIn_run_g (v := .int .i64 CWI) (w' := w') (j := 19) (b := false) rfl rfl (by simp [yielded, many_some hgN (show 150 < 210 by decide) e150]) (fun c h => by cases h) (fun _ => trivial) ?_ ⟨z, by exact many_put (HOK.out _) 20 151 _ (by rw [HVL.out]; simp) hL, hph⟩
                   go_simp
                 · skip
                   have y19 : L 19 = true := up_at hu 19 (by kernel_rfl)
                   have e17 : (many gg_ L (VL z))[17]?.getD undef = .int .i64 CWI := many_out hgN (HOK.out z).1 (by rw [HVL.out]; rfl) hF17
                   have e150 : (many gg_ L (VL z))[150]?.getD undef = .bool false := many_eval hgN (HOK.out z).1 (by rw [HVL.out]; simp [lookM, y19])
                   refine opIn_run_g (v := .int .i64 CWI) (w' := w') (j := 19) (b := false) rfl rfl (by simp [yielded, many_some hgN (show 150 < 210 by decide) e150]) (fun c h => by cases h) (fun _ => trivial) ?_ ⟨z, by exact many_put (HOK.out _) 21 152 _ (by rw [HVL.out]; simp) hL, hph⟩
                   go_simp
                 · skip
                   have y19 : L 19 = true := up_at hu 19 (by kernel_rfl)
                   have y20 : L 20 = true := up_at hu 20 (by kernel_rfl)
                   have y21 : L 21 = true := up_at hu 21 (by kernel_rfl)
                   have e150 : (many gg_ L (VL z))[150]?.getD undef = .bool false := many_eval hgN (HOK.out z).1 (by rw [HVL.out]; simp [lookM, y19])
                   have e151 : (many gg_ L (VL z))[151]?.getD undef = .int .i64 CWI := many_eval hgN (HOK.out z).1 (by rw [HVL.out]; simp [lookM, y20])
                   have e152 : (many gg_ L (VL z))[152]?.getD undef = .int .i64 CWI := many_eval hgN (HOK.out z).1 (by rw [HVL.out]; simp [lookM, y21])
                   refine opIn_run_g (v := .bool false) (w' := w') (j := 19) (b := false) rfl rfl (by simp [yielded, many_some hgN (show 150 < 210 by decide) e150]) (fun c h => by cases h) (fun _ => trivial) ?_ ⟨z, by exact many_put (HOK.out _) 22 153 _ (by rw [HVL.out]; simp) hL, hph⟩
                   go_simp
                 · skip
                   have y19 : L 19 = true := up_at hu 19 (by kernel_rfl)
                   have y22 : L 22 = true := up_at hu 22 (by kernel_rfl)
                   have e150 : (many gg_ L (VL z))[150]?.getD undef = .bool false := many_eval hgN (HOK.out z).1 (by rw [HVL.out]; simp [lookM, y19])
                   have e153 : (many gg_ L (VL z))[153]?.getD undef = .bool false := many_eval hgN (HOK.out z).1 (by rw [HVL.out]; simp [lookM, y22])
                   refine opIn_run (v := .bool false) (w' := w') rfl rfl (fun c h => by cases h) (fun _ => trivial) ?_ ⟨z, by exact many_put (HOK.out _) 23 154 _ (by rw [HVL.out]; simp) hL, hph⟩
                   go_simp
                 · skip
                   have y19 : L 19 = true := up_at hu 19 (by kernel_rfl)
                   have y23 : L 23 = true := up_at hu 23 (by kernel_rfl)
                   have e154 : (many gg_ L (VL z))[154]?.getD undef = .bool false := many_eval hgN (HOK.out z).1 (by rw [HVL.out]; simp [lookM, y23])
                   refine opIn_run (v := .bool false) (w' := w') rfl rfl (fun c h => by cases h) (fun _ => trivial) ?_ ⟨z, by exact many_put (HOK.out _) 24 155 _ (by rw [HVL.out]; simp) hL, hph⟩
                   go_simp
                 · skip
                   have y24 : L 24 = true := up_at hu 24 (by kernel_rfl)
                   have e16 : (many gg_ L (VL z))[16]?.getD undef = .int .i64 RHI := many_out hgN (HOK.out z).1 (by rw [HVL.out]; rfl) hF16
                   have e155 : (many gg_ L (VL z))[155]?.getD undef = .bool false := many_eval hgN (HOK.out z).1 (by rw [HVL.out]; simp [lookM, y24])
                   refine opIn_run_g (v := .int .i64 RHI) (w' := w') (j := 24) (b := false) rfl rfl (by simp [yielded, many_some hgN (show 155 < 210 by decide) e155]) (fun c h => by cases h) (fun _ => trivial) ?_ ⟨z, by exact many_put (HOK.out _) 25 156 _ (by rw [HVL.out]; simp) hL, hph⟩
                   go_simp
                 · skip
                   have y24 : L 24 = true := up_at hu 24 (by kernel_rfl)
                   have e18 : (many gg_ L (VL z))[18]?.getD undef = .int .i64 RHI := many_out hgN (HOK.out z).1 (by rw [HVL.out]; rfl) hF18
                   have e155 : (many gg_ L (VL z))[155]?.getD undef = .bool false := many_eval hgN (HOK.out z).1 (by rw [HVL.out]; simp [lookM, y24])
                   refine opIn_run_g (v := .int .i64 RHI) (w' := w') (j := 24) (b := false) rfl rfl (by simp [yielded, many_some hgN (show 155 < 210 by decide) e155]) (fun c h => by cases h) (fun _ => trivial) ?_ ⟨z, by exact many_put (HOK.out _) 26 157 _ (by rw [HVL.out]; simp) hL, hph⟩
                   go_simp
                 · skip
                   have y24 : L 24 = true := up_at hu 24 (by kernel_rfl)
                   have y25 : L 25 = true := up_at hu 25 (by kernel_rfl)
                   have y26 : L 26 = true := up_at hu 26 (by kernel_rfl)
                   have e155 : (many gg_ L (VL z))[155]?.getD undef = .bool false := many_eval hgN (HOK.out z).1 (by rw [HVL.out]; simp [lookM, y24])
                   have e156 : (many gg_ L (VL z))[156]?.getD undef = .int .i64 RHI := many_eval hgN (HOK.out z).1 (by rw [HVL.out]; simp [lookM, y25])
                   have e157 : (many gg_ L (VL z))[157]?.getD undef = .int .i64 RHI := many_eval hgN (HOK.out z).1 (by rw [HVL.out]; simp [lookM, y26])
                   refine opIn_run_g (v := .bool false) (w' := w') (j := 24) (b := false) rfl rfl (by simp [yielded, many_some hgN (show 155 < 210 by decide) e155]) (fun c h => by cases h) (fun _ => trivial) ?_ ⟨z, by exact many_put (HOK.out _) 27 158 _ (by rw [HVL.out]; simp) hL, hph⟩
                   go_simp
                 · skip
                   have y24 : L 24 = true := up_at hu 24 (by kernel_rfl)
                   have y27 : L 27 = true := up_at hu 27 (by kernel_rfl)
                   have e155 : (many gg_ L (VL z))[155]?.getD undef = .bool false := many_eval hgN (HOK.out z).1 (by rw [HVL.out]; simp [lookM, y24])
                   have e158 : (many gg_ L (VL z))[158]?.getD undef = .bool false := many_eval hgN (HOK.out z).1 (by rw [HVL.out]; simp [lookM, y27])
                   refine opIn_run (v := .bool false) (w' := w') rfl rfl (fun c h => by cases h) (fun _ => trivial) ?_ ⟨z, by exact many_put (HOK.out _) 28 159 _ (by rw [HVL.out]; simp) hL, hph⟩
                   go_simp
               case fin =>
                 intro L z w' hall hph
                 rw [HVL.out]
                 dsimp only [manyL, List.set_cons_zero, List.set_cons_succ]
                 clear hall HVL HOK HVI
                 have HP := Lib.hid hph
                 clear hph
                 go_wp2_with fail
                 go_meet
                 exact ⟨rfl, HP⟩
             case rest =>
              obtain ⟨rfl, HB3⟩ := hcut
              clear RS2 HL1d HL2d HR2d
              go_wp2_with fail
              obtain ⟨W2, hW2⟩ : ∃ W2, W2 = wc := ⟨wc, rfl⟩
              subst hW2
              have FW : Hid (bm + 1 < W2.heap.size ∧ q10 < W2.heap.size ∧ W2.heap[bm + 1]? = some (.cells #[.int .i64 TX, .int .i64 TY, .int .i64 (LV : Int), .int .i64 (BW : Int), .int .i64 (BH : Int), .int .i64 (PR : Int), .int .i64 ST, .int .i64 OD, .int .i64 (LY : Int), .bool RC, .bool SO, .bool EP] 26 (0, 0)) ∧ W2.heap[q10]? = some (.cells #[.int .i64 z0, .int .i64 z1, .int .i64 z2, .int .i64 z3] 48 (0, 0)) ∧ RcL W2 W2.heap.size (.slice MA bn MC) rb ∧ Below W1.heap.size W1 W2) := Lib.hid (by
                obtain ⟨h1, h2, h3, h4, h5, h6, h7⟩ := FR.out
                have hs := HB3.out.size
                exact ⟨by omega, by omega, (HB3.out.block _ h3).trans h6, (HB3.out.block _ h2).trans h5, HR1d.out.below HB3.out hs, h7.trans (HB3.out.mono h7.size)⟩)
              clear FR HR1d HB3
              have hTm : 0 ≤ CWI * RHI ∧ CWI * RHI ≤ 25 * 25 := ⟨Int.mul_nonneg (by omega) (by omega), Int.mul_le_mul (by omega) (by omega) (by omega) (by omega)⟩
              obtain ⟨T, hT⟩ : ∃ T, CWI * RHI = T := ⟨_, rfl⟩
              rw [hT] at hTm
              have HT := Lib.hid hT
              have HTW : Hid (wrap64 T = T ∧ CWI * RHI = T) := Lib.hid ⟨w64_in (by omega), hT⟩
              clear hT
              go_loopg [19] 40 (fun g v wr => ∃ n : Nat, n + g = 40 ∧ v = .int .i64 (n : Int) ∧ Hid (Below W2.heap.size W2 wr))
              case atStart => exact ⟨0, by omega, rfl, Lib.hid (Below.refl _ _)⟩
              case round =>
               obtain ⟨n, hng, rfl, HBe⟩ := hrel
               obtain ⟨we, hwe⟩ : ∃ we, we = wr := ⟨wr, rfl⟩
               subst hwe
               have hn0 : (0 : Int) ≤ (n : Int) := by omega
               have s1 := HTW.out.1
               have s2 := HTW.out.2
               by_cases hnT : (n : Int) < T
               · by_cases hn40 : n < 40
                 · obtain ⟨g3, rfl⟩ : ∃ g3, gk = g3 + 1 := ⟨gk - 1, by omega⟩
                   have hnI : (n : Int) < 40 := by omega
                   go_wp2_with fail
                   clear s1 s2
                   go_loopg [20] bn (fun g v wr => ∃ e : Nat, e + g = bn ∧ v = .int .i64 (e : Int) ∧ Hid (Below W2.heap.size W2 wr))
                   case atStart => exact ⟨0, by omega, rfl, HBe⟩
                   case round =>
                    obtain ⟨e, heg, rfl, HBg⟩ := hrel
                    obtain ⟨wg, hwg⟩ : ∃ wg, wg = wr := ⟨wr, rfl⟩
                    subst hwg
                    clear HBe
                    by_cases hle : e < bn
                    · obtain ⟨g4, rfl⟩ : ∃ g4, gk = g4 + 1 := ⟨gk - 1, by omega⟩
                      have hel : e < rb.length := by rw [HBO.out.1]; exact hle
                      obtain ⟨⟨b0, b1, b2, b3⟩, hbd⟩ : ∃ b, rb[e] = b := ⟨_, rfl⟩
                      have hbk : RcOk 25 (b0, b1, b2, b3) := HBO.out.2.2 (b0, b1, b2, b3) (by rw [← hbd]; exact List.getElem_mem hel)
                      have hbd2 : rb[e]? = some (b0, b1, b2, b3) := by rw [List.getElem?_eq_getElem hel, hbd]
                      obtain ⟨MA', MC', hMA, hMcell⟩ := FW.out.2.2.2.2.1
                      injection hMA with hMA1 hMA2 hMA3
                      subst hMA1 hMA3
                      obtain ⟨mg, mq, rfl, hmg, y0, y1, y2, y3⟩ := hMcell e _ hbd2
                      have HME : Hid (mg < W2.heap.size ∧ W2.cell? ⟨mg, mq + e * 4, none⟩ = some (.int .i64 b0) ∧ W2.cell? ⟨mg, mq + e * 4 + 1, none⟩ = some (.int .i64 b1) ∧ W2.cell? ⟨mg, mq + e * 4 + 2, none⟩ = some (.int .i64 b2) ∧ W2.cell? ⟨mg, mq + e * 4 + 3, none⟩ = some (.int .i64 b3)) := Lib.hid ⟨hmg, y0, y1, y2, y3⟩
                      obtain ⟨BL, hBL⟩ : ∃ l, (blkF (b0, b1, b2, b3) (z0, z1, z2, z3) PR BW BH r n).1 = l := ⟨_, rfl⟩
                      obtain ⟨bwd, hbwd⟩ : ∃ l, (blkF (b0, b1, b2, b3) (z0, z1, z2, z3) PR BW BH r n).2 = l := ⟨_, rfl⟩
                      have hBLl := blk_len (z := (z0, z1, z2, z3)) PR BW BH r n hbk
                      rw [hBL] at hBLl
                      have c1 : inN (b0, b1, b2, b3) 255 := by obtain ⟨⟨a1, a2, a3, a4⟩, _⟩ := hbk; exact ⟨by omega, by omega, by omega, by omega⟩
                      have c2 : inN (z0, z1, z2, z3) 255 := by obtain ⟨⟨a1, a2, a3, a4⟩, _⟩ := HZK.out; exact ⟨by omega, by omega, by omega, by omega⟩
                      have BK1 := Lib.hid (fun u => blocks_any (b0, b1, b2, b3) (z0, z1, z2, z3) TX TY (LV : Int) ST OD (LY : Int) RC SO EP BW BH PR r n u c1 hbk.2 c2 HZK.out.2 (by omega) (by omega) (by omega) (by omega) (by omega))
                      have BK2 := Lib.hid (fun u => rblocks_any (b0, b1, b2, b3) (z0, z1, z2, z3) TX TY (LV : Int) ST OD (LY : Int) RC SO EP BW BH PR r n u c1 hbk.2 c2 HZK.out.2 (by omega) (by omega) (by omega) (by omega) (by omega))
                      rw [hBL, hbwd] at BK1 BK2
                      obtain ⟨bl, hbl⟩ : ∃ bl, BL.length = bl := ⟨_, rfl⟩
                      rw [hbl] at BK1 BK2 hBLl
                      unfold rA at BK1 BK2
                      simp only at BK1 BK2
                      have HBL := Lib.hid hbl
                      have hleI : (e : Int) < (bn : Int) ∧ (0 : Int) ≤ (e : Int) := by omega
                      clear hel hbd hbk hbd2 hMA2 hMcell hmg y0 y1 y2 y3 hBL hbwd c1 c2 hbl
                      go_upto_region 32 with fail
                      go_cut [21, 22] from 177 to 188 (fun a b wx => ∃ A5 C5, a = .slice A5 bl C5 ∧ b = .int .i64 bwd ∧ Hid (Below W2.heap.size W2 wx ∧ RcL wx wx.heap.size (.slice A5 bl C5) BL))
                      case first =>
                        obtain ⟨VL, hVL⟩ : ∃ VL : Option Addr × Nat → List (Nat × Nat × Value), VL = fun z => [(0, 178, .slice (some ⟨mg, mq, none⟩) bn MC), (1, 179, .int .i64 (e : Int)), (2, 180, .pointer (some ⟨mg, mq + e * 4, none⟩)), (3, 181, .agg #[.int .i64 b0, .int .i64 b1, .int .i64 b2, .int .i64 b3]), (4, 182, .agg #[.int .i64 z0, .int .i64 z1, .int .i64 z2, .int .i64 z3]), (5, 183, .agg #[.int .i64 TX, .int .i64 TY, .int .i64 (LV : Int), .int .i64 (BW : Int), .int .i64 (BH : Int), .int .i64 (PR : Int), .int .i64 ST, .int .i64 OD, .int .i64 (LY : Int), .bool RC, .bool SO, .bool EP]), (6, 184, .int .i64 (r : Int)), (7, 185, .int .i64 (n : Int)), (8, 186, .tuple #[.slice z.1 bl z.2, .int .i64 bwd]), (9, 177, .tuple #[.slice z.1 bl z.2, .int .i64 bwd]), (10, 187, .slice z.1 bl z.2), (11, 188, .int .i64 bwd), (12, 21, .slice z.1 bl z.2), (13, 22, .int .i64 bwd)] := ⟨_, rfl⟩
                        have hok : ∀ z, manyOk 210 (VL z) := fun z => by rw [hVL]; exact ⟨by simp, by simp, by simp⟩
                        have HVL := Lib.hid hVL
                        have hvi : ∀ z, ∀ x ∈ VL z, x.1 < 14 := fun z => by rw [hVL]; simp
                        have HOK := Lib.hid hok
                        have HVI := Lib.hid hvi
                        clear hVL hok hvi
                        refine (wpIn_wide (n := 9)).1 (regionIn_many (N := 210) (w := _) VL (fun L z w' => (bif L 8 then (Below W2.heap.size W2 w' ∧ RcL w' w'.heap.size (.slice z.1 bl z.2) BL) else Below W2.heap.size W2 w')) [(4, .pointer (some ⟨bm + 1, 0, none⟩)), (9, .int .i64 (r : Int)), (10, .pointer (some ⟨q10, 0, none⟩)), (12, .slice (some ⟨mg, mq, none⟩) bn MC), (19, .int .i64 (n : Int)), (20, .int .i64 (e : Int))] (by kernel_rfl) (by kernel_rfl) rfl (by simp only [List.forall_mem_cons, List.not_mem_nil, false_imp_iff, implies_true, and_true]; exact ⟨rfl, rfl, rfl, rfl, rfl, rfl⟩) HVI.out (none, 0) ?start ?step ?fin)
                        case start => exact HBg.out.drew
                        case step =>
                          intro gg_ hgN hgF ii_ hii_ L z w' hph hs hu
                          have hF4 := hgF (4, .pointer (some ⟨bm + 1, 0, none⟩)) (by simp)
                          have hF9 := hgF (9, .int .i64 (r : Int)) (by simp)
                          have hF10 := hgF (10, .pointer (some ⟨q10, 0, none⟩)) (by simp)
                          have hF12 := hgF (12, .slice (some ⟨mg, mq, none⟩) bn MC) (by simp)
                          have hF19 := hgF (19, .int .i64 (n : Int)) (by simp)
                          have hF20 := hgF (20, .int .i64 (e : Int)) (by simp)
                          have hL := hu.1
                          have hii_ : ii_ < 14 := hii_
                          clear hgF
                          obtain rfl | rfl | rfl | rfl | rfl | rfl | rfl | rfl | rfl | rfl | rfl | rfl | rfl | rfl := (by omega : ii_ = 0 ∨ ii_ = 1 ∨ ii_ = 2 ∨ ii_ = 3 ∨ ii_ = 4 ∨ ii_ = 5 ∨ ii_ = 6 ∨ ii_ = 7 ∨ ii_ = 8 ∨ ii_ = 9 ∨ ii_ = 10 ∨ ii_ = 11 ∨ ii_ = 12 ∨ ii_ = 13)
                          · skip
                            have n8 : L 8 = false := not_yet hL fun h => shut_at hs 2 0 (by kernel_rfl) (shut_at hs 3 2 (by kernel_rfl) (shut_at hs 8 3 (by kernel_rfl) (h)))
                            have n9 : L 9 = false := not_yet hL fun h => shut_at hs 2 0 (by kernel_rfl) (shut_at hs 3 2 (by kernel_rfl) (shut_at hs 8 3 (by kernel_rfl) (shut_at hs 9 8 (by kernel_rfl) (h))))
                            have n10 : L 10 = false := not_yet hL fun h => shut_at hs 2 0 (by kernel_rfl) (shut_at hs 3 2 (by kernel_rfl) (shut_at hs 8 3 (by kernel_rfl) (shut_at hs 9 8 (by kernel_rfl) (shut_at hs 10 9 (by kernel_rfl) (h)))))
                            have n12 : L 12 = false := not_yet hL fun h => shut_at hs 12 0 (by kernel_rfl) (h)
                            try simp only [n8, n9, n10, n12, hL, cond_true, cond_false] at hph
                            have e12 : (many gg_ L (VL z))[12]?.getD undef = .slice (some ⟨mg, mq, none⟩) bn MC := many_out hgN (HOK.out z).1 (by rw [HVL.out]; rfl) hF12
                            refine opIn_run (v := .slice (some ⟨mg, mq, none⟩) bn MC) (w' := w') rfl rfl (fun c h => by cases h) (fun _ => trivial) ?_ ⟨z, by exact many_put (HOK.out _) 0 178 _ (by rw [HVL.out]; simp) hL, by simp only [upd, n8, n9, n10, n12, hL, Nat.reduceBEq, cond_true, cond_false]; exact hph⟩
                            go_simp
                          · skip
                            have n8 : L 8 = false := not_yet hL fun h => shut_at hs 2 1 (by kernel_rfl) (shut_at hs 3 2 (by kernel_rfl) (shut_at hs 8 3 (by kernel_rfl) (h)))
                            have n9 : L 9 = false := not_yet hL fun h => shut_at hs 2 1 (by kernel_rfl) (shut_at hs 3 2 (by kernel_rfl) (shut_at hs 8 3 (by kernel_rfl) (shut_at hs 9 8 (by kernel_rfl) (h))))
                            have n10 : L 10 = false := not_yet hL fun h => shut_at hs 2 1 (by kernel_rfl) (shut_at hs 3 2 (by kernel_rfl) (shut_at hs 8 3 (by kernel_rfl) (shut_at hs 9 8 (by kernel_rfl) (shut_at hs 10 9 (by kernel_rfl) (h)))))
                            have n12 : L 12 = false := not_yet hL fun h => shut_at hs 12 1 (by kernel_rfl) (h)
                            try simp only [n8, n9, n10, n12, hL, cond_true, cond_false] at hph
                            have e20 : (many gg_ L (VL z))[20]?.getD undef = .int .i64 (e : Int) := many_out hgN (HOK.out z).1 (by rw [HVL.out]; rfl) hF20
                            refine opIn_run (v := .int .i64 (e : Int)) (w' := w') rfl rfl (fun c h => by cases h) (fun _ => trivial) ?_ ⟨z, by exact many_put (HOK.out _) 1 179 _ (by rw [HVL.out]; simp) hL, by simp only [upd, n8, n9, n10, n12, hL, Nat.reduceBEq, cond_true, cond_false]; exact hph⟩
                            go_simp
                          · skip
                            have y0 : L 0 = true := up_at hu 0 (by kernel_rfl)
                            have y1 : L 1 = true := up_at hu 1 (by kernel_rfl)
                            have n8 : L 8 = false := not_yet hL fun h => shut_at hs 3 2 (by kernel_rfl) (shut_at hs 8 3 (by kernel_rfl) (h))
                            have n9 : L 9 = false := not_yet hL fun h => shut_at hs 3 2 (by kernel_rfl) (shut_at hs 8 3 (by kernel_rfl) (shut_at hs 9 8 (by kernel_rfl) (h)))
                            have n10 : L 10 = false := not_yet hL fun h => shut_at hs 3 2 (by kernel_rfl) (shut_at hs 8 3 (by kernel_rfl) (shut_at hs 9 8 (by kernel_rfl) (shut_at hs 10 9 (by kernel_rfl) (h))))
                            have n12 : L 12 = false := not_yet hL fun h => shut_at hs 12 2 (by kernel_rfl) (h)
                            try simp only [y0, y1, n8, n9, n10, n12, hL, cond_true, cond_false] at hph
                            have e178 : (many gg_ L (VL z))[178]?.getD undef = .slice (some ⟨mg, mq, none⟩) bn MC := many_eval hgN (HOK.out z).1 (by rw [HVL.out]; simp [lookM, y0])
                            have e179 : (many gg_ L (VL z))[179]?.getD undef = .int .i64 (e : Int) := many_eval hgN (HOK.out z).1 (by rw [HVL.out]; simp [lookM, y1])
                            refine opIn_run (v := .pointer (some ⟨mg, mq + e * 4, none⟩)) (w' := w') rfl rfl (fun c h => by cases h) (fun _ => trivial) ?_ ⟨z, by exact many_put (HOK.out _) 2 180 _ (by rw [HVL.out]; simp) hL, by simp only [upd, y0, y1, n8, n9, n10, n12, hL, Nat.reduceBEq, cond_true, cond_false]; exact hph⟩
                            go_simp
                          · skip
                            have y2 : L 2 = true := up_at hu 2 (by kernel_rfl)
                            have n8 : L 8 = false := not_yet hL fun h => shut_at hs 8 3 (by kernel_rfl) (h)
                            have n9 : L 9 = false := not_yet hL fun h => shut_at hs 8 3 (by kernel_rfl) (shut_at hs 9 8 (by kernel_rfl) (h))
                            have n10 : L 10 = false := not_yet hL fun h => shut_at hs 8 3 (by kernel_rfl) (shut_at hs 9 8 (by kernel_rfl) (shut_at hs 10 9 (by kernel_rfl) (h)))
                            have n12 : L 12 = false := not_yet hL fun h => shut_at hs 12 3 (by kernel_rfl) (h)
                            try simp only [y2, n8, n9, n10, n12, hL, cond_true, cond_false] at hph
                            have g0 := (hph.cell (p := ⟨mg, mq + e * 4, none⟩) HME.out.1).trans HME.out.2.1
                            have g1 := (hph.cell (p := ⟨mg, mq + e * 4 + 1, none⟩) HME.out.1).trans HME.out.2.2.1
                            have g2 := (hph.cell (p := ⟨mg, mq + e * 4 + 2, none⟩) HME.out.1).trans HME.out.2.2.2.1
                            have g3 := (hph.cell (p := ⟨mg, mq + e * 4 + 3, none⟩) HME.out.1).trans HME.out.2.2.2.2
                            have e180 : (many gg_ L (VL z))[180]?.getD undef = .pointer (some ⟨mg, mq + e * 4, none⟩) := many_eval hgN (HOK.out z).1 (by rw [HVL.out]; simp [lookM, y2])
                            refine opIn_run (v := .agg #[.int .i64 b0, .int .i64 b1, .int .i64 b2, .int .i64 b3]) (w' := w') rfl rfl (fun c h => by cases h) (fun _ => trivial) ?_ ⟨z, by exact many_put (HOK.out _) 3 181 _ (by rw [HVL.out]; simp) hL, by simp only [upd, y2, n8, n9, n10, n12, hL, Nat.reduceBEq, cond_true, cond_false]; exact hph⟩
                            go_simp
                          · skip
                            have n8 : L 8 = false := not_yet hL fun h => shut_at hs 8 4 (by kernel_rfl) (h)
                            have n9 : L 9 = false := not_yet hL fun h => shut_at hs 8 4 (by kernel_rfl) (shut_at hs 9 8 (by kernel_rfl) (h))
                            have n10 : L 10 = false := not_yet hL fun h => shut_at hs 8 4 (by kernel_rfl) (shut_at hs 9 8 (by kernel_rfl) (shut_at hs 10 9 (by kernel_rfl) (h)))
                            have n12 : L 12 = false := not_yet hL fun h => shut_at hs 12 4 (by kernel_rfl) (h)
                            try simp only [n8, n9, n10, n12, hL, cond_true, cond_false] at hph
                            obtain ⟨v0, v1, v2, v3⟩ := rc_cells ((hph.block _ FW.out.2.1).trans FW.out.2.2.2.1)
                            have e10 : (many gg_ L (VL z))[10]?.getD undef = .pointer (some ⟨q10, 0, none⟩) := many_out hgN (HOK.out z).1 (by rw [HVL.out]; rfl) hF10
                            refine opIn_run (v := .agg #[.int .i64 z0, .int .i64 z1, .int .i64 z2, .int .i64 z3]) (w' := w') rfl rfl (fun c h => by cases h) (fun _ => trivial) ?_ ⟨z, by exact many_put (HOK.out _) 4 182 _ (by rw [HVL.out]; simp) hL, by simp only [upd, n8, n9, n10, n12, hL, Nat.reduceBEq, cond_true, cond_false]; exact hph⟩
                            go_simp
                          · skip
                            have n8 : L 8 = false := not_yet hL fun h => shut_at hs 8 5 (by kernel_rfl) (h)
                            have n9 : L 9 = false := not_yet hL fun h => shut_at hs 8 5 (by kernel_rfl) (shut_at hs 9 8 (by kernel_rfl) (h))
                            have n10 : L 10 = false := not_yet hL fun h => shut_at hs 8 5 (by kernel_rfl) (shut_at hs 9 8 (by kernel_rfl) (shut_at hs 10 9 (by kernel_rfl) (h)))
                            have n12 : L 12 = false := not_yet hL fun h => shut_at hs 12 5 (by kernel_rfl) (h)
                            try simp only [n8, n9, n10, n12, hL, cond_true, cond_false] at hph
                            obtain ⟨j0, j1, j2, j3, j4, j5, j6, j7, j8, j9, j10, j11⟩ := par_cells ((hph.block _ FW.out.1).trans FW.out.2.2.1)
                            have e4 : (many gg_ L (VL z))[4]?.getD undef = .pointer (some ⟨bm + 1, 0, none⟩) := many_out hgN (HOK.out z).1 (by rw [HVL.out]; rfl) hF4
                            refine opIn_run (v := .agg #[.int .i64 TX, .int .i64 TY, .int .i64 (LV : Int), .int .i64 (BW : Int), .int .i64 (BH : Int), .int .i64 (PR : Int), .int .i64 ST, .int .i64 OD, .int .i64 (LY : Int), .bool RC, .bool SO, .bool EP]) (w' := w') rfl rfl (fun c h => by cases h) (fun _ => trivial) ?_ ⟨z, by exact many_put (HOK.out _) 5 183 _ (by rw [HVL.out]; simp) hL, by simp only [upd, n8, n9, n10, n12, hL, Nat.reduceBEq, cond_true, cond_false]; exact hph⟩
                            go_simp
                          · skip
                            have n8 : L 8 = false := not_yet hL fun h => shut_at hs 8 6 (by kernel_rfl) (h)
                            have n9 : L 9 = false := not_yet hL fun h => shut_at hs 8 6 (by kernel_rfl) (shut_at hs 9 8 (by kernel_rfl) (h))
                            have n10 : L 10 = false := not_yet hL fun h => shut_at hs 8 6 (by kernel_rfl) (shut_at hs 9 8 (by kernel_rfl) (shut_at hs 10 9 (by kernel_rfl) (h)))
                            have n12 : L 12 = false := not_yet hL fun h => shut_at hs 12 6 (by kernel_rfl) (h)
                            try simp only [n8, n9, n10, n12, hL, cond_true, cond_false] at hph
                            have e9 : (many gg_ L (VL z))[9]?.getD undef = .int .i64 (r : Int) := many_out hgN (HOK.out z).1 (by rw [HVL.out]; rfl) hF9
                            refine opIn_run (v := .int .i64 (r : Int)) (w' := w') rfl rfl (fun c h => by cases h) (fun _ => trivial) ?_ ⟨z, by exact many_put (HOK.out _) 6 184 _ (by rw [HVL.out]; simp) hL, by simp only [upd, n8, n9, n10, n12, hL, Nat.reduceBEq, cond_true, cond_false]; exact hph⟩
                            go_simp
                          · skip
                            have n8 : L 8 = false := not_yet hL fun h => shut_at hs 8 7 (by kernel_rfl) (h)
                            have n9 : L 9 = false := not_yet hL fun h => shut_at hs 8 7 (by kernel_rfl) (shut_at hs 9 8 (by kernel_rfl) (h))
                            have n10 : L 10 = false := not_yet hL fun h => shut_at hs 8 7 (by kernel_rfl) (shut_at hs 9 8 (by kernel_rfl) (shut_at hs 10 9 (by kernel_rfl) (h)))
                            have n12 : L 12 = false := not_yet hL fun h => shut_at hs 12 7 (by kernel_rfl) (h)
                            try simp only [n8, n9, n10, n12, hL, cond_true, cond_false] at hph
                            have e19 : (many gg_ L (VL z))[19]?.getD undef = .int .i64 (n : Int) := many_out hgN (HOK.out z).1 (by rw [HVL.out]; rfl) hF19
                            refine opIn_run (v := .int .i64 (n : Int)) (w' := w') rfl rfl (fun c h => by cases h) (fun _ => trivial) ?_ ⟨z, by exact many_put (HOK.out _) 7 185 _ (by rw [HVL.out]; simp) hL, by simp only [upd, n8, n9, n10, n12, hL, Nat.reduceBEq, cond_true, cond_false]; exact hph⟩
                            go_simp
                          · skip
                            have y3 : L 3 = true := up_at hu 3 (by kernel_rfl)
                            have y4 : L 4 = true := up_at hu 4 (by kernel_rfl)
                            have y5 : L 5 = true := up_at hu 5 (by kernel_rfl)
                            have y6 : L 6 = true := up_at hu 6 (by kernel_rfl)
                            have y7 : L 7 = true := up_at hu 7 (by kernel_rfl)
                            have n9 : L 9 = false := not_yet hL fun h => shut_at hs 9 8 (by kernel_rfl) (h)
                            have n10 : L 10 = false := not_yet hL fun h => shut_at hs 9 8 (by kernel_rfl) (shut_at hs 10 9 (by kernel_rfl) (h))
                            have n12 : L 12 = false := not_yet hL fun h => shut_at hs 12 8 (by kernel_rfl) (h)
                            try simp only [y3, y4, y5, y6, y7, n9, n10, n12, hL, cond_true, cond_false] at hph
                            have e181 : (many gg_ L (VL z))[181]?.getD undef = .agg #[.int .i64 b0, .int .i64 b1, .int .i64 b2, .int .i64 b3] := many_eval hgN (HOK.out z).1 (by rw [HVL.out]; simp [lookM, y3])
                            have e182 : (many gg_ L (VL z))[182]?.getD undef = .agg #[.int .i64 z0, .int .i64 z1, .int .i64 z2, .int .i64 z3] := many_eval hgN (HOK.out z).1 (by rw [HVL.out]; simp [lookM, y4])
                            have e183 : (many gg_ L (VL z))[183]?.getD undef = .agg #[.int .i64 TX, .int .i64 TY, .int .i64 (LV : Int), .int .i64 (BW : Int), .int .i64 (BH : Int), .int .i64 (PR : Int), .int .i64 ST, .int .i64 OD, .int .i64 (LY : Int), .bool RC, .bool SO, .bool EP] := many_eval hgN (HOK.out z).1 (by rw [HVL.out]; simp [lookM, y5])
                            have e184 : (many gg_ L (VL z))[184]?.getD undef = .int .i64 (r : Int) := many_eval hgN (HOK.out z).1 (by rw [HVL.out]; simp [lookM, y6])
                            have e185 : (many gg_ L (VL z))[185]?.getD undef = .int .i64 (n : Int) := many_eval hgN (HOK.out z).1 (by rw [HVL.out]; simp [lookM, y7])
                            refine opIn_call (f := 30) (args := #[.agg #[.int .i64 b0, .int .i64 b1, .int .i64 b2, .int .i64 b3], .agg #[.int .i64 z0, .int .i64 z1, .int .i64 z2, .int .i64 z3], .agg #[.int .i64 TX, .int .i64 TY, .int .i64 (LV : Int), .int .i64 (BW : Int), .int .i64 (BH : Int), .int .i64 (PR : Int), .int .i64 ST, .int .i64 OD, .int .i64 (LY : Int), .bool RC, .bool SO, .bool EP], .int .i64 (r : Int), .int .i64 (n : Int)]) (w' := w') rfl rfl (fun c h => by cases h) (fun _ => trivial) rfl (by go_simp) ((callsIn_wide.2 (BK1.out w')).mono ?_)
                            rintro e w2 ⟨A5x, C5x, rfl, hrl, hb⟩
                            exact ⟨_, rfl, (A5x, C5x), by rw [show many gg_ L (VL z) = many gg_ L (VL (A5x, C5x)) from by rw [HVL.out]; simp only [many, y3, y4, y5, y6, y7, n9, n10, n12, hL, cond_false, cond_true]]; exact many_put (HOK.out _) 8 186 _ (by rw [HVL.out]; simp) hL, by simp only [upd, y3, y4, y5, y6, y7, n9, n10, n12, hL, Nat.reduceBEq, cond_true, cond_false]; exact ⟨hph.trans (hb.mono hph.size), hrl⟩⟩
                          · skip
                            have y8 : L 8 = true := up_at hu 8 (by kernel_rfl)
                            have n10 : L 10 = false := not_yet hL fun h => shut_at hs 10 9 (by kernel_rfl) (h)
                            have n12 : L 12 = false := not_yet hL fun h => shut_at hs 12 9 (by kernel_rfl) (h)
                            try simp only [y8, n10, n12, hL, cond_true, cond_false] at hph
                            have e186 : (many gg_ L (VL z))[186]?.getD undef = .tuple #[.slice z.1 bl z.2, .int .i64 bwd] := many_eval hgN (HOK.out z).1 (by rw [HVL.out]; simp [lookM, y8])
                            refine opIn_run (v := .tuple #[.slice z.1 bl z.2, .int .i64 bwd]) (w' := w') rfl rfl (fun c h => by cases h) (fun _ => trivial) ?_ ⟨z, by exact many_put (HOK.out _) 9 177 _ (by rw [HVL.out]; simp) hL, by simp only [upd, y8, n10, n12, hL, Nat.reduceBEq, cond_true, cond_false]; exact hph⟩
                            go_simp
                          · skip
                            have y8 : L 8 = true := shut_at hs 9 8 (by kernel_rfl) (up_at hu 9 (by kernel_rfl))
                            have y9 : L 9 = true := up_at hu 9 (by kernel_rfl)
                            have n12 : L 12 = false := not_yet hL fun h => shut_at hs 12 10 (by kernel_rfl) (h)
                            try simp only [y8, y9, n12, hL, cond_true, cond_false] at hph
                            have e177 : (many gg_ L (VL z))[177]?.getD undef = .tuple #[.slice z.1 bl z.2, .int .i64 bwd] := many_eval hgN (HOK.out z).1 (by rw [HVL.out]; simp [lookM, y9])
                            refine opIn_run (v := .slice z.1 bl z.2) (w' := w') rfl rfl (fun c h => by cases h) (fun _ => trivial) ?_ ⟨z, by exact many_put (HOK.out _) 10 187 _ (by rw [HVL.out]; simp) hL, by simp only [upd, y8, y9, n12, hL, Nat.reduceBEq, cond_true, cond_false]; exact hph⟩
                            go_simp
                          · skip
                            have y8 : L 8 = true := shut_at hs 9 8 (by kernel_rfl) (up_at hu 9 (by kernel_rfl))
                            have y9 : L 9 = true := up_at hu 9 (by kernel_rfl)
                            try simp only [y8, y9, hL, cond_true, cond_false] at hph
                            have e177 : (many gg_ L (VL z))[177]?.getD undef = .tuple #[.slice z.1 bl z.2, .int .i64 bwd] := many_eval hgN (HOK.out z).1 (by rw [HVL.out]; simp [lookM, y9])
                            refine opIn_run (v := .int .i64 bwd) (w' := w') rfl rfl (fun c h => by cases h) (fun _ => trivial) ?_ ⟨z, by exact many_put (HOK.out _) 11 188 _ (by rw [HVL.out]; simp) hL, by simp only [upd, y8, y9, hL, Nat.reduceBEq, cond_true, cond_false]; exact hph⟩
                            go_simp
                          · skip
                            have y0 : L 0 = true := up_at hu 0 (by kernel_rfl)
                            have y1 : L 1 = true := up_at hu 1 (by kernel_rfl)
                            have y2 : L 2 = true := up_at hu 2 (by kernel_rfl)
                            have y3 : L 3 = true := up_at hu 3 (by kernel_rfl)
                            have y4 : L 4 = true := up_at hu 4 (by kernel_rfl)
                            have y5 : L 5 = true := up_at hu 5 (by kernel_rfl)
                            have y6 : L 6 = true := up_at hu 6 (by kernel_rfl)
                            have y7 : L 7 = true := up_at hu 7 (by kernel_rfl)
                            have y8 : L 8 = true := up_at hu 8 (by kernel_rfl)
                            have y9 : L 9 = true := up_at hu 9 (by kernel_rfl)
                            have y10 : L 10 = true := up_at hu 10 (by kernel_rfl)
                            try simp only [y0, y1, y2, y3, y4, y5, y6, y7, y8, y9, y10, hL, cond_true, cond_false] at hph
                            have e187 : (many gg_ L (VL z))[187]?.getD undef = .slice z.1 bl z.2 := many_eval hgN (HOK.out z).1 (by rw [HVL.out]; simp [lookM, y10])
                            refine opIn_run (v := .slice z.1 bl z.2) (w' := w') rfl rfl (fun c h => by cases h) (fun _ => trivial) ?_ ⟨z, by exact many_put (HOK.out _) 12 21 _ (by rw [HVL.out]; simp) hL, by simp only [upd, y0, y1, y2, y3, y4, y5, y6, y7, y8, y9, y10, hL, Nat.reduceBEq, cond_true, cond_false]; exact hph⟩
                            go_simp
                          · skip
                            have y0 : L 0 = true := up_at hu 0 (by kernel_rfl)
                            have y1 : L 1 = true := up_at hu 1 (by kernel_rfl)
                            have y2 : L 2 = true := up_at hu 2 (by kernel_rfl)
                            have y3 : L 3 = true := up_at hu 3 (by kernel_rfl)
                            have y4 : L 4 = true := up_at hu 4 (by kernel_rfl)
                            have y5 : L 5 = true := up_at hu 5 (by kernel_rfl)
                            have y6 : L 6 = true := up_at hu 6 (by kernel_rfl)
                            have y7 : L 7 = true := up_at hu 7 (by kernel_rfl)
                            have y8 : L 8 = true := up_at hu 8 (by kernel_rfl)
                            have y9 : L 9 = true := up_at hu 9 (by kernel_rfl)
                            have y10 : L 10 = true := up_at hu 10 (by kernel_rfl)
                            have y11 : L 11 = true := up_at hu 11 (by kernel_rfl)
                            have y12 : L 12 = true := up_at hu 12 (by kernel_rfl)
                            try simp only [y0, y1, y2, y3, y4, y5, y6, y7, y8, y9, y10, y11, y12, hL, cond_true, cond_false] at hph
                            have e188 : (many gg_ L (VL z))[188]?.getD undef = .int .i64 bwd := many_eval hgN (HOK.out z).1 (by rw [HVL.out]; simp [lookM, y11])
                            refine opIn_run (v := .int .i64 bwd) (w' := w') rfl rfl (fun c h => by cases h) (fun _ => trivial) ?_ ⟨z, by exact many_put (HOK.out _) 13 22 _ (by rw [HVL.out]; simp) hL, by simp only [upd, y0, y1, y2, y3, y4, y5, y6, y7, y8, y9, y10, y11, y12, hL, Nat.reduceBEq, cond_true, cond_false]; exact hph⟩
                            go_simp
                        case fin =>
                          intro L z w' hall hph
                          have l8 := hall 8 (by decide)
                          simp only [l8, cond_true] at hph
                          clear l8
                          rw [HVL.out]
                          dsimp only [manyL, List.set_cons_zero, List.set_cons_succ]
                          clear hall HVL HOK HVI
                          have HP := Lib.hid hph
                          clear hph
                          go_wp2_with fail
                          go_meet
                          exact ⟨z.1, z.2, rfl, rfl, HP⟩
                      case rest =>
                       obtain ⟨A5, C5, rfl, rfl, HBh⟩ := hcut
                       clear BK1 HBg
                       go_upto_region 33 with fail
                       go_cut [23, 24] from 189 to 200 (fun a b wx => ∃ A6 C6, a = .slice A6 bl C6 ∧ b = .int .i64 bwd ∧ Hid (Below W2.heap.size W2 wx ∧ RcL wx wx.heap.size (.slice A5 bl C5) BL ∧ RcL wx wx.heap.size (.slice A6 bl C6) BL))
                       case first =>
                         obtain ⟨VL, hVL⟩ : ∃ VL : Option Addr × Nat → List (Nat × Nat × Value), VL = fun z => [(0, 190, .slice (some ⟨mg, mq, none⟩) bn MC), (1, 191, .int .i64 (e : Int)), (2, 192, .pointer (some ⟨mg, mq + e * 4, none⟩)), (3, 193, .agg #[.int .i64 b0, .int .i64 b1, .int .i64 b2, .int .i64 b3]), (4, 194, .agg #[.int .i64 z0, .int .i64 z1, .int .i64 z2, .int .i64 z3]), (5, 195, .agg #[.int .i64 TX, .int .i64 TY, .int .i64 (LV : Int), .int .i64 (BW : Int), .int .i64 (BH : Int), .int .i64 (PR : Int), .int .i64 ST, .int .i64 OD, .int .i64 (LY : Int), .bool RC, .bool SO, .bool EP]), (6, 196, .int .i64 (r : Int)), (7, 197, .int .i64 (n : Int)), (8, 198, .tuple #[.slice z.1 bl z.2, .int .i64 bwd]), (9, 189, .tuple #[.slice z.1 bl z.2, .int .i64 bwd]), (10, 199, .slice z.1 bl z.2), (11, 200, .int .i64 bwd), (12, 23, .slice z.1 bl z.2), (13, 24, .int .i64 bwd)] := ⟨_, rfl⟩
                         have hok : ∀ z, manyOk 210 (VL z) := fun z => by rw [hVL]; exact ⟨by simp, by simp, by simp⟩
                         have HVL := Lib.hid hVL
                         have hvi : ∀ z, ∀ x ∈ VL z, x.1 < 14 := fun z => by rw [hVL]; simp
                         have HOK := Lib.hid hok
                         have HVI := Lib.hid hvi
                         clear hVL hok hvi
                         refine (wpIn_wide (n := 9)).1 (regionIn_many (N := 210) (w := _) VL (fun L z w' => (bif L 8 then (Below W2.heap.size W2 w' ∧ RcL w' w'.heap.size (.slice A5 bl C5) BL ∧ RcL w' w'.heap.size (.slice z.1 bl z.2) BL) else Below W2.heap.size W2 w' ∧ RcL w' w'.heap.size (.slice A5 bl C5) BL)) [(4, .pointer (some ⟨bm + 1, 0, none⟩)), (9, .int .i64 (r : Int)), (10, .pointer (some ⟨q10, 0, none⟩)), (12, .slice (some ⟨mg, mq, none⟩) bn MC), (19, .int .i64 (n : Int)), (20, .int .i64 (e : Int))] (by kernel_rfl) (by kernel_rfl) rfl (by simp only [List.forall_mem_cons, List.not_mem_nil, false_imp_iff, implies_true, and_true]; exact ⟨rfl, rfl, rfl, rfl, rfl, rfl⟩) HVI.out (none, 0) ?start ?step ?fin)
                         case start => exact ⟨HBh.out.1.drew, HBh.out.2.below ((Below.refl _ _).drew) (Nat.le_refl _)⟩
                         case step =>
                           intro gg_ hgN hgF ii_ hii_ L z w' hph hs hu
                           have hF4 := hgF (4, .pointer (some ⟨bm + 1, 0, none⟩)) (by simp)
                           have hF9 := hgF (9, .int .i64 (r : Int)) (by simp)
                           have hF10 := hgF (10, .pointer (some ⟨q10, 0, none⟩)) (by simp)
                           have hF12 := hgF (12, .slice (some ⟨mg, mq, none⟩) bn MC) (by simp)
                           have hF19 := hgF (19, .int .i64 (n : Int)) (by simp)
                           have hF20 := hgF (20, .int .i64 (e : Int)) (by simp)
                           have hL := hu.1
                           have hii_ : ii_ < 14 := hii_
                           clear hgF
                           obtain rfl | rfl | rfl | rfl | rfl | rfl | rfl | rfl | rfl | rfl | rfl | rfl | rfl | rfl := (by omega : ii_ = 0 ∨ ii_ = 1 ∨ ii_ = 2 ∨ ii_ = 3 ∨ ii_ = 4 ∨ ii_ = 5 ∨ ii_ = 6 ∨ ii_ = 7 ∨ ii_ = 8 ∨ ii_ = 9 ∨ ii_ = 10 ∨ ii_ = 11 ∨ ii_ = 12 ∨ ii_ = 13)
                           · skip
                             have n8 : L 8 = false := not_yet hL fun h => shut_at hs 2 0 (by kernel_rfl) (shut_at hs 3 2 (by kernel_rfl) (shut_at hs 8 3 (by kernel_rfl) (h)))
                             have n9 : L 9 = false := not_yet hL fun h => shut_at hs 2 0 (by kernel_rfl) (shut_at hs 3 2 (by kernel_rfl) (shut_at hs 8 3 (by kernel_rfl) (shut_at hs 9 8 (by kernel_rfl) (h))))
                             have n10 : L 10 = false := not_yet hL fun h => shut_at hs 2 0 (by kernel_rfl) (shut_at hs 3 2 (by kernel_rfl) (shut_at hs 8 3 (by kernel_rfl) (shut_at hs 9 8 (by kernel_rfl) (shut_at hs 10 9 (by kernel_rfl) (h)))))
                             have n12 : L 12 = false := not_yet hL fun h => shut_at hs 12 0 (by kernel_rfl) (h)
                             try simp only [n8, n9, n10, n12, hL, cond_true, cond_false] at hph
                             have e12 : (many gg_ L (VL z))[12]?.getD undef = .slice (some ⟨mg, mq, none⟩) bn MC := many_out hgN (HOK.out z).1 (by rw [HVL.out]; rfl) hF12
                             refine opIn_run (v := .slice (some ⟨mg, mq, none⟩) bn MC) (w' := w') rfl rfl (fun c h => by cases h) (fun _ => trivial) ?_ ⟨z, by exact many_put (HOK.out _) 0 190 _ (by rw [HVL.out]; simp) hL, by simp only [upd, n8, n9, n10, n12, hL, Nat.reduceBEq, cond_true, cond_false]; exact hph⟩
                             go_simp
                           · skip
                             have n8 : L 8 = false := not_yet hL fun h => shut_at hs 2 1 (by kernel_rfl) (shut_at hs 3 2 (by kernel_rfl) (shut_at hs 8 3 (by kernel_rfl) (h)))
                             have n9 : L 9 = false := not_yet hL fun h => shut_at hs 2 1 (by kernel_rfl) (shut_at hs 3 2 (by kernel_rfl) (shut_at hs 8 3 (by kernel_rfl) (shut_at hs 9 8 (by kernel_rfl) (h))))
                             have n10 : L 10 = false := not_yet hL fun h => shut_at hs 2 1 (by kernel_rfl) (shut_at hs 3 2 (by kernel_rfl) (shut_at hs 8 3 (by kernel_rfl) (shut_at hs 9 8 (by kernel_rfl) (shut_at hs 10 9 (by kernel_rfl) (h)))))
                             have n12 : L 12 = false := not_yet hL fun h => shut_at hs 12 1 (by kernel_rfl) (h)
                             try simp only [n8, n9, n10, n12, hL, cond_true, cond_false] at hph
                             have e20 : (many gg_ L (VL z))[20]?.getD undef = .int .i64 (e : Int) := many_out hgN (HOK.out z).1 (by rw [HVL.out]; rfl) hF20
                             refine opIn_run (v := .int .i64 (e : Int)) (w' := w') rfl rfl (fun c h => by cases h) (fun _ => trivial) ?_ ⟨z, by exact many_put (HOK.out _) 1 191 _ (by rw [HVL.out]; simp) hL, by simp only [upd, n8, n9, n10, n12, hL, Nat.reduceBEq, cond_true, cond_false]; exact hph⟩
                             go_simp
                           · skip
                             have y0 : L 0 = true := up_at hu 0 (by kernel_rfl)
                             have y1 : L 1 = true := up_at hu 1 (by kernel_rfl)
                             have n8 : L 8 = false := not_yet hL fun h => shut_at hs 3 2 (by kernel_rfl) (shut_at hs 8 3 (by kernel_rfl) (h))
                             have n9 : L 9 = false := not_yet hL fun h => shut_at hs 3 2 (by kernel_rfl) (shut_at hs 8 3 (by kernel_rfl) (shut_at hs 9 8 (by kernel_rfl) (h)))
                             have n10 : L 10 = false := not_yet hL fun h => shut_at hs 3 2 (by kernel_rfl) (shut_at hs 8 3 (by kernel_rfl) (shut_at hs 9 8 (by kernel_rfl) (shut_at hs 10 9 (by kernel_rfl) (h))))
                             have n12 : L 12 = false := not_yet hL fun h => shut_at hs 12 2 (by kernel_rfl) (h)
                             try simp only [y0, y1, n8, n9, n10, n12, hL, cond_true, cond_false] at hph
                             have e190 : (many gg_ L (VL z))[190]?.getD undef = .slice (some ⟨mg, mq, none⟩) bn MC := many_eval hgN (HOK.out z).1 (by rw [HVL.out]; simp [lookM, y0])
                             have e191 : (many gg_ L (VL z))[191]?.getD undef = .int .i64 (e : Int) := many_eval hgN (HOK.out z).1 (by rw [HVL.out]; simp [lookM, y1])
                             refine opIn_run (v := .pointer (some ⟨mg, mq + e * 4, none⟩)) (w' := w') rfl rfl (fun c h => by cases h) (fun _ => trivial) ?_ ⟨z, by exact many_put (HOK.out _) 2 192 _ (by rw [HVL.out]; simp) hL, by simp only [upd, y0, y1, n8, n9, n10, n12, hL, Nat.reduceBEq, cond_true, cond_false]; exact hph⟩
                             go_simp
                           · skip
                             have y2 : L 2 = true := up_at hu 2 (by kernel_rfl)
                             have n8 : L 8 = false := not_yet hL fun h => shut_at hs 8 3 (by kernel_rfl) (h)
                             have n9 : L 9 = false := not_yet hL fun h => shut_at hs 8 3 (by kernel_rfl) (shut_at hs 9 8 (by kernel_rfl) (h))
                             have n10 : L 10 = false := not_yet hL fun h => shut_at hs 8 3 (by kernel_rfl) (shut_at hs 9 8 (by kernel_rfl) (shut_at hs 10 9 (by kernel_rfl) (h)))
                             have n12 : L 12 = false := not_yet hL fun h => shut_at hs 12 3 (by kernel_rfl) (h)
                             try simp only [y2, n8, n9, n10, n12, hL, cond_true, cond_false] at hph
                             have g0 := (hph.1.cell (p := ⟨mg, mq + e * 4, none⟩) HME.out.1).trans HME.out.2.1
                             have g1 := (hph.1.cell (p := ⟨mg, mq + e * 4 + 1, none⟩) HME.out.1).trans HME.out.2.2.1
                             have g2 := (hph.1.cell (p := ⟨mg, mq + e * 4 + 2, none⟩) HME.out.1).trans HME.out.2.2.2.1
                             have g3 := (hph.1.cell (p := ⟨mg, mq + e * 4 + 3, none⟩) HME.out.1).trans HME.out.2.2.2.2
                             have e192 : (many gg_ L (VL z))[192]?.getD undef = .pointer (some ⟨mg, mq + e * 4, none⟩) := many_eval hgN (HOK.out z).1 (by rw [HVL.out]; simp [lookM, y2])
                             refine opIn_run (v := .agg #[.int .i64 b0, .int .i64 b1, .int .i64 b2, .int .i64 b3]) (w' := w') rfl rfl (fun c h => by cases h) (fun _ => trivial) ?_ ⟨z, by exact many_put (HOK.out _) 3 193 _ (by rw [HVL.out]; simp) hL, by simp only [upd, y2, n8, n9, n10, n12, hL, Nat.reduceBEq, cond_true, cond_false]; exact hph⟩
                             go_simp
                           · skip
                             have n8 : L 8 = false := not_yet hL fun h => shut_at hs 8 4 (by kernel_rfl) (h)
                             have n9 : L 9 = false := not_yet hL fun h => shut_at hs 8 4 (by kernel_rfl) (shut_at hs 9 8 (by kernel_rfl) (h))
                             have n10 : L 10 = false := not_yet hL fun h => shut_at hs 8 4 (by kernel_rfl) (shut_at hs 9 8 (by kernel_rfl) (shut_at hs 10 9 (by kernel_rfl) (h)))
                             have n12 : L 12 = false := not_yet hL fun h => shut_at hs 12 4 (by kernel_rfl) (h)
                             try simp only [n8, n9, n10, n12, hL, cond_true, cond_false] at hph
                             obtain ⟨v0, v1, v2, v3⟩ := rc_cells ((hph.1.block _ FW.out.2.1).trans FW.out.2.2.2.1)
                             have e10 : (many gg_ L (VL z))[10]?.getD undef = .pointer (some ⟨q10, 0, none⟩) := many_out hgN (HOK.out z).1 (by rw [HVL.out]; rfl) hF10
                             refine opIn_run (v := .agg #[.int .i64 z0, .int .i64 z1, .int .i64 z2, .int .i64 z3]) (w' := w') rfl rfl (fun c h => by cases h) (fun _ => trivial) ?_ ⟨z, by exact many_put (HOK.out _) 4 194 _ (by rw [HVL.out]; simp) hL, by simp only [upd, n8, n9, n10, n12, hL, Nat.reduceBEq, cond_true, cond_false]; exact hph⟩
                             go_simp
                           · skip
                             have n8 : L 8 = false := not_yet hL fun h => shut_at hs 8 5 (by kernel_rfl) (h)
                             have n9 : L 9 = false := not_yet hL fun h => shut_at hs 8 5 (by kernel_rfl) (shut_at hs 9 8 (by kernel_rfl) (h))
                             have n10 : L 10 = false := not_yet hL fun h => shut_at hs 8 5 (by kernel_rfl) (shut_at hs 9 8 (by kernel_rfl) (shut_at hs 10 9 (by kernel_rfl) (h)))
                             have n12 : L 12 = false := not_yet hL fun h => shut_at hs 12 5 (by kernel_rfl) (h)
                             try simp only [n8, n9, n10, n12, hL, cond_true, cond_false] at hph
                             obtain ⟨j0, j1, j2, j3, j4, j5, j6, j7, j8, j9, j10, j11⟩ := par_cells ((hph.1.block _ FW.out.1).trans FW.out.2.2.1)
                             have e4 : (many gg_ L (VL z))[4]?.getD undef = .pointer (some ⟨bm + 1, 0, none⟩) := many_out hgN (HOK.out z).1 (by rw [HVL.out]; rfl) hF4
                             refine opIn_run (v := .agg #[.int .i64 TX, .int .i64 TY, .int .i64 (LV : Int), .int .i64 (BW : Int), .int .i64 (BH : Int), .int .i64 (PR : Int), .int .i64 ST, .int .i64 OD, .int .i64 (LY : Int), .bool RC, .bool SO, .bool EP]) (w' := w') rfl rfl (fun c h => by cases h) (fun _ => trivial) ?_ ⟨z, by exact many_put (HOK.out _) 5 195 _ (by rw [HVL.out]; simp) hL, by simp only [upd, n8, n9, n10, n12, hL, Nat.reduceBEq, cond_true, cond_false]; exact hph⟩
                             go_simp
                           · skip
                             have n8 : L 8 = false := not_yet hL fun h => shut_at hs 8 6 (by kernel_rfl) (h)
                             have n9 : L 9 = false := not_yet hL fun h => shut_at hs 8 6 (by kernel_rfl) (shut_at hs 9 8 (by kernel_rfl) (h))
                             have n10 : L 10 = false := not_yet hL fun h => shut_at hs 8 6 (by kernel_rfl) (shut_at hs 9 8 (by kernel_rfl) (shut_at hs 10 9 (by kernel_rfl) (h)))
                             have n12 : L 12 = false := not_yet hL fun h => shut_at hs 12 6 (by kernel_rfl) (h)
                             try simp only [n8, n9, n10, n12, hL, cond_true, cond_false] at hph
                             have e9 : (many gg_ L (VL z))[9]?.getD undef = .int .i64 (r : Int) := many_out hgN (HOK.out z).1 (by rw [HVL.out]; rfl) hF9
                             refine opIn_run (v := .int .i64 (r : Int)) (w' := w') rfl rfl (fun c h => by cases h) (fun _ => trivial) ?_ ⟨z, by exact many_put (HOK.out _) 6 196 _ (by rw [HVL.out]; simp) hL, by simp only [upd, n8, n9, n10, n12, hL, Nat.reduceBEq, cond_true, cond_false]; exact hph⟩
                             go_simp
                           · skip
                             have n8 : L 8 = false := not_yet hL fun h => shut_at hs 8 7 (by kernel_rfl) (h)
                             have n9 : L 9 = false := not_yet hL fun h => shut_at hs 8 7 (by kernel_rfl) (shut_at hs 9 8 (by kernel_rfl) (h))
                             have n10 : L 10 = false := not_yet hL fun h => shut_at hs 8 7 (by kernel_rfl) (shut_at hs 9 8 (by kernel_rfl) (shut_at hs 10 9 (by kernel_rfl) (h)))
                             have n12 : L 12 = false := not_yet hL fun h => shut_at hs 12 7 (by kernel_rfl) (h)
                             try simp only [n8, n9, n10, n12, hL, cond_true, cond_false] at hph
                             have e19 : (many gg_ L (VL z))[19]?.getD undef = .int .i64 (n : Int) := many_out hgN (HOK.out z).1 (by rw [HVL.out]; rfl) hF19
                             refine opIn_run (v := .int .i64 (n : Int)) (w' := w') rfl rfl (fun c h => by cases h) (fun _ => trivial) ?_ ⟨z, by exact many_put (HOK.out _) 7 197 _ (by rw [HVL.out]; simp) hL, by simp only [upd, n8, n9, n10, n12, hL, Nat.reduceBEq, cond_true, cond_false]; exact hph⟩
                             go_simp
                           · skip
                             have y3 : L 3 = true := up_at hu 3 (by kernel_rfl)
                             have y4 : L 4 = true := up_at hu 4 (by kernel_rfl)
                             have y5 : L 5 = true := up_at hu 5 (by kernel_rfl)
                             have y6 : L 6 = true := up_at hu 6 (by kernel_rfl)
                             have y7 : L 7 = true := up_at hu 7 (by kernel_rfl)
                             have n9 : L 9 = false := not_yet hL fun h => shut_at hs 9 8 (by kernel_rfl) (h)
                             have n10 : L 10 = false := not_yet hL fun h => shut_at hs 9 8 (by kernel_rfl) (shut_at hs 10 9 (by kernel_rfl) (h))
                             have n12 : L 12 = false := not_yet hL fun h => shut_at hs 12 8 (by kernel_rfl) (h)
                             try simp only [y3, y4, y5, y6, y7, n9, n10, n12, hL, cond_true, cond_false] at hph
                             have e193 : (many gg_ L (VL z))[193]?.getD undef = .agg #[.int .i64 b0, .int .i64 b1, .int .i64 b2, .int .i64 b3] := many_eval hgN (HOK.out z).1 (by rw [HVL.out]; simp [lookM, y3])
                             have e194 : (many gg_ L (VL z))[194]?.getD undef = .agg #[.int .i64 z0, .int .i64 z1, .int .i64 z2, .int .i64 z3] := many_eval hgN (HOK.out z).1 (by rw [HVL.out]; simp [lookM, y4])
                             have e195 : (many gg_ L (VL z))[195]?.getD undef = .agg #[.int .i64 TX, .int .i64 TY, .int .i64 (LV : Int), .int .i64 (BW : Int), .int .i64 (BH : Int), .int .i64 (PR : Int), .int .i64 ST, .int .i64 OD, .int .i64 (LY : Int), .bool RC, .bool SO, .bool EP] := many_eval hgN (HOK.out z).1 (by rw [HVL.out]; simp [lookM, y5])
                             have e196 : (many gg_ L (VL z))[196]?.getD undef = .int .i64 (r : Int) := many_eval hgN (HOK.out z).1 (by rw [HVL.out]; simp [lookM, y6])
                             have e197 : (many gg_ L (VL z))[197]?.getD undef = .int .i64 (n : Int) := many_eval hgN (HOK.out z).1 (by rw [HVL.out]; simp [lookM, y7])
                             refine opIn_call (f := 31) (args := #[.agg #[.int .i64 b0, .int .i64 b1, .int .i64 b2, .int .i64 b3], .agg #[.int .i64 z0, .int .i64 z1, .int .i64 z2, .int .i64 z3], .agg #[.int .i64 TX, .int .i64 TY, .int .i64 (LV : Int), .int .i64 (BW : Int), .int .i64 (BH : Int), .int .i64 (PR : Int), .int .i64 ST, .int .i64 OD, .int .i64 (LY : Int), .bool RC, .bool SO, .bool EP], .int .i64 (r : Int), .int .i64 (n : Int)]) (w' := w') rfl rfl (fun c h => by cases h) (fun _ => trivial) rfl (by go_simp) ((callsIn_wide.2 (BK2.out w')).mono ?_)
                             rintro e w2 ⟨A5x, C5x, rfl, hrl, hb⟩
                             exact ⟨_, rfl, (A5x, C5x), by rw [show many gg_ L (VL z) = many gg_ L (VL (A5x, C5x)) from by rw [HVL.out]; simp only [many, y3, y4, y5, y6, y7, n9, n10, n12, hL, cond_false, cond_true]]; exact many_put (HOK.out _) 8 198 _ (by rw [HVL.out]; simp) hL, by simp only [upd, y3, y4, y5, y6, y7, n9, n10, n12, hL, Nat.reduceBEq, cond_true, cond_false]; exact ⟨hph.1.trans (hb.mono hph.1.size), hph.2.below hb hb.size, hrl⟩⟩
                           · skip
                             have y8 : L 8 = true := up_at hu 8 (by kernel_rfl)
                             have n10 : L 10 = false := not_yet hL fun h => shut_at hs 10 9 (by kernel_rfl) (h)
                             have n12 : L 12 = false := not_yet hL fun h => shut_at hs 12 9 (by kernel_rfl) (h)
                             try simp only [y8, n10, n12, hL, cond_true, cond_false] at hph
                             have e198 : (many gg_ L (VL z))[198]?.getD undef = .tuple #[.slice z.1 bl z.2, .int .i64 bwd] := many_eval hgN (HOK.out z).1 (by rw [HVL.out]; simp [lookM, y8])
                             refine opIn_run (v := .tuple #[.slice z.1 bl z.2, .int .i64 bwd]) (w' := w') rfl rfl (fun c h => by cases h) (fun _ => trivial) ?_ ⟨z, by exact many_put (HOK.out _) 9 189 _ (by rw [HVL.out]; simp) hL, by simp only [upd, y8, n10, n12, hL, Nat.reduceBEq, cond_true, cond_false]; exact hph⟩
                             go_simp
                           · skip
                             have y8 : L 8 = true := shut_at hs 9 8 (by kernel_rfl) (up_at hu 9 (by kernel_rfl))
                             have y9 : L 9 = true := up_at hu 9 (by kernel_rfl)
                             have n12 : L 12 = false := not_yet hL fun h => shut_at hs 12 10 (by kernel_rfl) (h)
                             try simp only [y8, y9, n12, hL, cond_true, cond_false] at hph
                             have e189 : (many gg_ L (VL z))[189]?.getD undef = .tuple #[.slice z.1 bl z.2, .int .i64 bwd] := many_eval hgN (HOK.out z).1 (by rw [HVL.out]; simp [lookM, y9])
                             refine opIn_run (v := .slice z.1 bl z.2) (w' := w') rfl rfl (fun c h => by cases h) (fun _ => trivial) ?_ ⟨z, by exact many_put (HOK.out _) 10 199 _ (by rw [HVL.out]; simp) hL, by simp only [upd, y8, y9, n12, hL, Nat.reduceBEq, cond_true, cond_false]; exact hph⟩
                             go_simp
                           · skip
                             have y8 : L 8 = true := shut_at hs 9 8 (by kernel_rfl) (up_at hu 9 (by kernel_rfl))
                             have y9 : L 9 = true := up_at hu 9 (by kernel_rfl)
                             try simp only [y8, y9, hL, cond_true, cond_false] at hph
                             have e189 : (many gg_ L (VL z))[189]?.getD undef = .tuple #[.slice z.1 bl z.2, .int .i64 bwd] := many_eval hgN (HOK.out z).1 (by rw [HVL.out]; simp [lookM, y9])
                             refine opIn_run (v := .int .i64 bwd) (w' := w') rfl rfl (fun c h => by cases h) (fun _ => trivial) ?_ ⟨z, by exact many_put (HOK.out _) 11 200 _ (by rw [HVL.out]; simp) hL, by simp only [upd, y8, y9, hL, Nat.reduceBEq, cond_true, cond_false]; exact hph⟩
                             go_simp
                           · skip
                             have y0 : L 0 = true := up_at hu 0 (by kernel_rfl)
                             have y1 : L 1 = true := up_at hu 1 (by kernel_rfl)
                             have y2 : L 2 = true := up_at hu 2 (by kernel_rfl)
                             have y3 : L 3 = true := up_at hu 3 (by kernel_rfl)
                             have y4 : L 4 = true := up_at hu 4 (by kernel_rfl)
                             have y5 : L 5 = true := up_at hu 5 (by kernel_rfl)
                             have y6 : L 6 = true := up_at hu 6 (by kernel_rfl)
                             have y7 : L 7 = true := up_at hu 7 (by kernel_rfl)
                             have y8 : L 8 = true := up_at hu 8 (by kernel_rfl)
                             have y9 : L 9 = true := up_at hu 9 (by kernel_rfl)
                             have y10 : L 10 = true := up_at hu 10 (by kernel_rfl)
                             try simp only [y0, y1, y2, y3, y4, y5, y6, y7, y8, y9, y10, hL, cond_true, cond_false] at hph
                             have e199 : (many gg_ L (VL z))[199]?.getD undef = .slice z.1 bl z.2 := many_eval hgN (HOK.out z).1 (by rw [HVL.out]; simp [lookM, y10])
                             refine opIn_run (v := .slice z.1 bl z.2) (w' := w') rfl rfl (fun c h => by cases h) (fun _ => trivial) ?_ ⟨z, by exact many_put (HOK.out _) 12 23 _ (by rw [HVL.out]; simp) hL, by simp only [upd, y0, y1, y2, y3, y4, y5, y6, y7, y8, y9, y10, hL, Nat.reduceBEq, cond_true, cond_false]; exact hph⟩
                             go_simp
                           · skip
                             have y0 : L 0 = true := up_at hu 0 (by kernel_rfl)
                             have y1 : L 1 = true := up_at hu 1 (by kernel_rfl)
                             have y2 : L 2 = true := up_at hu 2 (by kernel_rfl)
                             have y3 : L 3 = true := up_at hu 3 (by kernel_rfl)
                             have y4 : L 4 = true := up_at hu 4 (by kernel_rfl)
                             have y5 : L 5 = true := up_at hu 5 (by kernel_rfl)
                             have y6 : L 6 = true := up_at hu 6 (by kernel_rfl)
                             have y7 : L 7 = true := up_at hu 7 (by kernel_rfl)
                             have y8 : L 8 = true := up_at hu 8 (by kernel_rfl)
                             have y9 : L 9 = true := up_at hu 9 (by kernel_rfl)
                             have y10 : L 10 = true := up_at hu 10 (by kernel_rfl)
                             have y11 : L 11 = true := up_at hu 11 (by kernel_rfl)
                             have y12 : L 12 = true := up_at hu 12 (by kernel_rfl)
                             try simp only [y0, y1, y2, y3, y4, y5, y6, y7, y8, y9, y10, y11, y12, hL, cond_true, cond_false] at hph
                             have e200 : (many gg_ L (VL z))[200]?.getD undef = .int .i64 bwd := many_eval hgN (HOK.out z).1 (by rw [HVL.out]; simp [lookM, y11])
                             refine opIn_run (v := .int .i64 bwd) (w' := w') rfl rfl (fun c h => by cases h) (fun _ => trivial) ?_ ⟨z, by exact many_put (HOK.out _) 13 24 _ (by rw [HVL.out]; simp) hL, by simp only [upd, y0, y1, y2, y3, y4, y5, y6, y7, y8, y9, y10, y11, y12, hL, Nat.reduceBEq, cond_true, cond_false]; exact hph⟩
                             go_simp
                         case fin =>
                           intro L z w' hall hph
                           have l8 := hall 8 (by decide)
                           simp only [l8, cond_true] at hph
                           clear l8
                           rw [HVL.out]
                           dsimp only [manyL, List.set_cons_zero, List.set_cons_succ]
                           clear hall HVL HOK HVI
                           have HP := Lib.hid hph
                           clear hph
                           go_wp2_with fail
                           go_meet
                           exact ⟨z.1, z.2, rfl, rfl, HP⟩
                       case rest =>
                        obtain ⟨A6, C6, rfl, rfl, HBi⟩ := hcut
                        have RCX := Lib.hid (rects_any HBi.out.2.1 HBi.out.2.2 (by rw [HBL.out]; omega))
                        clear BK2 HBh HME
                        go_wp2_with fail
                        refine RCX.out.mono ?_
                        rintro e2 w6 ⟨rfl, hb⟩
                        have HBj := Lib.hid (HBi.out.1.trans (hb.mono HBi.out.1.size))
                        clear hb RCX HBi
                        go_wp2
                        go_roundg g4
                        case measure => omega
                        case rel => exact ⟨e + 1, by omega, by go_num, HBj⟩
                    · obtain rfl : e = bn := by omega
                      have hle2 : ¬ (e : Int) < (e : Int) := by omega
                      go_wp2
                      go_roundg g3
                      case measure => omega
                      case rel => exact ⟨n + 1, by omega, by go_num, HBg⟩
                 · have hnI : ¬ (n : Int) < 40 := by omega
                   have HBk : Hid (Below W1.heap.size W1 we) := Lib.hid (FW.out.2.2.2.2.2.trans (HBe.out.mono FW.out.2.2.2.2.2.size))
                   go_wp2
                   go_roundg g2
                   case measure => omega
                   case rel => exact ⟨r + 1, by omega, by go_num, HBk⟩
               · have HBk : Hid (Below W1.heap.size W1 we) := Lib.hid (FW.out.2.2.2.2.2.trans (HBe.out.mono FW.out.2.2.2.2.2.size))
                 go_wp2
                 go_roundg g2
                 case measure => omega
                 case rel => exact ⟨r + 1, by omega, by go_num, HBk⟩
           · have hlrI : ¬ (r : Int) ≤ (LV : Int) := by omega
             have HBk : Hid (Below W0.heap.size W0 wd4) := Lib.hid (HB1.out.1.trans (HBc.out.mono HB1.out.1.size))
             go_wp2
             go_roundg g1
             case measure => omega
             case rel => exact ⟨c + 1, by omega, by go_num, HBk⟩
      · obtain rfl : c = N := by omega
        have hlcI : ¬ (c : Int) < (c : Int) := by omega
        go_wp2
        go_roundg g0
        case measure => omega
        case rel => exact ⟨i + 1, by omega, by go_num, HBb⟩
   · obtain rfl : i = tn := by omega
     have hlcI : ¬ (i : Int) < (i : Int) := by omega
     have HBk : Hid (Below B0 w wa) := Lib.hid (HB2.out.trans ((HM0.out.bel.mono (by have := HBM.out; have := HB2.out.size; have := HBE.out; omega)).trans (HBa.out.mono (by have := HBM.out; have := HB2.out.size; have := HBE.out; have := HM0.out.bel.size; omega))))
     go_wp2
     go_ret
     exact ⟨rfl, by rw [HBE.out]; exact HBk.out⟩
end Go.Proofs.Ythcpmonahmogaaa
