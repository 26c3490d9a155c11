/- Packets in order: OrderCounts walked. -/
import Derived.Test.YtejoedanhonpkaaOrL0
import Derived.Test.YtejoedanhonpkaaOrX1
import Derived.Test.YtejoedanhonpkaaReg3
set_option linter.unusedVariables false
set_option linter.unusedSimpArgs false
namespace Go.Proofs.Ytejoedanhonpkaa
open Go.RowKit
set_option maxRecDepth 100000
set_option maxHeartbeats 16000000 in
theorem walk_orderCounts (f : FN) (A0 : Option Addr) (len0 cap0 : Nat) (z0 : List Int) (a1 : Int) (w : World) (w0 : IsRow .i64 w A0 len0 cap0 z0) (s0 : -9223372036854775808 ≤ f.sb ∧ f.sb ≤ 9223372036854775807) (w1 : (Lit.int .i64 a1).wf = true) :
    Calls Try.prog 7 #[.agg (f.arr A0 len0 cap0), .int .i64 a1] w fun e w' => e = .returned (.bool true) ∧ Below w.heap.size w w' := by
  have MK := Lib.hid (fun u hu => make_any f A0 len0 cap0 z0 14 u (by omega) hu s0)
  obtain ⟨fc, hfc⟩ : ∃ fc, f.arr A0 len0 cap0 = fc := ⟨_, rfl⟩
  have hfs : fc.size = 21 := by rw [← hfc]; rfl
  rw [hfc] at MK ⊢
  have HFS := Lib.hid hfs
  clear hfc hfs
  have HOK := mkPN_ok f 14 (by omega)
  obtain ⟨M, hM⟩ : ∃ M, mkPN f 14 = M := ⟨_, rfl⟩
  obtain ⟨N, hN⟩ : ∃ N, mkN f = N := ⟨_, rfl⟩
  have hNb : 1 ≤ N ∧ N ≤ 4 := by
    have := within_rng f.nc 4 (by omega)
    rw [← hN]
    unfold mkN
    omega
  obtain ⟨DP, hDP⟩ : ∃ D, mkDP f = D := ⟨_, rfl⟩
  have hDPb : 1 ≤ DP ∧ DP ≤ 10 := by
    have := within_rng f.dp 10 (by omega)
    rw [← hDP]
    unfold mkDP
    omega
  rw [hM, hN, hDP] at MK
  rw [hM] at HOK
  clear hM hN hDP
  obtain ⟨X, Y, OX, OY, TX, TY, LV, BW, BH, PR, ST, OD, LY, RC, SO, EP⟩ := M
  obtain ⟨o1, o2, o3, o4, o5, o6, o7, o8, o9, o10, o11, o12, o13⟩ := HOK
  simp only at o1 o2 o3 o4 o5 o6 o7 o8 o9 o10 o11 o12 o13
  clear w1
  obtain ⟨o, ho⟩ : ∃ o : Nat, a1 % 5 = (o : Int) := ⟨(a1 % 5).toNat, by omega⟩
  have ho5 : o < 5 := by omega
  have HO := Lib.hid ho
  clear ho
  go_enter Try.func7, Try.ntmps7
  go_wp2_with fail
  obtain ⟨B0, hB0⟩ : ∃ B, w.heap.size = B := ⟨_, rfl⟩
  obtain ⟨Wf, hWf⟩ : ∃ Wf, w.alloc (Obj.cells fc 24) = Wf := ⟨_, rfl⟩
  have HF0 : Hid (MkW w B0 [(fc, 24)] Wf) := Lib.hid (by
    have h0 : MkW w B0 [] w := ⟨fun i c e => by simp at e, Below.refl _ _, by simp; omega⟩
    have h1 := h0.more (by simp; omega) fc 24
    rw [← hWf]; exact h1)
  rw [hWf, hB0]
  have HBE := Lib.hid hB0
  clear hWf hB0
  refine (known16 _).mono ?_
  rintro e w1 ⟨rfl, hb⟩
  have HF1 := Lib.hid (HF0.out.keep hb)
  clear hb HF0
  have MK1 := MK.out w1 (IsRow.below w0 (by rw [HBE.out]; exact HF1.out.bel))
  go_wp2_with (refine wpList_load_row rfl 24 _ rfl B0 rfl 24 fc (0, 0) _ (show w1.heap[B0]? = _ from HF1.out.b 0 _ rfl) Try.underlying24 rfl (by rw [HFS.out]; kernel_rfl) ?_)
  refine MK1.mono ?_
  rintro e w2 ⟨A2, C2, cs, rfl, hcl, hCR, hKY, hb, hfx⟩
  try simp only at hfx
  try simp only at hKY
  have HB2 : Hid (Below B0 w w2) := Lib.hid (HF1.out.bel.trans (hb.mono (by have := HF1.out.sz; simp at this; omega)))
  have HCR : Hid (CRow B0 w2 (.slice A2 N C2) cs) := Lib.hid (by
    have h1 := HF1.out.sz
    simp at h1
    exact ⟨own_low hCR.own (by omega), fun c hc => (hCR.dat c hc).low (by omega)⟩)
  have HKY : Hid (∀ (i : Nat) (c : Cp), cs[i]? = some c → (1 ≤ c.dx ∧ c.dx ≤ 4) ∧ (1 ≤ c.dy ∧ c.dy ≤ 4)) := Lib.hid (fun i c hc => by have h1 := hKY i c hc; have h2 := cpK_bd (sb := f.sb) (DP := DP) i hDPb; obtain ⟨_, _, h3, h4, _⟩ := h1; rw [h3, h4]; omega)
  have HCL := Lib.hid hcl
  obtain ⟨hTX, hTY, hCT⟩ := hfx
  obtain ⟨rs, hrs1, hrs2, TLx⟩ := tilesO X Y OX OY TX TY A2 N C2 (by omega) (by omega) (by omega) (by omega) hCT
  have HRS := Lib.hid hrs2
  have TL := Lib.hid TLx
  clear MK MK1 hb hCR hKY hcl hCT HF1 w0 s0 hrs2 TLx
  go_wp2_with fail
  obtain ⟨bm, hbm⟩ : ∃ bm, w2.heap.size = bm := ⟨_, rfl⟩
  obtain ⟨W3, hW3⟩ : ∃ W3, (w2.alloc (Obj.cells #[.int .i64 X, .int .i64 Y, .int .i64 OX, .int .i64 OY, .slice A2 N C2] 28)).alloc (Obj.cells #[.int .i64 TX, .int .i64 TY, .int .i64 (LV : Int), .int .i64 (BW : Int), .int .i64 (BH : Int), .int .i64 (PR : Int), .int .i64 ST, .int .i64 OD, .int .i64 (LY : Int), .bool RC, .bool SO, .bool EP] 30) = W3 := ⟨_, rfl⟩
  have HM3 : Hid (MkW w2 bm [(#[.int .i64 X, .int .i64 Y, .int .i64 OX, .int .i64 OY, .slice A2 N C2], 28), (#[.int .i64 TX, .int .i64 TY, .int .i64 (LV : Int), .int .i64 (BW : Int), .int .i64 (BH : Int), .int .i64 (PR : Int), .int .i64 ST, .int .i64 OD, .int .i64 (LY : Int), .bool RC, .bool SO, .bool EP], 30)] W3) := Lib.hid (by
    have h0 : MkW w2 bm [] w2 := ⟨fun i c e => by simp at e, Below.refl _ _, by simp; omega⟩
    have h1 := (h0.more (by simp; omega) #[.int .i64 X, .int .i64 Y, .int .i64 OX, .int .i64 OY, .slice A2 N C2] 28).more (by simp; omega) #[.int .i64 TX, .int .i64 TY, .int .i64 (LV : Int), .int .i64 (BW : Int), .int .i64 (BH : Int), .int .i64 (PR : Int), .int .i64 ST, .int .i64 OD, .int .i64 (LY : Int), .bool RC, .bool SO, .bool EP] 30
    rw [← hW3]; exact h1)
  rw [hW3, hbm]
  have HBM := Lib.hid hbm
  clear hW3 hbm
  refine (within16 a1 5 _ (by omega) (by omega)).mono ?_
  rintro e w4 ⟨rfl, rfl⟩
  rw [HO.out]
  have c7 : W3.cell? ⟨bm + 1, 7, none⟩ = some (.int .i64 OD) := blk_cell (HM3.out.b 1 _ rfl) 7
  have z7 : W3.frozen? ⟨bm + 1, 7, none⟩ = false := HM3.out.fro (i := 1) rfl 7
  obtain ⟨W4a, hW4a⟩ : ∃ X, World.setCell W3 { block := bm + 1, off := 7 } (.int .i64 (o : Int)) = X := ⟨_, rfl⟩
  have HW4a : MkW w2 bm [(#[.int .i64 X, .int .i64 Y, .int .i64 OX, .int .i64 OY, .slice A2 N C2], 28), (#[.int .i64 TX, .int .i64 TY, .int .i64 (LV : Int), .int .i64 (BW : Int), .int .i64 (BH : Int), .int .i64 (PR : Int), .int .i64 ST, .int .i64 (o : Int), .int .i64 (LY : Int), .bool RC, .bool SO, .bool EP], 30)] W4a := by rw [← hW4a]; exact HM3.out.set (i := 1) rfl rfl 7 _
  have c5 : W4a.cell? ⟨bm + 1, 5, none⟩ = some (.int .i64 (PR : Int)) := blk_cell (HW4a.b 1 _ rfl) 5
  have z5 : W4a.frozen? ⟨bm + 1, 5, none⟩ = false := HW4a.fro (i := 1) rfl 5
  obtain ⟨W4b, hW4b⟩ : ∃ X, World.setCell W4a { block := bm + 1, off := 5 } (.int .i64 15) = X := ⟨_, rfl⟩
  have HW4b : MkW w2 bm [(#[.int .i64 X, .int .i64 Y, .int .i64 OX, .int .i64 OY, .slice A2 N C2], 28), (#[.int .i64 TX, .int .i64 TY, .int .i64 (LV : Int), .int .i64 (BW : Int), .int .i64 (BH : Int), .int .i64 15, .int .i64 ST, .int .i64 (o : Int), .int .i64 (LY : Int), .bool RC, .bool SO, .bool EP], 30)] W4b := by rw [← hW4b]; exact HW4a.set (i := 1) rfl rfl 5 _
  have HM5 := Lib.hid HW4b
  have i0' : W4b.cell? ⟨bm, 0, none⟩ = some (.int .i64 X) := blk_cell (show W4b.heap[bm]? = _ from HM5.out.b 0 _ rfl) 0
  have i1' : W4b.cell? ⟨bm, 1, none⟩ = some (.int .i64 Y) := blk_cell (show W4b.heap[bm]? = _ from HM5.out.b 0 _ rfl) 1
  have i2' : W4b.cell? ⟨bm, 2, none⟩ = some (.int .i64 OX) := blk_cell (show W4b.heap[bm]? = _ from HM5.out.b 0 _ rfl) 2
  have i3' : W4b.cell? ⟨bm, 3, none⟩ = some (.int .i64 OY) := blk_cell (show W4b.heap[bm]? = _ from HM5.out.b 0 _ rfl) 3
  have i4' : W4b.cell? ⟨bm, 4, none⟩ = some (.slice A2 N C2) := blk_cell (show W4b.heap[bm]? = _ from HM5.out.b 0 _ rfl) 4
  have j0' : W4b.cell? ⟨bm + 1, 0, none⟩ = some (.int .i64 TX) := blk_cell (HM5.out.b 1 _ rfl) 0
  have j1' : W4b.cell? ⟨bm + 1, 1, none⟩ = some (.int .i64 TY) := blk_cell (HM5.out.b 1 _ rfl) 1
  have j2' : W4b.cell? ⟨bm + 1, 2, none⟩ = some (.int .i64 (LV : Int)) := blk_cell (HM5.out.b 1 _ rfl) 2
  have j3' : W4b.cell? ⟨bm + 1, 3, none⟩ = some (.int .i64 (BW : Int)) := blk_cell (HM5.out.b 1 _ rfl) 3
  have j4' : W4b.cell? ⟨bm + 1, 4, none⟩ = some (.int .i64 (BH : Int)) := blk_cell (HM5.out.b 1 _ rfl) 4
  have j5' : W4b.cell? ⟨bm + 1, 5, none⟩ = some (.int .i64 15) := blk_cell (HM5.out.b 1 _ rfl) 5
  have j6' : W4b.cell? ⟨bm + 1, 6, none⟩ = some (.int .i64 ST) := blk_cell (HM5.out.b 1 _ rfl) 6
  have j7' : W4b.cell? ⟨bm + 1, 7, none⟩ = some (.int .i64 (o : Int)) := blk_cell (HM5.out.b 1 _ rfl) 7
  have j8' : W4b.cell? ⟨bm + 1, 8, none⟩ = some (.int .i64 (LY : Int)) := blk_cell (HM5.out.b 1 _ rfl) 8
  have j9' : W4b.cell? ⟨bm + 1, 9, none⟩ = some (.bool RC) := blk_cell (HM5.out.b 1 _ rfl) 9
  have j10' : W4b.cell? ⟨bm + 1, 10, none⟩ = some (.bool SO) := blk_cell (HM5.out.b 1 _ rfl) 10
  have j11' : W4b.cell? ⟨bm + 1, 11, none⟩ = some (.bool EP) := blk_cell (HM5.out.b 1 _ rfl) 11
  clear HW4a HW4b
  go_wp2_with fail
  clear HM3 hW4a hW4b c7 z7 c5 z5 i0' i1' i2' i3' i4' j0' j1' j2' j3' j4' j5' j6' j7' j8' j9' j10' j11'
  refine (TL.out _ _ _ _ _ _ _ _ _ _ _).mono ?_
  rintro e W6 ⟨TA, TC, rfl, hRT, hb⟩
  have HM6 := Lib.hid (HM5.out.keep hb)
  obtain ⟨r0, hr0⟩ : ∃ r, rs[0]? = some r := ⟨_, List.getElem?_eq_getElem (by omega)⟩
  have hri := HRS.out 0 r0 hr0
  obtain ⟨rx0, ry0, rx1, ry1⟩ := r0
  have HRI := Lib.hid hri
  obtain ⟨TA', TC', hTA, hTcell⟩ := hRT
  injection hTA with hTA1 hTA2 hTA3
  subst hTA1 hTA3
  obtain ⟨tg, tq, rfl, htg, t0, t1, t2, t3⟩ := hTcell 0 _ hr0
  rw [Nat.zero_mul, Nat.add_zero] at t0 t1 t2 t3
  obtain ⟨tn, htn⟩ : ∃ n, rs.length = n := ⟨_, rfl⟩
  rw [htn] at hrs1 ⊢
  clear hb hri hr0 hTcell hTA2 htn HM5
  obtain ⟨rg, hrg⟩ : ∃ q, W6.heap.size = q := ⟨_, rfl⟩
  obtain ⟨W7, hW7⟩ : ∃ X, W6.alloc (Obj.cells #[.int .i64 rx0, .int .i64 ry0, .int .i64 rx1, .int .i64 ry1] 38) = X := ⟨_, rfl⟩
  have HM7 : Hid (MkW w2 bm [(#[.int .i64 X, .int .i64 Y, .int .i64 OX, .int .i64 OY, .slice A2 N C2], 28), (#[.int .i64 TX, .int .i64 TY, .int .i64 (LV : Int), .int .i64 (BW : Int), .int .i64 (BH : Int), .int .i64 15, .int .i64 ST, .int .i64 (o : Int), .int .i64 (LY : Int), .bool RC, .bool SO, .bool EP], 30)] W7) := Lib.hid (by rw [← hW7]; exact HM6.out.alloc _)
  have HRG : Hid (rg < W7.heap.size ∧ W7.heap[rg]? = some (.cells #[.int .i64 rx0, .int .i64 ry0, .int .i64 rx1, .int .i64 ry1] 38 (0, 0)) ∧ bm + 2 ≤ rg) := Lib.hid (by
    have h1 := HM6.out.sz
    refine ⟨by rw [← hW7, World.size_alloc]; omega, by rw [← hW7, ← hrg]; exact World.alloc_heap_new W6 _, by rw [← hrg]; exact h1⟩)
  have hb77 : Below W7.heap.size W7 W7 := Below.refl _ _
  have LC : Hid (∀ u, Below W7.heap.size W7 u → Calls Try.prog 13 #[.agg #[.int .i64 rx0, .int .i64 ry0, .int .i64 rx1, .int .i64 ry1], .agg #[.int .i64 X, .int .i64 Y, .int .i64 OX, .int .i64 OY, .slice A2 N C2], .agg #[.int .i64 TX, .int .i64 TY, .int .i64 (LV : Int), .int .i64 (BW : Int), .int .i64 (BH : Int), .int .i64 15, .int .i64 ST, .int .i64 (o : Int), .int .i64 (LY : Int), .bool RC, .bool SO, .bool EP]] u fun e w' => ∃ (M : List Pk) (A : Option Addr) (m c : Nat), e = .returned (.slice A m c) ∧ M.length = m ∧ m ≤ 13000000 ∧ OL (geo (rx0, ry0, rx1, ry1) (cs.map fun c => (c.dx, c.dy)) LV 15) LY o M ∧ KeyR w' A M ∧ Below u.heap.size u w') := Lib.hid (fun u hu =>
    listP_any (lo := B0) o ho5 (rx0, ry0, rx1, ry1) X Y OX OY A2 N C2 cs TX TY BW BH ST RC SO EP LV 15 LY u HRI.out.1 HRI.out.2 HKY.out (by rw [HCL.out]; omega) (by rw [HCL.out]; omega) HCL.out (by omega) (by omega) (by omega) ((HCR.out.below ((HM7.out.bel.mono (by rw [HBM.out]; omega)).trans (hu.mono HM7.out.bel.size)))))
  obtain ⟨G, hG⟩ : ∃ G, geo (rx0, ry0, rx1, ry1) (cs.map fun c => (c.dx, c.dy)) LV 15 = G := ⟨_, rfl⟩
  rw [hG] at LC
  have HG : Hid (G.nc = N ∧ G.lv = LV ∧ (∀ (c r : Nat) (x : Cp), cs[c]? = some x → G.wh c r = if 0 < ((rsF (rx0, ry0, rx1, ry1) (x.dx, x.dy) LV r).2.2.1 - (rsF (rx0, ry0, rx1, ry1) (x.dx, x.dy) LV r).1) * ((rsF (rx0, ry0, rx1, ry1) (x.dx, x.dy) LV r).2.2.2 - (rsF (rx0, ry0, rx1, ry1) (x.dx, x.dy) LV r).2.1) then 1 else 0)) := Lib.hid (by
    rw [← hG]
    refine ⟨by show (cs.map fun c => (c.dx, c.dy)).length = N; rw [List.length_map]; exact HCL.out, rfl, fun c r x hx => ?_⟩
    have hd := HKY.out c x hx
    have hda : dAt (cs.map fun c => (c.dx, c.dy)) c = (x.dx, x.dy) := by simp [dAt, List.getD, hx]
    show wdF _ _ LV 15 c r * htF _ _ LV 15 c r = _
    unfold wdF htF
    rw [hda]
    exact wh_one (rsF_in LV r HRI.out.1 (by simp only; omega) (by simp only; omega)) (rsF_ord LV r HRI.out.2 (by simp only; omega) (by simp only; omega)))
  have HG1 : Hid (∀ (c r : Nat), c < N → G.wh c r ≤ 1) := Lib.hid (fun c r hc => by
    obtain ⟨x, hx⟩ : ∃ x, cs[c]? = some x := ⟨_, List.getElem?_eq_getElem (by rw [HCL.out]; exact hc)⟩
    rw [HG.out.2.2 c r x hx]
    split <;> omega)
  clear hG hb77
  go_wp2_with fail
  clear hrg hW7 htg t0 t1 t2 t3 HM6
  have hcc0 := cntC_le G (by rw [HG.out.2.1]; omega) N (fun c r hc => HG1.out c r hc)
  have HCC := Lib.hid hcc0
  clear hcc0
  go_loopg [8, 9] N (fun g a v wr => ∃ c : Nat, c + g = N ∧ a = .int .i64 ((cntC G c : Nat) : Int) ∧ v = .int .i64 (c : Int) ∧ Hid (Below W7.heap.size W7 wr))
  case atStart => exact ⟨0, by omega, by simp [cntC], rfl, Lib.hid (Below.refl _ _)⟩
  case round =>
   obtain ⟨c, hcg, rfl, rfl, HBa⟩ := hrel
   obtain ⟨wa, hwa⟩ : ∃ wa, wa = wr := ⟨wr, rfl⟩
   subst hwa
   have HMa := Lib.hid (HM7.out.keep HBa.out)
   have i4' : wa.cell? ⟨bm, 4, none⟩ = some (.slice A2 N C2) := blk_cell (show wa.heap[bm]? = _ from HMa.out.b 0 _ rfl) 4
   obtain ⟨sc, hsc⟩ : ∃ n, cntC G c = n := ⟨_, rfl⟩
   rw [hsc]
   have HSC := Lib.hid hsc
   clear hsc
   by_cases hcN : c < N
   · obtain ⟨g0, rfl⟩ : ∃ g0, gk = g0 + 1 := ⟨gk - 1, by omega⟩
     have hcI : (c : Int) < (N : Int) := by omega
     have hc0 : ¬ (c : Int) < 0 := by omega
     obtain ⟨x, hx⟩ : ∃ x, cs[c]? = some x := ⟨_, List.getElem?_eq_getElem (by rw [HCL.out]; exact hcN)⟩
     have hdx := HKY.out c x hx
     have hwhx := fun r => HG.out.2.2 c r x hx
     have hBw2 : Below w2.heap.size w2 W7 := HM7.out.bel.mono (by rw [HBM.out]; omega)
     obtain ⟨cg, cap, hV, hg, hgl, _, _, _, _, u2, u3, _⟩ := CRow.cells HCR.out hx
     rw [HCL.out] at hV
     injection hV with hA hn hC
     subst hA hC
     have HX : Hid (cg < W7.heap.size ∧ W7.cell? ⟨cg, c * 5 + 2, none⟩ = some (.int .i64 x.dx) ∧ W7.cell? ⟨cg, c * 5 + 3, none⟩ = some (.int .i64 x.dy)) := Lib.hid ⟨Nat.lt_of_lt_of_le hgl hBw2.size, (hBw2.cell (p := ⟨cg, _, none⟩) hgl).trans u2, (hBw2.cell (p := ⟨cg, _, none⟩) hgl).trans u3⟩
     obtain ⟨dx, hdxe⟩ : ∃ d, x.dx = d := ⟨_, rfl⟩
     obtain ⟨dy, hdye⟩ : ∃ d, x.dy = d := ⟨_, rfl⟩
     rw [hdxe, hdye] at HX hdx hwhx
     have HWX := Lib.hid hwhx
     have P0 := ptF_in (t := (rx0, ry0, rx1, ry1)) (d := (dx, dy)) HRI.out.1 (by simp only; omega) (by simp only; omega)
     have PO' := ptF_ord (t := (rx0, ry0, rx1, ry1)) (d := (dx, dy)) HRI.out.2 (by simp only; omega) (by simp only; omega)
     have hPf : ptF (rx0, ry0, rx1, ry1) (dx, dy) = (ceilF rx0 dx, ceilF ry0 dy, ceilF rx1 dx, ceilF ry1 dy) := rfl
     have hri := HRI.out.1
     have PT1 : Hid (∀ u, Calls Try.prog 16 #[.agg #[.int .i64 rx0, .int .i64 ry0, .int .i64 rx1, .int .i64 ry1], .int .i64 dx, .int .i64 dy] u fun e w' => e = .returned (.agg #[.int .i64 (ceilF rx0 dx), .int .i64 (ceilF ry0 dy), .int .i64 (ceilF rx1 dx), .int .i64 (ceilF ry1 dy)]) ∧ Below u.heap.size u w') := Lib.hid (fun u => rpart_any rx0 ry0 rx1 ry1 dx dy u (by omega) (by omega) (by have := hri.1; simp only at this; omega) (by have := hri.2.1; simp only at this; omega) (by have := hri.2.2.1; simp only at this; omega) (by have := hri.2.2.2; simp only at this; omega))
     obtain ⟨z0, hz0⟩ : ∃ z, ceilF rx0 dx = z := ⟨_, rfl⟩
     obtain ⟨z1, hz1⟩ : ∃ z, ceilF ry0 dy = z := ⟨_, rfl⟩
     obtain ⟨z2, hz2⟩ : ∃ z, ceilF rx1 dx = z := ⟨_, rfl⟩
     obtain ⟨z3, hz3⟩ : ∃ z, ceilF ry1 dy = z := ⟨_, rfl⟩
     rw [hz0, hz1, hz2, hz3] at PT1 hPf
     rw [hPf] at P0 PO'
     have HPF := Lib.hid (show _ ∧ _ ∧ _ from ⟨hPf, P0, PO'⟩)
     clear hx hdxe hdye hwhx hBw2 hg hgl hn u2 u3 hz0 hz1 hz2 hz3 hPf P0 PO' hri
     go_wp2_with fail
     obtain ⟨VL, hVL⟩ : ∃ VL : Nat → List (Nat × Nat × Value), VL = fun z => [(0, 35, .agg #[.int .i64 rx0, .int .i64 ry0, .int .i64 rx1, .int .i64 ry1]), (1, 36, .pointer (some ⟨bm, 4, none⟩)), (2, 37, .slice (some ⟨cg, 0, none⟩) N C2), (3, 38, .int .i64 (c : Int)), (4, 39, .pointer (some ⟨cg, c * 5, none⟩)), (5, 40, .pointer (some ⟨cg, c * 5 + 2, none⟩)), (6, 41, .int .i64 dx), (7, 42, .pointer (some ⟨bm, 4, none⟩)), (8, 43, .slice (some ⟨cg, 0, none⟩) N C2), (9, 44, .int .i64 (c : Int)), (10, 45, .pointer (some ⟨cg, c * 5, none⟩)), (11, 46, .pointer (some ⟨cg, c * 5 + 3, none⟩)), (12, 47, .int .i64 dy), (13, 48, .agg #[.int .i64 z0, .int .i64 z1, .int .i64 z2, .int .i64 z3]), (14, 10, .pointer (some ⟨z, 0, none⟩))] := ⟨_, rfl⟩
     have hok : ∀ z, manyOk 74 (VL z) := fun z => by rw [hVL]; exact okB_ok rfl
     have HVL := Lib.hid hVL
     have hvi : ∀ z, ∀ x ∈ VL z, x.1 < 16 := fun z => by rw [hVL]; exact ltB_ok rfl
     have HOK := Lib.hid hok
     have HVI := Lib.hid hvi
     clear hVL hok hvi
     refine (wpIn_wide (n := 9)).1 (regionIn_many (N := 74) (w := _) VL (fun L z w' => (Below wa.heap.size wa w' ∧ (L 14 = true → wa.heap.size ≤ z ∧ w'.heap[z]? = some (.cells (bif L 15 then #[.int .i64 z0, .int .i64 z1, .int .i64 z2, .int .i64 z3] else #[.int .i64 0, .int .i64 0, .int .i64 0, .int .i64 0]) 38 (0, 0)))) ∧ True) [(5, .pointer (some ⟨bm, 0, none⟩)), (7, .pointer (some ⟨rg, 0, none⟩)), (9, .int .i64 (c : Int))] (by kernel_rfl) (by kernel_rfl) rfl (by simp only [List.forall_mem_cons, List.not_mem_nil, false_imp_iff, implies_true, and_true]; exact ⟨rfl, rfl, rfl⟩) HVI.out 0 ?start ?step ?fin)
     case start => exact ⟨⟨(Below.refl _ _).drew, fun h => (by cases h)⟩, trivial⟩
     case step =>
       intro gg_ hgN hgF ii_ hii_ L z w' hph hs hu
       obtain ⟨hcm, hph⟩ := hph
       have hF5 := hgF (5, .pointer (some ⟨bm, 0, none⟩)) (by simp)
       have hF7 := hgF (7, .pointer (some ⟨rg, 0, none⟩)) (by simp)
       have hF9 := hgF (9, .int .i64 (c : Int)) (by simp)
       have hL := hu.1
       have hii_ : ii_ < 16 := hii_
       clear hgF
       obtain rfl | rfl | rfl | rfl | rfl | rfl | rfl | rfl | rfl | rfl | rfl | rfl | rfl | rfl | rfl | rfl := (by omega : ii_ = 0 ∨ ii_ = 1 ∨ ii_ = 2 ∨ ii_ = 3 ∨ ii_ = 4 ∨ ii_ = 5 ∨ ii_ = 6 ∨ ii_ = 7 ∨ ii_ = 8 ∨ ii_ = 9 ∨ ii_ = 10 ∨ ii_ = 11 ∨ ii_ = 12 ∨ ii_ = 13 ∨ ii_ = 14 ∨ ii_ = 15)
       · skip
         have n15 : L 15 = false := not_yet hL fun h => shut_at hs 15 0 (by kernel_rfl) (h)
         have hh := HBa.out.trans (hcm.1.mono HBa.out.size)
         have hr := (hh.block rg HRG.out.1).trans HRG.out.2.1
         have s0' : w'.cell? ⟨rg, 0, none⟩ = some (.int .i64 rx0) := blk_cell hr 0
         have s1' : w'.cell? ⟨rg, 1, none⟩ = some (.int .i64 ry0) := blk_cell hr 1
         have s2' : w'.cell? ⟨rg, 2, none⟩ = some (.int .i64 rx1) := blk_cell hr 2
         have s3' : w'.cell? ⟨rg, 3, none⟩ = some (.int .i64 ry1) := blk_cell hr 3
         have e7 : (many gg_ L (VL z))[7]?.getD undef = .pointer (some ⟨rg, 0, none⟩) := many_out3 hgN (HOK.out z) (by rw [HVL.out]; rfl) hF7
         refine opIn_run (v := .agg #[.int .i64 rx0, .int .i64 ry0, .int .i64 rx1, .int .i64 ry1]) (w' := w') rfl rfl (fun c h => by cases h) (fun _ => trivial) ?_ ⟨z, by exact many_put3 (HOK.out _) (by rw [HVL.out]; rfl) hL, hcm, hph⟩
         go_simp
       · skip
         have n15 : L 15 = false := not_yet hL fun h => shut_at hs 15 1 (by kernel_rfl) (h)
         have e5 : (many gg_ L (VL z))[5]?.getD undef = .pointer (some ⟨bm, 0, none⟩) := many_out3 hgN (HOK.out z) (by rw [HVL.out]; rfl) hF5
         refine opIn_run (v := .pointer (some ⟨bm, 4, none⟩)) (w' := w') rfl rfl (fun c h => by cases h) (fun _ => trivial) ?_ ⟨z, by exact many_put3 (HOK.out _) (by rw [HVL.out]; rfl) hL, hcm, hph⟩
         go_simp
       · skip
         have y1 : L 1 = true := up_at hu 1 (by kernel_rfl)
         have n15 : L 15 = false := not_yet hL fun h => shut_at hs 15 2 (by kernel_rfl) (h)
         have hcell : w'.cell? ⟨bm, 4, none⟩ = some (.slice (some ⟨cg, 0, none⟩) N C2) := blk_cell (show w'.heap[bm]? = _ from (HMa.out.keep hcm.1).b 0 _ rfl) 4
         have e36 : (many gg_ L (VL z))[36]?.getD undef = .pointer (some ⟨bm, 4, none⟩) := many_eval3 hgN (HOK.out z) (by rw [HVL.out]; rfl) y1
         refine opIn_run (v := .slice (some ⟨cg, 0, none⟩) N C2) (w' := w') rfl rfl (fun c h => by cases h) (fun _ => trivial) ?_ ⟨z, by exact many_put3 (HOK.out _) (by rw [HVL.out]; rfl) hL, hcm, hph⟩
         go_simp
       · skip
         have n15 : L 15 = false := not_yet hL fun h => shut_at hs 15 3 (by kernel_rfl) (h)
         have e9 : (many gg_ L (VL z))[9]?.getD undef = .int .i64 (c : Int) := many_out3 hgN (HOK.out z) (by rw [HVL.out]; rfl) hF9
         refine opIn_run (v := .int .i64 (c : Int)) (w' := w') rfl rfl (fun c h => by cases h) (fun _ => trivial) ?_ ⟨z, by exact many_put3 (HOK.out _) (by rw [HVL.out]; rfl) hL, hcm, hph⟩
         go_simp
       · skip
         have y2 : L 2 = true := up_at hu 2 (by kernel_rfl)
         have y3 : L 3 = true := up_at hu 3 (by kernel_rfl)
         have n15 : L 15 = false := not_yet hL fun h => shut_at hs 15 4 (by kernel_rfl) (h)
         have e37 : (many gg_ L (VL z))[37]?.getD undef = .slice (some ⟨cg, 0, none⟩) N C2 := many_eval3 hgN (HOK.out z) (by rw [HVL.out]; rfl) y2
         have e38 : (many gg_ L (VL z))[38]?.getD undef = .int .i64 (c : Int) := many_eval3 hgN (HOK.out z) (by rw [HVL.out]; rfl) y3
         refine opIn_run (v := .pointer (some ⟨cg, c * 5, none⟩)) (w' := w') rfl rfl (fun c h => by cases h) (fun _ => trivial) ?_ ⟨z, by exact many_put3 (HOK.out _) (by rw [HVL.out]; rfl) hL, hcm, hph⟩
         go_simp
       · skip
         have y4 : L 4 = true := up_at hu 4 (by kernel_rfl)
         have n15 : L 15 = false := not_yet hL fun h => shut_at hs 15 5 (by kernel_rfl) (h)
         have e39 : (many gg_ L (VL z))[39]?.getD undef = .pointer (some ⟨cg, c * 5, none⟩) := many_eval3 hgN (HOK.out z) (by rw [HVL.out]; rfl) y4
         refine opIn_run (v := .pointer (some ⟨cg, c * 5 + 2, none⟩)) (w' := w') rfl rfl (fun c h => by cases h) (fun _ => trivial) ?_ ⟨z, by exact many_put3 (HOK.out _) (by rw [HVL.out]; rfl) hL, hcm, hph⟩
         go_simp
       · skip
         have y5 : L 5 = true := up_at hu 5 (by kernel_rfl)
         have n15 : L 15 = false := not_yet hL fun h => shut_at hs 15 6 (by kernel_rfl) (h)
         have hcell : w'.cell? ⟨cg, c * 5 + 2, none⟩ = some (.int .i64 dx) := ((HBa.out.trans (hcm.1.mono HBa.out.size)).cell (p := ⟨cg, c * 5 + 2, none⟩) HX.out.1).trans HX.out.2.1
         have e40 : (many gg_ L (VL z))[40]?.getD undef = .pointer (some ⟨cg, c * 5 + 2, none⟩) := many_eval3 hgN (HOK.out z) (by rw [HVL.out]; rfl) y5
         refine opIn_run (v := .int .i64 dx) (w' := w') rfl rfl (fun c h => by cases h) (fun _ => trivial) ?_ ⟨z, by exact many_put3 (HOK.out _) (by rw [HVL.out]; rfl) hL, hcm, hph⟩
         go_simp
       · skip
         have n15 : L 15 = false := not_yet hL fun h => shut_at hs 15 7 (by kernel_rfl) (h)
         have e5 : (many gg_ L (VL z))[5]?.getD undef = .pointer (some ⟨bm, 0, none⟩) := many_out3 hgN (HOK.out z) (by rw [HVL.out]; rfl) hF5
         refine opIn_run (v := .pointer (some ⟨bm, 4, none⟩)) (w' := w') rfl rfl (fun c h => by cases h) (fun _ => trivial) ?_ ⟨z, by exact many_put3 (HOK.out _) (by rw [HVL.out]; rfl) hL, hcm, hph⟩
         go_simp
       · skip
         have y7 : L 7 = true := up_at hu 7 (by kernel_rfl)
         have n15 : L 15 = false := not_yet hL fun h => shut_at hs 15 8 (by kernel_rfl) (h)
         have hcell : w'.cell? ⟨bm, 4, none⟩ = some (.slice (some ⟨cg, 0, none⟩) N C2) := blk_cell (show w'.heap[bm]? = _ from (HMa.out.keep hcm.1).b 0 _ rfl) 4
         have e42 : (many gg_ L (VL z))[42]?.getD undef = .pointer (some ⟨bm, 4, none⟩) := many_eval3 hgN (HOK.out z) (by rw [HVL.out]; rfl) y7
         refine opIn_run (v := .slice (some ⟨cg, 0, none⟩) N C2) (w' := w') rfl rfl (fun c h => by cases h) (fun _ => trivial) ?_ ⟨z, by exact many_put3 (HOK.out _) (by rw [HVL.out]; rfl) hL, hcm, hph⟩
         go_simp
       · skip
         have n15 : L 15 = false := not_yet hL fun h => shut_at hs 15 9 (by kernel_rfl) (h)
         have e9 : (many gg_ L (VL z))[9]?.getD undef = .int .i64 (c : Int) := many_out3 hgN (HOK.out z) (by rw [HVL.out]; rfl) hF9
         refine opIn_run (v := .int .i64 (c : Int)) (w' := w') rfl rfl (fun c h => by cases h) (fun _ => trivial) ?_ ⟨z, by exact many_put3 (HOK.out _) (by rw [HVL.out]; rfl) hL, hcm, hph⟩
         go_simp
       · skip
         have y8 : L 8 = true := up_at hu 8 (by kernel_rfl)
         have y9 : L 9 = true := up_at hu 9 (by kernel_rfl)
         have n15 : L 15 = false := not_yet hL fun h => shut_at hs 15 10 (by kernel_rfl) (h)
         have e43 : (many gg_ L (VL z))[43]?.getD undef = .slice (some ⟨cg, 0, none⟩) N C2 := many_eval3 hgN (HOK.out z) (by rw [HVL.out]; rfl) y8
         have e44 : (many gg_ L (VL z))[44]?.getD undef = .int .i64 (c : Int) := many_eval3 hgN (HOK.out z) (by rw [HVL.out]; rfl) y9
         refine opIn_run (v := .pointer (some ⟨cg, c * 5, none⟩)) (w' := w') rfl rfl (fun c h => by cases h) (fun _ => trivial) ?_ ⟨z, by exact many_put3 (HOK.out _) (by rw [HVL.out]; rfl) hL, hcm, hph⟩
         go_simp
       · skip
         have y10 : L 10 = true := up_at hu 10 (by kernel_rfl)
         have n15 : L 15 = false := not_yet hL fun h => shut_at hs 15 11 (by kernel_rfl) (h)
         have e45 : (many gg_ L (VL z))[45]?.getD undef = .pointer (some ⟨cg, c * 5, none⟩) := many_eval3 hgN (HOK.out z) (by rw [HVL.out]; rfl) y10
         refine opIn_run (v := .pointer (some ⟨cg, c * 5 + 3, none⟩)) (w' := w') rfl rfl (fun c h => by cases h) (fun _ => trivial) ?_ ⟨z, by exact many_put3 (HOK.out _) (by rw [HVL.out]; rfl) hL, hcm, hph⟩
         go_simp
       · skip
         have y11 : L 11 = true := up_at hu 11 (by kernel_rfl)
         have n15 : L 15 = false := not_yet hL fun h => shut_at hs 15 12 (by kernel_rfl) (h)
         have hcell : w'.cell? ⟨cg, c * 5 + 3, none⟩ = some (.int .i64 dy) := ((HBa.out.trans (hcm.1.mono HBa.out.size)).cell (p := ⟨cg, c * 5 + 3, none⟩) HX.out.1).trans HX.out.2.2
         have e46 : (many gg_ L (VL z))[46]?.getD undef = .pointer (some ⟨cg, c * 5 + 3, none⟩) := many_eval3 hgN (HOK.out z) (by rw [HVL.out]; rfl) y11
         refine opIn_run (v := .int .i64 dy) (w' := w') rfl rfl (fun c h => by cases h) (fun _ => trivial) ?_ ⟨z, by exact many_put3 (HOK.out _) (by rw [HVL.out]; rfl) hL, hcm, hph⟩
         go_simp
       · skip
         have y0 : L 0 = true := up_at hu 0 (by kernel_rfl)
         have y6 : L 6 = true := up_at hu 6 (by kernel_rfl)
         have y12 : L 12 = true := up_at hu 12 (by kernel_rfl)
         have n15 : L 15 = false := not_yet hL fun h => shut_at hs 15 13 (by kernel_rfl) (h)
         have e35 : (many gg_ L (VL z))[35]?.getD undef = .agg #[.int .i64 rx0, .int .i64 ry0, .int .i64 rx1, .int .i64 ry1] := many_eval3 hgN (HOK.out z) (by rw [HVL.out]; rfl) y0
         have e41 : (many gg_ L (VL z))[41]?.getD undef = .int .i64 dx := many_eval3 hgN (HOK.out z) (by rw [HVL.out]; rfl) y6
         have e47 : (many gg_ L (VL z))[47]?.getD undef = .int .i64 dy := many_eval3 hgN (HOK.out z) (by rw [HVL.out]; rfl) y12
         refine opIn_call (f := 16) (args := #[.agg #[.int .i64 rx0, .int .i64 ry0, .int .i64 rx1, .int .i64 ry1], .int .i64 dx, .int .i64 dy]) (w' := w') rfl rfl (fun c h => by cases h) (fun _ => trivial) rfl (by go_simp) ((callsIn_wide.2 (PT1.out w')).mono ?_)
         rintro e w2 ⟨rfl, hb⟩
         exact ⟨_, rfl, z, by exact many_put3 (HOK.out _) (by rw [HVL.out]; rfl) hL, ⟨hcm.1.trans (hb.mono hcm.1.size), fun h => ⟨(hcm.2 h).1, (hb.block _ (Array.getElem?_eq_some_iff.1 (hcm.2 h).2).1).trans (hcm.2 h).2⟩⟩, trivial⟩
       · skip
         have n15 : L 15 = false := not_yet hL fun h => shut_at hs 15 14 (by kernel_rfl) (h)
         refine opIn_run (v := (.pointer (some ⟨w'.heap.size, 0, none⟩))) (w' := w'.alloc (.cells #[.int .i64 0, .int .i64 0, .int .i64 0, .int .i64 0] 38)) rfl rfl (fun c h => by cases h) (fun _ => trivial) ?_ ⟨w'.heap.size, by rw [show many gg_ L (VL z) = many gg_ L (VL w'.heap.size) from by rw [HVL.out]; simp only [many, n15, hL, cond_false, cond_true]]; exact many_put3 (HOK.out _) (by rw [HVL.out]; rfl) hL, ⟨hcm.1.alloc hcm.1.size _, fun _ => ⟨hcm.1.size, by simp only [upd, n15]; exact World.alloc_heap_new w' _⟩⟩, trivial⟩
         go_simp
       · skip
         have y0 : L 0 = true := up_at hu 0 (by kernel_rfl)
         have y1 : L 1 = true := up_at hu 1 (by kernel_rfl)
         have y2 : L 2 = true := up_at hu 2 (by kernel_rfl)
         have y3 : L 3 = true := up_at hu 3 (by kernel_rfl)
         have y4 : L 4 = true := up_at hu 4 (by kernel_rfl)
         have y5 : L 5 = true := up_at hu 5 (by kernel_rfl)
         have y6 : L 6 = true := up_at hu 6 (by kernel_rfl)
         have y7 : L 7 = true := up_at hu 7 (by kernel_rfl)
         have y8 : L 8 = true := up_at hu 8 (by kernel_rfl)
         have y9 : L 9 = true := up_at hu 9 (by kernel_rfl)
         have y10 : L 10 = true := up_at hu 10 (by kernel_rfl)
         have y11 : L 11 = true := up_at hu 11 (by kernel_rfl)
         have y12 : L 12 = true := up_at hu 12 (by kernel_rfl)
         have y13 : L 13 = true := up_at hu 13 (by kernel_rfl)
         have y14 : L 14 = true := up_at hu 14 (by kernel_rfl)
         have e10 : (many gg_ L (VL z))[10]?.getD undef = .pointer (some ⟨z, 0, none⟩) := many_eval3 hgN (HOK.out z) (by rw [HVL.out]; rfl) y14
         have e48 : (many gg_ L (VL z))[48]?.getD undef = .agg #[.int .i64 z0, .int .i64 z1, .int .i64 z2, .int .i64 z3] := many_eval3 hgN (HOK.out z) (by rw [HVL.out]; rfl) y13
         refine opIn_skip (w' := w'.setRow z #[.int .i64 z0, .int .i64 z1, .int .i64 z2, .int .i64 z3]) rfl rfl (fun c h => by cases h) (fun _ => trivial) ?_ ⟨z, by exact many_none 15 _ (by rw [HVL.out]; simp), ⟨below_setRow hcm.1 (hcm.2 y14).1 _, fun _ => ⟨(hcm.2 y14).1, by simp only [upd_self, cond_true]; exact setRow_heap _ _ _ _ _ _ (hcm.2 y14).2⟩⟩, trivial⟩
         exact run_store_many e10 e48 (hcm.2 y14).2 (by kernel_rfl) (by cases L 15 <;> rfl) (by kernel_rfl)
     case fin =>
       intro L z w' hall hph
       obtain ⟨hcm, hph⟩ := hph
       have hk := hcm.2 (hall 14 (by decide))
       rw [hall 15 (by decide)] at hk
       simp only [cond_true] at hk
       rw [HVL.out]
       dsimp only [manyL, List.set_cons_zero, List.set_cons_succ]
       clear hall HVL HOK HVI
       obtain ⟨q10, hq10⟩ : ∃ q, q = z := ⟨z, rfl⟩
       subst hq10
       obtain ⟨Wb, hWb⟩ : ∃ W, W = w' := ⟨_, rfl⟩
       subst hWb
       have HBb : Hid (Below W7.heap.size W7 Wb ∧ q10 < Wb.heap.size ∧ W7.heap.size ≤ q10 ∧ Wb.heap[q10]? = some (.cells #[.int .i64 z0, .int .i64 z1, .int .i64 z2, .int .i64 z3] 38 (0, 0))) := Lib.hid ⟨HBa.out.trans (hcm.1.mono HBa.out.size), (Array.getElem?_eq_some_iff.1 hk.2).1, Nat.le_trans HBa.out.size hk.1, hk.2⟩
       clear hk hcm hph HMa HBa PT1 HX i4'
       go_wp2_with fail
       go_loopg [8, 11] (LV + 1) (fun g a v wr => ∃ r : Nat, r + g = LV + 1 ∧ a = .int .i64 ((sc + cntR G c r : Nat) : Int) ∧ v = .int .i64 (r : Int) ∧ Hid (Below W7.heap.size W7 wr ∧ wr.heap[q10]? = some (.cells #[.int .i64 z0, .int .i64 z1, .int .i64 z2, .int .i64 z3] 38 (0, 0))))
       case atStart => exact ⟨0, by omega, by simp [cntR], rfl, Lib.hid ⟨HBb.out.1, HBb.out.2.2.2⟩⟩
       case round =>
        obtain ⟨r, hrg2, rfl, rfl, HBc⟩ := hrel
        obtain ⟨wc, hwc⟩ : ∃ wa, wa = wr := ⟨wr, rfl⟩
        subst hwc
        clear HBb
        have hR : cntR G c r ≤ 6 := by have := cntR_le G c (fun r => HG1.out c r hcN) r; omega
        have hS : sc ≤ 24 := by rw [← HSC.out]; have := cntC_le G (by rw [HG.out.2.1]; omega) c (fun c' r hc => HG1.out c' r (by omega)); omega
        have hRs := cntR_succ G c r
        have hCs := cntC_succ G c
        rw [HSC.out, HG.out.2.1] at hCs
        have HRS2 := Lib.hid (show _ ∧ _ from ⟨hRs, hCs⟩)
        obtain ⟨s, hs⟩ : ∃ n, sc + cntR G c r = n := ⟨_, rfl⟩
        have hs30 : s ≤ 30 := by omega
        rw [hs]
        have HRC := Lib.hid hs
        clear hRs hCs hs hR hS
        have HMc := HM7.out.keep HBc.out.1
        have j2' : wc.cell? ⟨bm + 1, 2, none⟩ = some (.int .i64 (LV : Int)) := blk_cell (HMc.b 1 _ rfl) 2
        have p0' : wc.cell? ⟨q10, 0, none⟩ = some (.int .i64 z0) := blk_cell HBc.out.2 0
        have p1' : wc.cell? ⟨q10, 1, none⟩ = some (.int .i64 z1) := blk_cell HBc.out.2 1
        have p2' : wc.cell? ⟨q10, 2, none⟩ = some (.int .i64 z2) := blk_cell HBc.out.2 2
        have p3' : wc.cell? ⟨q10, 3, none⟩ = some (.int .i64 z3) := blk_cell HBc.out.2 3
        by_cases hrL : r < LV + 1
        · obtain ⟨g1, rfl⟩ : ∃ g0, gk = g0 + 1 := ⟨gk - 1, by omega⟩
          have hrI : (r : Int) ≤ (LV : Int) := by omega
          have hzi : inN (z0, z1, z2, z3) 1000 := by obtain ⟨h1, h2, h3, h4⟩ := HPF.out.2.1; exact ⟨by omega, by omega, by omega, by omega⟩
          have RR := Lib.hid (rres_any (z0, z1, z2, z3) LV r wc hzi (by omega))
          have hrs : rsF (rx0, ry0, rx1, ry1) (dx, dy) LV r = overN (z0, z1, z2, z3) ((2 ^ (LV - r) : Nat) : Int) := by unfold rsF; rw [HPF.out.1]
          have hin := overN_in (n := ((2 ^ (LV - r) : Nat) : Int)) HPF.out.2.1 (two_pos _)
          have hor := overN_ord (n := ((2 ^ (LV - r) : Nat) : Int)) HPF.out.2.2 (two_pos _)
          have hwr := HWX.out r
          rw [hrs] at hwr
          obtain ⟨q, hq⟩ : ∃ q, overN (z0, z1, z2, z3) ((2 ^ (LV - r) : Nat) : Int) = q := ⟨_, rfl⟩
          rw [hq] at hin hor hwr RR
          obtain ⟨q0, q1, q2, q3⟩ := q
          simp only [rA] at RR
          simp only at hwr
          obtain ⟨⟨e1, e2⟩, ⟨e3, e4⟩, ⟨e5, e6⟩, e7, e8⟩ := hin
          obtain ⟨e9, e10⟩ := hor
          simp only at e1 e2 e3 e4 e5 e6 e7 e8 e9 e10
          have RA := Lib.hid (fun u => rarea_any q0 q1 q2 q3 u (by omega) (by omega))
          have hab : 0 ≤ (q2 - q0) * (q3 - q1) := Int.mul_nonneg (by omega) (by omega)
          obtain ⟨ar, har⟩ : ∃ a, (q2 - q0) * (q3 - q1) = a := ⟨_, rfl⟩
          rw [har] at RA hwr hab
          have HWR := Lib.hid hwr
          clear hzi hrs hwr hq har e1 e2 e3 e4 e5 e6 e7 e8 e9 e10 HMc
          go_wp2_with fail
          refine RR.out.mono ?_
          rintro e wd ⟨rfl, hbd⟩
          go_wp2_with fail
          refine (RA.out _).mono ?_
          rintro e we ⟨rfl, hbe⟩
          have HBe : Hid (Below W7.heap.size W7 we ∧ we.heap[q10]? = some (.cells #[.int .i64 z0, .int .i64 z1, .int .i64 z2, .int .i64 z3] 38 (0, 0))) := Lib.hid (by
            obtain ⟨h1, h2⟩ := HBc.out
            have hlt := (Array.getElem?_eq_some_iff.1 h2).1
            have hce : Below wc.heap.size wc we := hbd.trans (hbe.mono hbd.size)
            exact ⟨h1.trans (hce.mono h1.size), (hce.block _ hlt).trans h2⟩)
          clear hbd hbe RR RA p0' p1' p2' p3' j2'
          by_cases ha : 0 < ar
          · have hx1 : sc + cntR G c (r + 1) = s + 1 := by have := HRS2.out.1; have := HRC.out; have := HWR.out; rw [if_pos ha] at this; omega
            have HX1 := Lib.hid hx1
            clear hx1
            go_wp2_with fail
            go_roundg g1
            case measure => omega
            case rel => exact ⟨r + 1, by omega, by rw [HX1.out]; go_num, by go_num, HBe⟩
          · have hx1 : sc + cntR G c (r + 1) = s := by have := HRS2.out.1; have := HRC.out; have := HWR.out; rw [if_neg ha] at this; omega
            have HX1 := Lib.hid hx1
            clear hx1
            go_wp2_with fail
            go_roundg g1
            case measure => omega
            case rel => exact ⟨r + 1, by omega, by rw [HX1.out], by go_num, HBe⟩
        · obtain rfl : r = LV + 1 := by omega
          have hrI : ¬ ((LV + 1 : Nat) : Int) ≤ (LV : Int) := by omega
          have hx1 : cntC G (c + 1) = s := by rw [HRS2.out.2, HRC.out]
          have HX1 := Lib.hid hx1
          have HBf := Lib.hid HBc.out.1
          clear hx1 HMc p0' p1' p2' p3'
          go_wp2_with fail
          go_roundg g0
          case measure => omega
          case rel => exact ⟨c + 1, by omega, by rw [HX1.out], by go_num, HBf⟩
   · obtain rfl : N = c := by omega
     have hcI : ¬ (N : Int) < (N : Int) := by omega
     have hS : sc ≤ 24 := by rw [← HSC.out]; have := HCC.out; omega
     obtain ⟨m, hm⟩ : ∃ m, sc * LY = m := ⟨_, rfl⟩
     have hm96 : m ≤ 96 := by rw [← hm]; exact Nat.mul_le_mul hS (show LY ≤ 4 by omega)
     have HMM : Hid ((sc : Int) * (LY : Int) = (m : Int) ∧ sc * LY = m) := Lib.hid ⟨by rw [← hm]; push_cast; rfl, hm⟩
     clear hm
     have LCm : Hid (∀ u, Below W7.heap.size W7 u → Calls Try.prog 13 #[.agg #[.int .i64 rx0, .int .i64 ry0, .int .i64 rx1, .int .i64 ry1], .agg #[.int .i64 X, .int .i64 Y, .int .i64 OX, .int .i64 OY, .slice A2 N C2], .agg #[.int .i64 TX, .int .i64 TY, .int .i64 (LV : Int), .int .i64 (BW : Int), .int .i64 (BH : Int), .int .i64 15, .int .i64 ST, .int .i64 (o : Int), .int .i64 (LY : Int), .bool RC, .bool SO, .bool EP]] u fun e w' => ∃ (A : Option Addr) (c : Nat), e = .returned (.slice A m c) ∧ Below u.heap.size u w') := Lib.hid (fun u hu => by
       refine (LC.out u hu).mono ?_
       rintro e w' ⟨M, A, m', c, rfl, hm', _, hOL, _, hb⟩
       have hlen := hOL.length
       rw [hm', cntC_all, HG.out.1, HSC.out, HMM.out.2] at hlen
       rw [hlen]
       exact ⟨A, c, rfl, hb⟩)
     clear LC
     go_wp2_with fail
     obtain ⟨VL, hVL⟩ : ∃ VL : Option Addr × Nat → List (Nat × Nat × Value), VL = fun z => [(0, 64, .agg #[.int .i64 rx0, .int .i64 ry0, .int .i64 rx1, .int .i64 ry1]), (1, 65, .agg #[.int .i64 X, .int .i64 Y, .int .i64 OX, .int .i64 OY, .slice A2 N C2]), (2, 66, .agg #[.int .i64 TX, .int .i64 TY, .int .i64 (LV : Int), .int .i64 (BW : Int), .int .i64 (BH : Int), .int .i64 15, .int .i64 ST, .int .i64 (o : Int), .int .i64 (LY : Int), .bool RC, .bool SO, .bool EP]), (3, 67, .slice z.1 m z.2), (4, 68, .int .i64 (m : Int)), (5, 69, .int .i64 (sc : Int)), (6, 70, .pointer (some ⟨bm + 1, 8, none⟩)), (7, 71, .int .i64 (LY : Int)), (8, 72, .int .i64 (m : Int)), (9, 73, .bool true), (10, 4, .bool true)] := ⟨_, rfl⟩
     have hok : ∀ z, manyOk 74 (VL z) := fun z => by rw [hVL]; exact okB_ok rfl
     have HVL := Lib.hid hVL
     have hvi : ∀ z, ∀ x ∈ VL z, x.1 < 11 := fun z => by rw [hVL]; exact ltB_ok rfl
     have HOK := Lib.hid hok
     have HVI := Lib.hid hvi
     clear hVL hok hvi
     refine (wpIn_wide (n := 9)).1 (regionIn_many (N := 74) (w := _) VL (fun L z w' => (Below W7.heap.size W7 w') ∧ True) [(5, .pointer (some ⟨bm, 0, none⟩)), (6, .pointer (some ⟨bm + 1, 0, none⟩)), (7, .pointer (some ⟨rg, 0, none⟩)), (8, .int .i64 (sc : Int))] (by kernel_rfl) (by kernel_rfl) rfl (by simp only [List.forall_mem_cons, List.not_mem_nil, false_imp_iff, implies_true, and_true]; exact ⟨rfl, rfl, rfl, rfl⟩) HVI.out (none, 0) ?start ?step ?fin)
     case start => exact ⟨HBa.out.drew, trivial⟩
     case step =>
       intro gg_ hgN hgF ii_ hii_ L z w' hph hs hu
       obtain ⟨hcm, hph⟩ := hph
       have hF5 := hgF (5, .pointer (some ⟨bm, 0, none⟩)) (by simp)
       have hF6 := hgF (6, .pointer (some ⟨bm + 1, 0, none⟩)) (by simp)
       have hF7 := hgF (7, .pointer (some ⟨rg, 0, none⟩)) (by simp)
       have hF8 := hgF (8, .int .i64 (sc : Int)) (by simp)
       have hL := hu.1
       have hii_ : ii_ < 11 := hii_
       clear hgF
       obtain rfl | rfl | rfl | rfl | rfl | rfl | rfl | rfl | rfl | rfl | rfl := (by omega : ii_ = 0 ∨ ii_ = 1 ∨ ii_ = 2 ∨ ii_ = 3 ∨ ii_ = 4 ∨ ii_ = 5 ∨ ii_ = 6 ∨ ii_ = 7 ∨ ii_ = 8 ∨ ii_ = 9 ∨ ii_ = 10)
       · skip
         have hr := (hcm.block rg HRG.out.1).trans HRG.out.2.1
         have s0' : w'.cell? ⟨rg, 0, none⟩ = some (.int .i64 rx0) := blk_cell hr 0
         have s1' : w'.cell? ⟨rg, 1, none⟩ = some (.int .i64 ry0) := blk_cell hr 1
         have s2' : w'.cell? ⟨rg, 2, none⟩ = some (.int .i64 rx1) := blk_cell hr 2
         have s3' : w'.cell? ⟨rg, 3, none⟩ = some (.int .i64 ry1) := blk_cell hr 3
         have e7 : (many gg_ L (VL z))[7]?.getD undef = .pointer (some ⟨rg, 0, none⟩) := many_out3 hgN (HOK.out z) (by rw [HVL.out]; rfl) hF7
         refine opIn_run (v := .agg #[.int .i64 rx0, .int .i64 ry0, .int .i64 rx1, .int .i64 ry1]) (w' := w') rfl rfl (fun c h => by cases h) (fun _ => trivial) ?_ ⟨z, by exact many_put3 (HOK.out _) (by rw [HVL.out]; rfl) hL, hcm, hph⟩
         go_simp
       · skip
         have HM7k := HM7.out.keep hcm
         have i0' : w'.cell? ⟨bm, 0, none⟩ = some (.int .i64 X) := blk_cell (show w'.heap[bm]? = _ from HM7k.b 0 _ rfl) 0
         have i1' : w'.cell? ⟨bm, 1, none⟩ = some (.int .i64 Y) := blk_cell (show w'.heap[bm]? = _ from HM7k.b 0 _ rfl) 1
         have i2' : w'.cell? ⟨bm, 2, none⟩ = some (.int .i64 OX) := blk_cell (show w'.heap[bm]? = _ from HM7k.b 0 _ rfl) 2
         have i3' : w'.cell? ⟨bm, 3, none⟩ = some (.int .i64 OY) := blk_cell (show w'.heap[bm]? = _ from HM7k.b 0 _ rfl) 3
         have i4' : w'.cell? ⟨bm, 4, none⟩ = some (.slice A2 N C2) := blk_cell (show w'.heap[bm]? = _ from HM7k.b 0 _ rfl) 4
         have e5 : (many gg_ L (VL z))[5]?.getD undef = .pointer (some ⟨bm, 0, none⟩) := many_out3 hgN (HOK.out z) (by rw [HVL.out]; rfl) hF5
         refine opIn_run (v := .agg #[.int .i64 X, .int .i64 Y, .int .i64 OX, .int .i64 OY, .slice A2 N C2]) (w' := w') rfl rfl (fun c h => by cases h) (fun _ => trivial) ?_ ⟨z, by exact many_put3 (HOK.out _) (by rw [HVL.out]; rfl) hL, hcm, hph⟩
         go_simp
       · skip
         have HM7k := HM7.out.keep hcm
         have j0' : w'.cell? ⟨bm + 1, 0, none⟩ = some (.int .i64 TX) := blk_cell (HM7k.b 1 _ rfl) 0
         have j1' : w'.cell? ⟨bm + 1, 1, none⟩ = some (.int .i64 TY) := blk_cell (HM7k.b 1 _ rfl) 1
         have j2' : w'.cell? ⟨bm + 1, 2, none⟩ = some (.int .i64 (LV : Int)) := blk_cell (HM7k.b 1 _ rfl) 2
         have j3' : w'.cell? ⟨bm + 1, 3, none⟩ = some (.int .i64 (BW : Int)) := blk_cell (HM7k.b 1 _ rfl) 3
         have j4' : w'.cell? ⟨bm + 1, 4, none⟩ = some (.int .i64 (BH : Int)) := blk_cell (HM7k.b 1 _ rfl) 4
         have j5' : w'.cell? ⟨bm + 1, 5, none⟩ = some (.int .i64 15) := blk_cell (HM7k.b 1 _ rfl) 5
         have j6' : w'.cell? ⟨bm + 1, 6, none⟩ = some (.int .i64 ST) := blk_cell (HM7k.b 1 _ rfl) 6
         have j7' : w'.cell? ⟨bm + 1, 7, none⟩ = some (.int .i64 (o : Int)) := blk_cell (HM7k.b 1 _ rfl) 7
         have j8' : w'.cell? ⟨bm + 1, 8, none⟩ = some (.int .i64 (LY : Int)) := blk_cell (HM7k.b 1 _ rfl) 8
         have j9' : w'.cell? ⟨bm + 1, 9, none⟩ = some (.bool RC) := blk_cell (HM7k.b 1 _ rfl) 9
         have j10' : w'.cell? ⟨bm + 1, 10, none⟩ = some (.bool SO) := blk_cell (HM7k.b 1 _ rfl) 10
         have j11' : w'.cell? ⟨bm + 1, 11, none⟩ = some (.bool EP) := blk_cell (HM7k.b 1 _ rfl) 11
         have e6 : (many gg_ L (VL z))[6]?.getD undef = .pointer (some ⟨bm + 1, 0, none⟩) := many_out3 hgN (HOK.out z) (by rw [HVL.out]; rfl) hF6
         refine opIn_run (v := .agg #[.int .i64 TX, .int .i64 TY, .int .i64 (LV : Int), .int .i64 (BW : Int), .int .i64 (BH : Int), .int .i64 15, .int .i64 ST, .int .i64 (o : Int), .int .i64 (LY : Int), .bool RC, .bool SO, .bool EP]) (w' := w') rfl rfl (fun c h => by cases h) (fun _ => trivial) ?_ ⟨z, by exact many_put3 (HOK.out _) (by rw [HVL.out]; rfl) hL, hcm, hph⟩
         go_simp
       · skip
         have y0 : L 0 = true := up_at hu 0 (by kernel_rfl)
         have y1 : L 1 = true := up_at hu 1 (by kernel_rfl)
         have y2 : L 2 = true := up_at hu 2 (by kernel_rfl)
         have e64 : (many gg_ L (VL z))[64]?.getD undef = .agg #[.int .i64 rx0, .int .i64 ry0, .int .i64 rx1, .int .i64 ry1] := many_eval3 hgN (HOK.out z) (by rw [HVL.out]; rfl) y0
         have e65 : (many gg_ L (VL z))[65]?.getD undef = .agg #[.int .i64 X, .int .i64 Y, .int .i64 OX, .int .i64 OY, .slice A2 N C2] := many_eval3 hgN (HOK.out z) (by rw [HVL.out]; rfl) y1
         have e66 : (many gg_ L (VL z))[66]?.getD undef = .agg #[.int .i64 TX, .int .i64 TY, .int .i64 (LV : Int), .int .i64 (BW : Int), .int .i64 (BH : Int), .int .i64 15, .int .i64 ST, .int .i64 (o : Int), .int .i64 (LY : Int), .bool RC, .bool SO, .bool EP] := many_eval3 hgN (HOK.out z) (by rw [HVL.out]; rfl) y2
         refine opIn_call (f := 13) (args := #[.agg #[.int .i64 rx0, .int .i64 ry0, .int .i64 rx1, .int .i64 ry1], .agg #[.int .i64 X, .int .i64 Y, .int .i64 OX, .int .i64 OY, .slice A2 N C2], .agg #[.int .i64 TX, .int .i64 TY, .int .i64 (LV : Int), .int .i64 (BW : Int), .int .i64 (BH : Int), .int .i64 15, .int .i64 ST, .int .i64 (o : Int), .int .i64 (LY : Int), .bool RC, .bool SO, .bool EP]]) (w' := w') rfl rfl (fun c h => by cases h) (fun _ => trivial) rfl (by go_simp) ((callsIn_wide.2 (LCm.out w' hcm)).mono ?_)
         rintro e w2 ⟨A_, c_, rfl, hb⟩
         exact ⟨_, rfl, (A_, c_), by rw [show many gg_ L (VL z) = many gg_ L (VL (A_, c_)) from by rw [HVL.out]; simp only [many, y0, y1, y2, hL, cond_false, cond_true]]; exact many_put3 (HOK.out _) (by rw [HVL.out]; rfl) hL, hcm.trans (hb.mono hcm.size), trivial⟩
       · skip
         have y3 : L 3 = true := up_at hu 3 (by kernel_rfl)
         have e67 : (many gg_ L (VL z))[67]?.getD undef = .slice z.1 m z.2 := many_eval3 hgN (HOK.out z) (by rw [HVL.out]; rfl) y3
         refine opIn_run (v := .int .i64 (m : Int)) (w' := w') rfl rfl (fun c h => by cases h) (fun _ => trivial) ?_ ⟨z, by exact many_put3 (HOK.out _) (by rw [HVL.out]; rfl) hL, hcm, hph⟩
         go_simp
       · skip
         have e8 : (many gg_ L (VL z))[8]?.getD undef = .int .i64 (sc : Int) := many_out3 hgN (HOK.out z) (by rw [HVL.out]; rfl) hF8
         refine opIn_run (v := .int .i64 (sc : Int)) (w' := w') rfl rfl (fun c h => by cases h) (fun _ => trivial) ?_ ⟨z, by exact many_put3 (HOK.out _) (by rw [HVL.out]; rfl) hL, hcm, hph⟩
         go_simp
       · skip
         have e6 : (many gg_ L (VL z))[6]?.getD undef = .pointer (some ⟨bm + 1, 0, none⟩) := many_out3 hgN (HOK.out z) (by rw [HVL.out]; rfl) hF6
         refine opIn_run (v := .pointer (some ⟨bm + 1, 8, none⟩)) (w' := w') rfl rfl (fun c h => by cases h) (fun _ => trivial) ?_ ⟨z, by exact many_put3 (HOK.out _) (by rw [HVL.out]; rfl) hL, hcm, hph⟩
         go_simp
       · skip
         have y6 : L 6 = true := up_at hu 6 (by kernel_rfl)
         have hcell : w'.cell? ⟨bm + 1, 8, none⟩ = some (.int .i64 (LY : Int)) := blk_cell ((HM7.out.keep hcm).b 1 _ rfl) 8
         have e70 : (many gg_ L (VL z))[70]?.getD undef = .pointer (some ⟨bm + 1, 8, none⟩) := many_eval3 hgN (HOK.out z) (by rw [HVL.out]; rfl) y6
         refine opIn_run (v := .int .i64 (LY : Int)) (w' := w') rfl rfl (fun c h => by cases h) (fun _ => trivial) ?_ ⟨z, by exact many_put3 (HOK.out _) (by rw [HVL.out]; rfl) hL, hcm, hph⟩
         go_simp
       · skip
         have y5 : L 5 = true := up_at hu 5 (by kernel_rfl)
         have y7 : L 7 = true := up_at hu 7 (by kernel_rfl)
         have e69 : (many gg_ L (VL z))[69]?.getD undef = .int .i64 (sc : Int) := many_eval3 hgN (HOK.out z) (by rw [HVL.out]; rfl) y5
         have e71 : (many gg_ L (VL z))[71]?.getD undef = .int .i64 (LY : Int) := many_eval3 hgN (HOK.out z) (by rw [HVL.out]; rfl) y7
         refine opIn_run (v := .int .i64 (m : Int)) (w' := w') rfl rfl (fun c h => by cases h) (fun _ => trivial) ?_ ⟨z, by exact many_put3 (HOK.out _) (by rw [HVL.out]; rfl) hL, hcm, trivial⟩
         have hb9 : -9223372036854775808 ≤ (m : Int) ∧ (m : Int) ≤ 9223372036854775807 := by omega
         go_simp
         rw [HMM.out.1]
         exact IntWalk.i64_in _ hb9
       · skip
         have y4 : L 4 = true := up_at hu 4 (by kernel_rfl)
         have y8 : L 8 = true := up_at hu 8 (by kernel_rfl)
         have e68 : (many gg_ L (VL z))[68]?.getD undef = .int .i64 (m : Int) := many_eval3 hgN (HOK.out z) (by rw [HVL.out]; rfl) y4
         have e72 : (many gg_ L (VL z))[72]?.getD undef = .int .i64 (m : Int) := many_eval3 hgN (HOK.out z) (by rw [HVL.out]; rfl) y8
         refine opIn_run (v := .bool true) (w' := w') rfl rfl (fun c h => by cases h) (fun _ => trivial) ?_ ⟨z, by exact many_put3 (HOK.out _) (by rw [HVL.out]; rfl) hL, hcm, hph⟩
         go_simp
       · skip
         have y0 : L 0 = true := up_at hu 0 (by kernel_rfl)
         have y1 : L 1 = true := up_at hu 1 (by kernel_rfl)
         have y2 : L 2 = true := up_at hu 2 (by kernel_rfl)
         have y3 : L 3 = true := up_at hu 3 (by kernel_rfl)
         have y4 : L 4 = true := up_at hu 4 (by kernel_rfl)
         have y5 : L 5 = true := up_at hu 5 (by kernel_rfl)
         have y6 : L 6 = true := up_at hu 6 (by kernel_rfl)
         have y7 : L 7 = true := up_at hu 7 (by kernel_rfl)
         have y8 : L 8 = true := up_at hu 8 (by kernel_rfl)
         have y9 : L 9 = true := up_at hu 9 (by kernel_rfl)
         have e73 : (many gg_ L (VL z))[73]?.getD undef = .bool true := many_eval3 hgN (HOK.out z) (by rw [HVL.out]; rfl) y9
         refine opIn_run (v := .bool true) (w' := w') rfl rfl (fun c h => by cases h) (fun _ => trivial) ?_ ⟨z, by exact many_put3 (HOK.out _) (by rw [HVL.out]; rfl) hL, hcm, hph⟩
         go_simp
     case fin =>
       intro L z w' hall hph
       obtain ⟨hcm, hph⟩ := hph
       rw [HVL.out]
       dsimp only [manyL, List.set_cons_zero, List.set_cons_succ]
       clear hall HVL HOK HVI
       have HBz : Hid (Below B0 w w') := Lib.hid (HB2.out.trans ((HM7.out.bel.mono (by have := HBM.out; have := HB2.out.size; have := HBE.out; omega)).trans (hcm.mono (by have := HBM.out; have := HB2.out.size; have := HBE.out; have := HM7.out.bel.size; omega))))
       go_wp2_with fail
       go_ret
       exact ⟨rfl, by rw [HBE.out]; exact HBz.out⟩
end Go.Proofs.Ytejoedanhonpkaa
