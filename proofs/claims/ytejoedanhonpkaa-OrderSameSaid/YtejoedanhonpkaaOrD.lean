/- Packets in order: OrderSame walked. -/
import Derived.Test.YtejoedanhonpkaaOrL0
import Derived.Test.YtejoedanhonpkaaOrB
import Derived.Test.YtejoedanhonpkaaReg3
set_option linter.unusedVariables false
set_option linter.unusedSimpArgs false
namespace Go.Proofs.Ytejoedanhonpkaa
open Go.RowKit
set_option maxRecDepth 100000
set_option maxHeartbeats 16000000 in
theorem walk_orderSame (f : FN) (A0 : Option Addr) (len0 cap0 : Nat) (z0 : List Int) (a1 a2 : Int) (w : World) (w0 : IsRow .i64 w A0 len0 cap0 z0) (s0 : -9223372036854775808 ≤ f.sb ∧ f.sb ≤ 9223372036854775807) (w1 : (Lit.int .i64 a1).wf = true) (w2 : (Lit.int .i64 a2).wf = true) :
    Calls Try.prog 6 #[.agg (f.arr A0 len0 cap0), .int .i64 a1, .int .i64 a2] w fun e w' => e = .returned (.bool true) ∧ Below w.heap.size w w' := by
  have MK := Lib.hid (fun u hu => make_any f A0 len0 cap0 z0 14 u (by omega) hu s0)
  obtain ⟨fc, hfc⟩ : ∃ fc, f.arr A0 len0 cap0 = fc := ⟨_, rfl⟩
  have hfs : fc.size = 21 := by rw [← hfc]; rfl
  rw [hfc] at MK ⊢
  have HFS := Lib.hid hfs
  clear hfc hfs
  have HOK := mkPN_ok f 14 (by omega)
  obtain ⟨M, hM⟩ : ∃ M, mkPN f 14 = M := ⟨_, rfl⟩
  obtain ⟨N, hN⟩ : ∃ N, mkN f = N := ⟨_, rfl⟩
  have hNb : 1 ≤ N ∧ N ≤ 4 := by
    have := within_rng f.nc 4 (by omega)
    rw [← hN]
    unfold mkN
    omega
  obtain ⟨DP, hDP⟩ : ∃ D, mkDP f = D := ⟨_, rfl⟩
  have hDPb : 1 ≤ DP ∧ DP ≤ 10 := by
    have := within_rng f.dp 10 (by omega)
    rw [← hDP]
    unfold mkDP
    omega
  rw [hM, hN, hDP] at MK
  rw [hM] at HOK
  clear hM hN hDP
  obtain ⟨X, Y, OX, OY, TX, TY, LV, BW, BH, PR, ST, OD, LY, RC, SO, EP⟩ := M
  obtain ⟨o1, o2, o3, o4, o5, o6, o7, o8, o9, o10, o11, o12, o13⟩ := HOK
  simp only at o1 o2 o3 o4 o5 o6 o7 o8 o9 o10 o11 o12 o13
  clear w1 w2
  obtain ⟨o, ho⟩ : ∃ o : Nat, a1 % 5 = (o : Int) := ⟨(a1 % 5).toNat, by omega⟩
  have ho5 : o < 5 := by omega
  have HO := Lib.hid ho
  clear ho
  obtain ⟨p, hp⟩ : ∃ p : Nat, a2 % 5 = (p : Int) := ⟨(a2 % 5).toNat, by omega⟩
  have hp5 : p < 5 := by omega
  have HP := Lib.hid hp
  clear hp
  go_enter Try.func6, Try.ntmps6
  go_wp2_with fail
  obtain ⟨B0, hB0⟩ : ∃ B, w.heap.size = B := ⟨_, rfl⟩
  obtain ⟨Wf, hWf⟩ : ∃ Wf, w.alloc (Obj.cells fc 24) = Wf := ⟨_, rfl⟩
  have HF0 : Hid (MkW w B0 [(fc, 24)] Wf) := Lib.hid (by
    have h0 : MkW w B0 [] w := ⟨fun i c e => by simp at e, Below.refl _ _, by simp; omega⟩
    have h1 := h0.more (by simp; omega) fc 24
    rw [← hWf]; exact h1)
  rw [hWf, hB0]
  have HBE := Lib.hid hB0
  clear hWf hB0
  refine (known16 _).mono ?_
  rintro e w1 ⟨rfl, hb⟩
  have HF1 := Lib.hid (HF0.out.keep hb)
  clear hb HF0
  have MK1 := MK.out w1 (IsRow.below w0 (by rw [HBE.out]; exact HF1.out.bel))
  go_wp2_with (refine wpList_load_row rfl 24 _ rfl B0 rfl 24 fc (0, 0) _ (show w1.heap[B0]? = _ from HF1.out.b 0 _ rfl) Try.underlying24 rfl (by rw [HFS.out]; kernel_rfl) ?_)
  refine MK1.mono ?_
  rintro e w2 ⟨A2, C2, cs, rfl, hcl, hCR, hKY, hb, hfx⟩
  try simp only at hfx
  try simp only at hKY
  have HB2 : Hid (Below B0 w w2) := Lib.hid (HF1.out.bel.trans (hb.mono (by have := HF1.out.sz; simp at this; omega)))
  have HCR : Hid (CRow B0 w2 (.slice A2 N C2) cs) := Lib.hid (by
    have h1 := HF1.out.sz
    simp at h1
    exact ⟨own_low hCR.own (by omega), fun c hc => (hCR.dat c hc).low (by omega)⟩)
  have HKY : Hid (∀ (i : Nat) (c : Cp), cs[i]? = some c → (1 ≤ c.dx ∧ c.dx ≤ 4) ∧ (1 ≤ c.dy ∧ c.dy ≤ 4)) := Lib.hid (fun i c hc => by have h1 := hKY i c hc; have h2 := cpK_bd (sb := f.sb) (DP := DP) i hDPb; obtain ⟨_, _, h3, h4, _⟩ := h1; rw [h3, h4]; omega)
  have HCL := Lib.hid hcl
  obtain ⟨hTX, hTY, hCT⟩ := hfx
  obtain ⟨rs, hrs1, hrs2, TLx⟩ := tilesO X Y OX OY TX TY A2 N C2 (by omega) (by omega) (by omega) (by omega) hCT
  have HRS := Lib.hid hrs2
  have TL := Lib.hid TLx
  clear MK MK1 hb hCR hKY hcl hCT HF1 w0 s0 hrs2 TLx
  go_wp2_with fail
  obtain ⟨bm, hbm⟩ : ∃ bm, w2.heap.size = bm := ⟨_, rfl⟩
  obtain ⟨W3, hW3⟩ : ∃ W3, (w2.alloc (Obj.cells #[.int .i64 X, .int .i64 Y, .int .i64 OX, .int .i64 OY, .slice A2 N C2] 28)).alloc (Obj.cells #[.int .i64 TX, .int .i64 TY, .int .i64 (LV : Int), .int .i64 (BW : Int), .int .i64 (BH : Int), .int .i64 (PR : Int), .int .i64 ST, .int .i64 OD, .int .i64 (LY : Int), .bool RC, .bool SO, .bool EP] 30) = W3 := ⟨_, rfl⟩
  have HM3 : Hid (MkW w2 bm [(#[.int .i64 X, .int .i64 Y, .int .i64 OX, .int .i64 OY, .slice A2 N C2], 28), (#[.int .i64 TX, .int .i64 TY, .int .i64 (LV : Int), .int .i64 (BW : Int), .int .i64 (BH : Int), .int .i64 (PR : Int), .int .i64 ST, .int .i64 OD, .int .i64 (LY : Int), .bool RC, .bool SO, .bool EP], 30)] W3) := Lib.hid (by
    have h0 : MkW w2 bm [] w2 := ⟨fun i c e => by simp at e, Below.refl _ _, by simp; omega⟩
    have h1 := (h0.more (by simp; omega) #[.int .i64 X, .int .i64 Y, .int .i64 OX, .int .i64 OY, .slice A2 N C2] 28).more (by simp; omega) #[.int .i64 TX, .int .i64 TY, .int .i64 (LV : Int), .int .i64 (BW : Int), .int .i64 (BH : Int), .int .i64 (PR : Int), .int .i64 ST, .int .i64 OD, .int .i64 (LY : Int), .bool RC, .bool SO, .bool EP] 30
    rw [← hW3]; exact h1)
  rw [hW3, hbm]
  have HBM := Lib.hid hbm
  clear hW3 hbm
  have i0' : W3.cell? ⟨bm, 0, none⟩ = some (.int .i64 X) := blk_cell (show W3.heap[bm]? = _ from HM3.out.b 0 _ rfl) 0
  have i1' : W3.cell? ⟨bm, 1, none⟩ = some (.int .i64 Y) := blk_cell (show W3.heap[bm]? = _ from HM3.out.b 0 _ rfl) 1
  have i2' : W3.cell? ⟨bm, 2, none⟩ = some (.int .i64 OX) := blk_cell (show W3.heap[bm]? = _ from HM3.out.b 0 _ rfl) 2
  have i3' : W3.cell? ⟨bm, 3, none⟩ = some (.int .i64 OY) := blk_cell (show W3.heap[bm]? = _ from HM3.out.b 0 _ rfl) 3
  have i4' : W3.cell? ⟨bm, 4, none⟩ = some (.slice A2 N C2) := blk_cell (show W3.heap[bm]? = _ from HM3.out.b 0 _ rfl) 4
  have j0' : W3.cell? ⟨bm + 1, 0, none⟩ = some (.int .i64 TX) := blk_cell (HM3.out.b 1 _ rfl) 0
  have j1' : W3.cell? ⟨bm + 1, 1, none⟩ = some (.int .i64 TY) := blk_cell (HM3.out.b 1 _ rfl) 1
  have j2' : W3.cell? ⟨bm + 1, 2, none⟩ = some (.int .i64 (LV : Int)) := blk_cell (HM3.out.b 1 _ rfl) 2
  have j3' : W3.cell? ⟨bm + 1, 3, none⟩ = some (.int .i64 (BW : Int)) := blk_cell (HM3.out.b 1 _ rfl) 3
  have j4' : W3.cell? ⟨bm + 1, 4, none⟩ = some (.int .i64 (BH : Int)) := blk_cell (HM3.out.b 1 _ rfl) 4
  have j5' : W3.cell? ⟨bm + 1, 5, none⟩ = some (.int .i64 (PR : Int)) := blk_cell (HM3.out.b 1 _ rfl) 5
  have j6' : W3.cell? ⟨bm + 1, 6, none⟩ = some (.int .i64 ST) := blk_cell (HM3.out.b 1 _ rfl) 6
  have j7' : W3.cell? ⟨bm + 1, 7, none⟩ = some (.int .i64 OD) := blk_cell (HM3.out.b 1 _ rfl) 7
  have j8' : W3.cell? ⟨bm + 1, 8, none⟩ = some (.int .i64 (LY : Int)) := blk_cell (HM3.out.b 1 _ rfl) 8
  have j9' : W3.cell? ⟨bm + 1, 9, none⟩ = some (.bool RC) := blk_cell (HM3.out.b 1 _ rfl) 9
  have j10' : W3.cell? ⟨bm + 1, 10, none⟩ = some (.bool SO) := blk_cell (HM3.out.b 1 _ rfl) 10
  have j11' : W3.cell? ⟨bm + 1, 11, none⟩ = some (.bool EP) := blk_cell (HM3.out.b 1 _ rfl) 11
  go_wp2_with fail
  clear i0' i1' i2' i3' i4' j0' j1' j2' j3' j4' j5' j6' j7' j8' j9' j10' j11'
  refine (TL.out _ _ _ _ _ _ _ _ _ _ _).mono ?_
  rintro e W6 ⟨TA, TC, rfl, hRT, hb⟩
  have HM6 := Lib.hid (HM3.out.keep hb)
  obtain ⟨r0, hr0⟩ : ∃ r, rs[0]? = some r := ⟨_, List.getElem?_eq_getElem (by omega)⟩
  have hri := HRS.out 0 r0 hr0
  obtain ⟨rx0, ry0, rx1, ry1⟩ := r0
  have HRI := Lib.hid hri
  obtain ⟨TA', TC', hTA, hTcell⟩ := hRT
  injection hTA with hTA1 hTA2 hTA3
  subst hTA1 hTA3
  obtain ⟨tg, tq, rfl, htg, t0, t1, t2, t3⟩ := hTcell 0 _ hr0
  rw [Nat.zero_mul, Nat.add_zero] at t0 t1 t2 t3
  obtain ⟨tn, htn⟩ : ∃ n, rs.length = n := ⟨_, rfl⟩
  rw [htn] at hrs1 ⊢
  clear hb hri hr0 hTcell hTA2 htn HM3
  obtain ⟨rg, hrg⟩ : ∃ q, W6.heap.size = q := ⟨_, rfl⟩
  obtain ⟨W7, hW7⟩ : ∃ X, W6.alloc (Obj.cells #[.int .i64 rx0, .int .i64 ry0, .int .i64 rx1, .int .i64 ry1] 38) = X := ⟨_, rfl⟩
  have HM7 : Hid (MkW w2 bm [(#[.int .i64 X, .int .i64 Y, .int .i64 OX, .int .i64 OY, .slice A2 N C2], 28), (#[.int .i64 TX, .int .i64 TY, .int .i64 (LV : Int), .int .i64 (BW : Int), .int .i64 (BH : Int), .int .i64 (PR : Int), .int .i64 ST, .int .i64 OD, .int .i64 (LY : Int), .bool RC, .bool SO, .bool EP], 30)] W7) := Lib.hid (by rw [← hW7]; exact HM6.out.alloc _)
  have HRG : Hid (rg < W7.heap.size ∧ W7.heap[rg]? = some (.cells #[.int .i64 rx0, .int .i64 ry0, .int .i64 rx1, .int .i64 ry1] 38 (0, 0)) ∧ bm + 2 ≤ rg) := Lib.hid (by
    have h1 := HM6.out.sz
    refine ⟨by rw [← hW7, World.size_alloc]; omega, by rw [← hW7, ← hrg]; exact World.alloc_heap_new W6 _, by rw [← hrg]; exact h1⟩)
  go_wp2_with fail
  clear htg t0 t1 t2 t3 HM6
  refine (within16 a1 5 _ (by omega) (by omega)).mono ?_
  rintro e w4 ⟨rfl, rfl⟩
  rw [HO.out]
  have c7 : W7.cell? ⟨bm + 1, 7, none⟩ = some (.int .i64 OD) := blk_cell (HM7.out.b 1 _ rfl) 7
  have z7 : W7.frozen? ⟨bm + 1, 7, none⟩ = false := HM7.out.fro (i := 1) rfl 7
  obtain ⟨W8, hW8⟩ : ∃ X, World.setCell W7 { block := bm + 1, off := 7 } (Value.int IntKind.i64 (o : Int)) = X := ⟨_, rfl⟩
  have HM8 : Hid (MkW w2 bm [(#[.int .i64 X, .int .i64 Y, .int .i64 OX, .int .i64 OY, .slice A2 N C2], 28), (#[.int .i64 TX, .int .i64 TY, .int .i64 (LV : Int), .int .i64 (BW : Int), .int .i64 (BH : Int), .int .i64 (PR : Int), .int .i64 ST, .int .i64 (o : Int), .int .i64 (LY : Int), .bool RC, .bool SO, .bool EP], 30)] W8) := Lib.hid (by rw [← hW8]; exact HM7.out.set (i := 1) rfl rfl 7 _)
  have HRG8 : Hid (rg < W8.heap.size ∧ W8.heap[rg]? = some (.cells #[.int .i64 rx0, .int .i64 ry0, .int .i64 rx1, .int .i64 ry1] 38 (0, 0)) ∧ bm + 2 ≤ rg) := Lib.hid (by
    obtain ⟨h1, h2, h3⟩ := HRG.out
    refine ⟨by rw [← hW8, size_setCell]; exact h1, ?_, h3⟩
    rw [← hW8, Below.heap_setCell W7 _ _ rg (show rg ≠ bm + 1 by omega)]
    exact h2)
  have i0' : W8.cell? ⟨bm, 0, none⟩ = some (.int .i64 X) := blk_cell (show W8.heap[bm]? = _ from HM8.out.b 0 _ rfl) 0
  have i1' : W8.cell? ⟨bm, 1, none⟩ = some (.int .i64 Y) := blk_cell (show W8.heap[bm]? = _ from HM8.out.b 0 _ rfl) 1
  have i2' : W8.cell? ⟨bm, 2, none⟩ = some (.int .i64 OX) := blk_cell (show W8.heap[bm]? = _ from HM8.out.b 0 _ rfl) 2
  have i3' : W8.cell? ⟨bm, 3, none⟩ = some (.int .i64 OY) := blk_cell (show W8.heap[bm]? = _ from HM8.out.b 0 _ rfl) 3
  have i4' : W8.cell? ⟨bm, 4, none⟩ = some (.slice A2 N C2) := blk_cell (show W8.heap[bm]? = _ from HM8.out.b 0 _ rfl) 4
  have j0' : W8.cell? ⟨bm + 1, 0, none⟩ = some (.int .i64 TX) := blk_cell (HM8.out.b 1 _ rfl) 0
  have j1' : W8.cell? ⟨bm + 1, 1, none⟩ = some (.int .i64 TY) := blk_cell (HM8.out.b 1 _ rfl) 1
  have j2' : W8.cell? ⟨bm + 1, 2, none⟩ = some (.int .i64 (LV : Int)) := blk_cell (HM8.out.b 1 _ rfl) 2
  have j3' : W8.cell? ⟨bm + 1, 3, none⟩ = some (.int .i64 (BW : Int)) := blk_cell (HM8.out.b 1 _ rfl) 3
  have j4' : W8.cell? ⟨bm + 1, 4, none⟩ = some (.int .i64 (BH : Int)) := blk_cell (HM8.out.b 1 _ rfl) 4
  have j5' : W8.cell? ⟨bm + 1, 5, none⟩ = some (.int .i64 (PR : Int)) := blk_cell (HM8.out.b 1 _ rfl) 5
  have j6' : W8.cell? ⟨bm + 1, 6, none⟩ = some (.int .i64 ST) := blk_cell (HM8.out.b 1 _ rfl) 6
  have j7' : W8.cell? ⟨bm + 1, 7, none⟩ = some (.int .i64 (o : Int)) := blk_cell (HM8.out.b 1 _ rfl) 7
  have j8' : W8.cell? ⟨bm + 1, 8, none⟩ = some (.int .i64 (LY : Int)) := blk_cell (HM8.out.b 1 _ rfl) 8
  have j9' : W8.cell? ⟨bm + 1, 9, none⟩ = some (.bool RC) := blk_cell (HM8.out.b 1 _ rfl) 9
  have j10' : W8.cell? ⟨bm + 1, 10, none⟩ = some (.bool SO) := blk_cell (HM8.out.b 1 _ rfl) 10
  have j11' : W8.cell? ⟨bm + 1, 11, none⟩ = some (.bool EP) := blk_cell (HM8.out.b 1 _ rfl) 11
  have s0' : W8.cell? ⟨rg, 0, none⟩ = some (.int .i64 rx0) := blk_cell (show W8.heap[rg]? = _ from HRG8.out.2.1) 0
  have s1' : W8.cell? ⟨rg, 1, none⟩ = some (.int .i64 ry0) := blk_cell (show W8.heap[rg]? = _ from HRG8.out.2.1) 1
  have s2' : W8.cell? ⟨rg, 2, none⟩ = some (.int .i64 rx1) := blk_cell (show W8.heap[rg]? = _ from HRG8.out.2.1) 2
  have s3' : W8.cell? ⟨rg, 3, none⟩ = some (.int .i64 ry1) := blk_cell (show W8.heap[rg]? = _ from HRG8.out.2.1) 3
  clear hrg hW7
  go_wp2_with fail
  clear c7 z7 hW8 i0' i1' i2' i3' i4' j0' j1' j2' j3' j4' j5' j6' j7' j8' j9' j10' j11' s0' s1' s2' s3'
  have LC : Hid (∀ u, Below W8.heap.size W8 u → Calls Try.prog 13 #[.agg #[.int .i64 rx0, .int .i64 ry0, .int .i64 rx1, .int .i64 ry1], .agg #[.int .i64 X, .int .i64 Y, .int .i64 OX, .int .i64 OY, .slice A2 N C2], .agg #[.int .i64 TX, .int .i64 TY, .int .i64 (LV : Int), .int .i64 (BW : Int), .int .i64 (BH : Int), .int .i64 (PR : Int), .int .i64 ST, .int .i64 (o : Int), .int .i64 (LY : Int), .bool RC, .bool SO, .bool EP]] u fun e w' => ∃ (M : List Pk) (A : Option Addr) (m c : Nat), e = .returned (.slice A m c) ∧ M.length = m ∧ m ≤ 13000000 ∧ OL (geo (rx0, ry0, rx1, ry1) (cs.map fun c => (c.dx, c.dy)) LV PR) LY o M ∧ KeyL u.heap.size w' A M ∧ Below u.heap.size u w') := Lib.hid (fun u hu =>
    listL_any (lo := B0) o ho5 (rx0, ry0, rx1, ry1) X Y OX OY A2 N C2 cs TX TY BW BH ST RC SO EP LV PR LY u HRI.out.1 HRI.out.2 HKY.out (by rw [HCL.out]; omega) (by rw [HCL.out]; omega) HCL.out (by omega) (by omega) (by omega) ((HCR.out.below ((HM8.out.bel.mono (by rw [HBM.out]; omega)).trans (hu.mono HM8.out.bel.size)))))
  refine (LC.out _ (Below.refl _ _)).mono ?_
  rintro e W9 ⟨MX, KX, mx, CX, rfl, hmx, hmx13, hOX, hKX, hb⟩
  have HOX := Lib.hid hOX
  have HKX := Lib.hid hKX
  have HMX := Lib.hid hmx
  have HM9 := Lib.hid (HM8.out.keep hb)
  have HRG9 : Hid (rg < W9.heap.size ∧ W9.heap[rg]? = some (.cells #[.int .i64 rx0, .int .i64 ry0, .int .i64 rx1, .int .i64 ry1] 38 (0, 0)) ∧ bm + 2 ≤ rg) := Lib.hid ⟨Nat.lt_of_lt_of_le HRG8.out.1 hb.size, (hb.block _ HRG8.out.1).trans HRG8.out.2.1, HRG8.out.2.2⟩
  have HLO : Hid (W8.heap.size ≤ W9.heap.size) := Lib.hid hb.size
  have HNB : Hid (bm + 2 ≤ W8.heap.size) := Lib.hid (by have := HM8.out.sz; simp at this; omega)
  clear hmx hOX hKX hb LC HRG8 HM7 HRG HO
  go_wp2_with fail
  refine (within16 a2 5 _ (by omega) (by omega)).mono ?_
  rintro e w4 ⟨rfl, rfl⟩
  rw [HP.out]
  have c7 : W9.cell? ⟨bm + 1, 7, none⟩ = some (.int .i64 (o : Int)) := blk_cell (HM9.out.b 1 _ rfl) 7
  have z7 : W9.frozen? ⟨bm + 1, 7, none⟩ = false := HM9.out.fro (i := 1) rfl 7
  obtain ⟨W10, hW10⟩ : ∃ X, World.setCell W9 { block := bm + 1, off := 7 } (Value.int IntKind.i64 (p : Int)) = X := ⟨_, rfl⟩
  have HM10 : Hid (MkW w2 bm [(#[.int .i64 X, .int .i64 Y, .int .i64 OX, .int .i64 OY, .slice A2 N C2], 28), (#[.int .i64 TX, .int .i64 TY, .int .i64 (LV : Int), .int .i64 (BW : Int), .int .i64 (BH : Int), .int .i64 (PR : Int), .int .i64 ST, .int .i64 (p : Int), .int .i64 (LY : Int), .bool RC, .bool SO, .bool EP], 30)] W10) := Lib.hid (by rw [← hW10]; exact HM9.out.set (i := 1) rfl rfl 7 _)
  have HRG10 : Hid (rg < W10.heap.size ∧ W10.heap[rg]? = some (.cells #[.int .i64 rx0, .int .i64 ry0, .int .i64 rx1, .int .i64 ry1] 38 (0, 0)) ∧ bm + 2 ≤ rg) := Lib.hid (by
    obtain ⟨h1, h2, h3⟩ := HRG9.out
    refine ⟨by rw [← hW10, size_setCell]; exact h1, ?_, h3⟩
    rw [← hW10, Below.heap_setCell W9 _ _ rg (show rg ≠ bm + 1 by omega)]
    exact h2)
  have HKX10 : Hid (KeyR W10 KX MX) := Lib.hid (HKX.out.keep (b := bm + 1) (by rw [← hW10, size_setCell]; exact Nat.le_refl _) (fun k hk _ => by rw [← hW10]; exact Below.heap_setCell W9 _ _ k hk) (by have := HNB.out; omega))
  have i0' : W10.cell? ⟨bm, 0, none⟩ = some (.int .i64 X) := blk_cell (show W10.heap[bm]? = _ from HM10.out.b 0 _ rfl) 0
  have i1' : W10.cell? ⟨bm, 1, none⟩ = some (.int .i64 Y) := blk_cell (show W10.heap[bm]? = _ from HM10.out.b 0 _ rfl) 1
  have i2' : W10.cell? ⟨bm, 2, none⟩ = some (.int .i64 OX) := blk_cell (show W10.heap[bm]? = _ from HM10.out.b 0 _ rfl) 2
  have i3' : W10.cell? ⟨bm, 3, none⟩ = some (.int .i64 OY) := blk_cell (show W10.heap[bm]? = _ from HM10.out.b 0 _ rfl) 3
  have i4' : W10.cell? ⟨bm, 4, none⟩ = some (.slice A2 N C2) := blk_cell (show W10.heap[bm]? = _ from HM10.out.b 0 _ rfl) 4
  have j0' : W10.cell? ⟨bm + 1, 0, none⟩ = some (.int .i64 TX) := blk_cell (HM10.out.b 1 _ rfl) 0
  have j1' : W10.cell? ⟨bm + 1, 1, none⟩ = some (.int .i64 TY) := blk_cell (HM10.out.b 1 _ rfl) 1
  have j2' : W10.cell? ⟨bm + 1, 2, none⟩ = some (.int .i64 (LV : Int)) := blk_cell (HM10.out.b 1 _ rfl) 2
  have j3' : W10.cell? ⟨bm + 1, 3, none⟩ = some (.int .i64 (BW : Int)) := blk_cell (HM10.out.b 1 _ rfl) 3
  have j4' : W10.cell? ⟨bm + 1, 4, none⟩ = some (.int .i64 (BH : Int)) := blk_cell (HM10.out.b 1 _ rfl) 4
  have j5' : W10.cell? ⟨bm + 1, 5, none⟩ = some (.int .i64 (PR : Int)) := blk_cell (HM10.out.b 1 _ rfl) 5
  have j6' : W10.cell? ⟨bm + 1, 6, none⟩ = some (.int .i64 ST) := blk_cell (HM10.out.b 1 _ rfl) 6
  have j7' : W10.cell? ⟨bm + 1, 7, none⟩ = some (.int .i64 (p : Int)) := blk_cell (HM10.out.b 1 _ rfl) 7
  have j8' : W10.cell? ⟨bm + 1, 8, none⟩ = some (.int .i64 (LY : Int)) := blk_cell (HM10.out.b 1 _ rfl) 8
  have j9' : W10.cell? ⟨bm + 1, 9, none⟩ = some (.bool RC) := blk_cell (HM10.out.b 1 _ rfl) 9
  have j10' : W10.cell? ⟨bm + 1, 10, none⟩ = some (.bool SO) := blk_cell (HM10.out.b 1 _ rfl) 10
  have j11' : W10.cell? ⟨bm + 1, 11, none⟩ = some (.bool EP) := blk_cell (HM10.out.b 1 _ rfl) 11
  have s0' : W10.cell? ⟨rg, 0, none⟩ = some (.int .i64 rx0) := blk_cell (show W10.heap[rg]? = _ from HRG10.out.2.1) 0
  have s1' : W10.cell? ⟨rg, 1, none⟩ = some (.int .i64 ry0) := blk_cell (show W10.heap[rg]? = _ from HRG10.out.2.1) 1
  have s2' : W10.cell? ⟨rg, 2, none⟩ = some (.int .i64 rx1) := blk_cell (show W10.heap[rg]? = _ from HRG10.out.2.1) 2
  have s3' : W10.cell? ⟨rg, 3, none⟩ = some (.int .i64 ry1) := blk_cell (show W10.heap[rg]? = _ from HRG10.out.2.1) 3
  go_wp2_with fail
  clear c7 z7 hW10 i0' i1' i2' i3' i4' j0' j1' j2' j3' j4' j5' j6' j7' j8' j9' j10' j11' s0' s1' s2' s3'
  have LC : Hid (∀ u, Below W10.heap.size W10 u → Calls Try.prog 13 #[.agg #[.int .i64 rx0, .int .i64 ry0, .int .i64 rx1, .int .i64 ry1], .agg #[.int .i64 X, .int .i64 Y, .int .i64 OX, .int .i64 OY, .slice A2 N C2], .agg #[.int .i64 TX, .int .i64 TY, .int .i64 (LV : Int), .int .i64 (BW : Int), .int .i64 (BH : Int), .int .i64 (PR : Int), .int .i64 ST, .int .i64 (p : Int), .int .i64 (LY : Int), .bool RC, .bool SO, .bool EP]] u fun e w' => ∃ (M : List Pk) (A : Option Addr) (m c : Nat), e = .returned (.slice A m c) ∧ M.length = m ∧ m ≤ 13000000 ∧ OL (geo (rx0, ry0, rx1, ry1) (cs.map fun c => (c.dx, c.dy)) LV PR) LY p M ∧ KeyR w' A M ∧ Below u.heap.size u w') := Lib.hid (fun u hu =>
    listP_any (lo := B0) p hp5 (rx0, ry0, rx1, ry1) X Y OX OY A2 N C2 cs TX TY BW BH ST RC SO EP LV PR LY u HRI.out.1 HRI.out.2 HKY.out (by rw [HCL.out]; omega) (by rw [HCL.out]; omega) HCL.out (by omega) (by omega) (by omega) ((HCR.out.below ((HM10.out.bel.mono (by rw [HBM.out]; omega)).trans (hu.mono HM10.out.bel.size)))))
  refine (LC.out _ (Below.refl _ _)).mono ?_
  rintro e W11 ⟨MY, KY, my, CY, rfl, hmy, hmy13, hOY, hKY2, hb⟩
  have HOY := Lib.hid hOY
  have HMY := Lib.hid hmy
  have HKX := Lib.hid (HKX10.out.below hb)
  have HKY2 := Lib.hid hKY2
  have HM11 := Lib.hid (HM10.out.keep hb)
  have hxy : mx = my := by rw [← HMX.out, ← hmy]; exact (same_perm HOX.out hOY).length_eq
  subst hxy
  have hmk := hmkB W11 mx (by omega)
  clear hmy hOY hKY2 hb LC HKX10 HRG9 HRG10 HM9 HM10 HLO HNB
  go_upto_block 0 with fail
  clear hmk
  obtain ⟨ug, hug⟩ : ∃ q, W11.heap.size = q := ⟨_, rfl⟩
  obtain ⟨W12, hW12⟩ : ∃ X, W11.alloc (Obj.cells (bA mx fun _ => false) 4) = X := ⟨_, rfl⟩
  rw [hug, hW12]
  have HW12 : Hid (Below ug W11 W12 ∧ W12.heap[ug]? = some (.cells (bA mx fun _ => false) 4 (0, 0)) ∧ W11.heap.size = ug) := Lib.hid ⟨by rw [← hW12, ← hug]; exact (Below.refl _ _).alloc (Nat.le_refl _) _, by rw [← hW12, ← hug]; exact World.alloc_heap_new W11 _, hug⟩
  clear hug hW12
  go_wp2_with fail
  go_loopg [13] mx (fun g v wr => ∃ (i : Nat) (V : Nat → Bool), i + g = mx ∧ v = .int .i64 (i : Int) ∧ Hid (Below ug W11 wr ∧ wr.heap[ug]? = some (.cells (bA mx V) 4 (0, 0)) ∧ MatchIs MX MY i V))
  case atStart => exact ⟨0, fun _ => false, by omega, rfl, Lib.hid ⟨HW12.out.1, HW12.out.2.1, match0 MX MY⟩⟩
  case round =>
   obtain ⟨i, V, hig, rfl, HI⟩ := hrel
   obtain ⟨wa, hwa⟩ : ∃ wa, wa = wr := ⟨wr, rfl⟩
   subst hwa
   by_cases him : i < mx
   · obtain ⟨g0, rfl⟩ : ∃ g0, gk = g0 + 1 := ⟨gk - 1, by omega⟩
     have hiI : (i : Int) < (mx : Int) := by omega
     obtain ⟨a, ha⟩ : ∃ a, MX[i]? = some a := ⟨_, List.getElem?_eq_getElem (by rw [HMX.out]; exact him)⟩
     have HA := Lib.hid ha
     obtain ⟨k0, hk0⟩ := match_some HOX.out HOY.out ha
     have HK0 := Lib.hid hk0
     obtain ⟨kg, ko, hKX, hkgl, u0, u1, u2, u3⟩ := HKX.out i a ha
     subst hKX
     obtain ⟨aL, haL⟩ : ∃ n, a.ly = n := ⟨_, rfl⟩
     obtain ⟨aR, haR⟩ : ∃ n, a.rs = n := ⟨_, rfl⟩
     obtain ⟨aC, haC⟩ : ∃ n, a.cp = n := ⟨_, rfl⟩
     obtain ⟨aP, haP⟩ : ∃ n, a.pc = n := ⟨_, rfl⟩
     rw [haL] at u0; rw [haR] at u1; rw [haC] at u2; rw [haP] at u3
     have HU : Hid (kg < ug ∧ (W11.cell? ⟨kg, ko + i * 4, none⟩ = some (.int .i64 aL) ∧ W11.cell? ⟨kg, ko + i * 4 + 1, none⟩ = some (.int .i64 aR) ∧ W11.cell? ⟨kg, ko + i * 4 + 2, none⟩ = some (.int .i64 aC) ∧ W11.cell? ⟨kg, ko + i * 4 + 3, none⟩ = some (.int .i64 aP)) ∧ (a.ly = aL ∧ a.rs = aR ∧ a.cp = aC ∧ a.pc = aP)) := Lib.hid ⟨by have := HW12.out.2.2; omega, ⟨u0, u1, u2, u3⟩, haL, haR, haC, haP⟩
     clear ha hk0 hkgl u0 u1 u2 u3 haL haR haC haP
     go_upto_block 2 with fail
     go_cut [14, 15] from 51 to 79 (fun x y wx => ∃ V', x = .bool true ∧ Hid (Below ug W11 wx ∧ wx.heap[ug]? = some (.cells (bA mx V') 4 (0, 0)) ∧ MatchIs MX MY (i + 1) V'))
     case first =>
      go_wp2_with fail
      go_loopg [14, 15] mx (fun g x v wr => ∃ (k : Nat) (fd : Bool) (V' : Nat → Bool), k + g = mx ∧ x = .bool fd ∧ v = .int .i64 (k : Int) ∧ Hid (Below ug W11 wr ∧ wr.heap[ug]? = some (.cells (bA mx V') 4 (0, 0)) ∧ (fd = false → V' = V ∧ ∀ k', k' < k → MY[k']? ≠ some a) ∧ (fd = true → MatchIs MX MY (i + 1) V')))
      case atStart => exact ⟨0, false, V, by omega, rfl, rfl, Lib.hid ⟨HI.out.1, HI.out.2.1, fun _ => ⟨rfl, fun k' h => absurd h (by omega)⟩, fun h => by cases h⟩⟩
      case round =>
       obtain ⟨k, fd, V', hkg, rfl, rfl, HJ⟩ := hrel
       obtain ⟨wb, hwb⟩ : ∃ wa, wa = wr := ⟨wr, rfl⟩
       subst hwb
       cases fd with
       | true =>
         have HE := Lib.hid (show _ ∧ _ ∧ _ from ⟨HJ.out.1, HJ.out.2.1, HJ.out.2.2.2 rfl⟩)
         clear HJ HI
         by_cases hkm : (k : Int) < (mx : Int)
         · go_wp2_with fail
           go_meet
           exact ⟨V', rfl, HE⟩
         · go_wp2_with fail
           go_meet
           exact ⟨V', rfl, HE⟩
       | false =>
         obtain ⟨rfl, hno⟩ := HJ.out.2.2.1 rfl
         have hkm : k < mx := by
           refine Nat.lt_of_not_le fun hn => ?_
           have h0 := HK0.out
           have h1 := (List.getElem?_eq_some_iff.1 h0).1
           rw [HMY.out] at h1
           exact hno k0 (by omega) h0
         have HNO := Lib.hid hno
         have HB := Lib.hid (show _ ∧ _ from ⟨HJ.out.1, HJ.out.2.1⟩)
         clear hno HJ
         obtain ⟨g1, rfl⟩ : ∃ g0, gk = g0 + 1 := ⟨gk - 1, by omega⟩
         have hkI : (k : Int) < (mx : Int) := by omega
         obtain ⟨y, hy⟩ : ∃ y, MY[k]? = some y := ⟨_, List.getElem?_eq_getElem (by rw [HMY.out]; exact hkm)⟩
         have HY := Lib.hid hy
         obtain ⟨yg, yo, hKY, hygl, v0, v1, v2, v3⟩ := HKY2.out k y hy
         subst hKY
         obtain ⟨bL, hbL⟩ : ∃ n, y.ly = n := ⟨_, rfl⟩
         obtain ⟨bR, hbR⟩ : ∃ n, y.rs = n := ⟨_, rfl⟩
         obtain ⟨bC, hbC⟩ : ∃ n, y.cp = n := ⟨_, rfl⟩
         obtain ⟨bP, hbP⟩ : ∃ n, y.pc = n := ⟨_, rfl⟩
         rw [hbL] at v0; rw [hbR] at v1; rw [hbC] at v2; rw [hbP] at v3
         have HV : Hid (yg < ug ∧ (W11.cell? ⟨yg, yo + k * 4, none⟩ = some (.int .i64 bL) ∧ W11.cell? ⟨yg, yo + k * 4 + 1, none⟩ = some (.int .i64 bR) ∧ W11.cell? ⟨yg, yo + k * 4 + 2, none⟩ = some (.int .i64 bC) ∧ W11.cell? ⟨yg, yo + k * 4 + 3, none⟩ = some (.int .i64 bP)) ∧ (y.ly = bL ∧ y.rs = bR ∧ y.cp = bC ∧ y.pc = bP)) := Lib.hid ⟨by have := HW12.out.2.2; omega, ⟨v0, v1, v2, v3⟩, hbL, hbR, hbC, hbP⟩
         clear hy hygl v0 v1 v2 v3 hbL hbR hbC hbP
         obtain ⟨vk, hvk⟩ : ∃ v, V' k = v := ⟨_, rfl⟩
         have HVK := Lib.hid hvk
         clear hvk
         go_wp2_with fail
         cases vk with
         | true =>
           have HNE : Hid (y ≠ a) := Lib.hid (match_ne HOX.out HOY.out HI.out.2.2 HA.out HY.out HVK.out)
           obtain ⟨VLu, hVL⟩ : ∃ VL : Unit → List (Nat × Nat × Value), VL = fun z => [(0, 61, .slice (some ⟨ug, 0, none⟩) mx mx), (1, 62, .int .i64 (k : Int)), (2, 63, .pointer (some ⟨ug, k, none⟩)), (3, 64, .bool true), (4, 65, .bool false), (5, 66, .bool false), (6, 67, undef), (7, 68, undef), (8, 69, undef), (9, 70, undef), (10, 71, undef), (11, 72, undef), (12, 73, undef), (13, 74, undef), (14, 75, undef), (15, 76, .bool false)] := ⟨_, rfl⟩
           have hok : ∀ z, manyOk 87 (VLu z) := fun z => by rw [hVL]; exact okB_ok rfl
           have HVLu := Lib.hid hVL
           have hvi : ∀ z, ∀ x ∈ VLu z, x.1 < 16 := fun z => by rw [hVL]; exact ltB_ok rfl
           have HOKu := Lib.hid hok
           have HVIu := Lib.hid hvi
           clear hVL hok hvi
           refine (wpIn_wide (n := 9)).1 (regionIn_many (N := 87) (w := _) VLu (fun L z w' => Below ug W11 w' ∧ w'.heap[ug]? = some (.cells (bA mx V') 4 (0, 0))) [(10, .slice (some ⟨kg, ko, none⟩) mx CX), (11, .slice (some ⟨yg, yo, none⟩) mx CY), (12, .slice (some ⟨ug, 0, none⟩) mx mx), (13, .int .i64 (i : Int)), (15, .int .i64 (k : Int))] (by kernel_rfl) (by kernel_rfl) rfl (by simp only [List.forall_mem_cons, List.not_mem_nil, false_imp_iff, implies_true, and_true]; exact ⟨rfl, rfl, rfl, rfl, rfl⟩) HVIu.out () ?startu ?stepu ?finu)
           case startu => exact ⟨HB.out.1.drew, HB.out.2⟩
           case stepu =>
             intro gg_ hgN hgF ii_ hii_ L z w' hph hs hu
             have hF10 := hgF (10, .slice (some ⟨kg, ko, none⟩) mx CX) (by simp)
             have hF11 := hgF (11, .slice (some ⟨yg, yo, none⟩) mx CY) (by simp)
             have hF12 := hgF (12, .slice (some ⟨ug, 0, none⟩) mx mx) (by simp)
             have hF13 := hgF (13, .int .i64 (i : Int)) (by simp)
             have hF15 := hgF (15, .int .i64 (k : Int)) (by simp)
             have hL := hu.1
             have hii_ : ii_ < 16 := hii_
             clear hgF
             obtain rfl | rfl | rfl | rfl | rfl | rfl | rfl | rfl | rfl | rfl | rfl | rfl | rfl | rfl | rfl | rfl := (by omega : ii_ = 0 ∨ ii_ = 1 ∨ ii_ = 2 ∨ ii_ = 3 ∨ ii_ = 4 ∨ ii_ = 5 ∨ ii_ = 6 ∨ ii_ = 7 ∨ ii_ = 8 ∨ ii_ = 9 ∨ ii_ = 10 ∨ ii_ = 11 ∨ ii_ = 12 ∨ ii_ = 13 ∨ ii_ = 14 ∨ ii_ = 15)
             · skip
               have e12 : (many gg_ L (VLu z))[12]?.getD undef = .slice (some ⟨ug, 0, none⟩) mx mx := many_out3 hgN (HOKu.out z) (by rw [HVLu.out]; rfl) hF12
               refine opIn_run (v := .slice (some ⟨ug, 0, none⟩) mx mx) (w' := w') rfl rfl (fun c h => by cases h) (fun _ => trivial) ?_ ⟨z, by exact many_put3 (HOKu.out _) (by rw [HVLu.out]; rfl) hL, hph⟩
               go_simp
             · skip
               have e15 : (many gg_ L (VLu z))[15]?.getD undef = .int .i64 (k : Int) := many_out3 hgN (HOKu.out z) (by rw [HVLu.out]; rfl) hF15
               refine opIn_run (v := .int .i64 (k : Int)) (w' := w') rfl rfl (fun c h => by cases h) (fun _ => trivial) ?_ ⟨z, by exact many_put3 (HOKu.out _) (by rw [HVLu.out]; rfl) hL, hph⟩
               go_simp
             · skip
               have y0 : L 0 = true := up_at hu 0 (by kernel_rfl)
               have y1 : L 1 = true := up_at hu 1 (by kernel_rfl)
               have e61 : (many gg_ L (VLu z))[61]?.getD undef = .slice (some ⟨ug, 0, none⟩) mx mx := many_eval3 hgN (HOKu.out z) (by rw [HVLu.out]; rfl) y0
               have e62 : (many gg_ L (VLu z))[62]?.getD undef = .int .i64 (k : Int) := many_eval3 hgN (HOKu.out z) (by rw [HVLu.out]; rfl) y1
               refine opIn_run (v := .pointer (some ⟨ug, k, none⟩)) (w' := w') rfl rfl (fun c h => by cases h) (fun _ => trivial) ?_ ⟨z, by exact many_put3 (HOKu.out _) (by rw [HVLu.out]; rfl) hL, hph⟩
               have hj0 : ¬ (k : Int) < 0 := by omega
               go_simp
             · skip
               have y2 : L 2 = true := up_at hu 2 (by kernel_rfl)
               have hcell : w'.cell? ⟨ug, k, none⟩ = some (.bool true) := (blk_cell hph.2 k).trans (by rw [bA_get hkm, HVK.out])
               have e63 : (many gg_ L (VLu z))[63]?.getD undef = .pointer (some ⟨ug, k, none⟩) := many_eval3 hgN (HOKu.out z) (by rw [HVLu.out]; rfl) y2
               refine opIn_run (v := .bool true) (w' := w') rfl rfl (fun c h => by cases h) (fun _ => trivial) ?_ ⟨z, by exact many_put3 (HOKu.out _) (by rw [HVLu.out]; rfl) hL, hph⟩
               go_simp
             · skip
               have y3 : L 3 = true := up_at hu 3 (by kernel_rfl)
               have e64 : (many gg_ L (VLu z))[64]?.getD undef = .bool true := many_eval3 hgN (HOKu.out z) (by rw [HVLu.out]; rfl) y3
               refine opIn_run (v := .bool false) (w' := w') rfl rfl (fun c h => by cases h) (fun _ => trivial) ?_ ⟨z, by exact many_put3 (HOKu.out _) (by rw [HVLu.out]; rfl) hL, hph⟩
               go_simp
             · skip
               have y4 : L 4 = true := up_at hu 4 (by kernel_rfl)
               have e65 : (many gg_ L (VLu z))[65]?.getD undef = .bool false := many_eval3 hgN (HOKu.out z) (by rw [HVLu.out]; rfl) y4
               refine opIn_run (v := .bool false) (w' := w') rfl rfl (fun c h => by cases h) (fun _ => trivial) ?_ ⟨z, by exact many_put3 (HOKu.out _) (by rw [HVLu.out]; rfl) hL, hph⟩
               go_simp
             · skip
               have y5 : L 5 = true := up_at hu 5 (by kernel_rfl)
               have e10 : (many gg_ L (VLu z))[10]?.getD undef = .slice (some ⟨kg, ko, none⟩) mx CX := many_out3 hgN (HOKu.out z) (by rw [HVLu.out]; rfl) hF10
               have e66 : (many gg_ L (VLu z))[66]?.getD undef = .bool false := many_eval3 hgN (HOKu.out z) (by rw [HVLu.out]; rfl) y5
               exact opIn_not_g (j := 5) (b := true) (c := false) rfl rfl (by simp [yielded, many_some hgN (show 66 < 87 by decide) e66]) (by decide) (fun _ => trivial) ⟨z, by exact many_put3 (HOKu.out _) (by rw [HVLu.out]; rfl) hL, hph⟩
             · skip
               have y5 : L 5 = true := up_at hu 5 (by kernel_rfl)
               have e13 : (many gg_ L (VLu z))[13]?.getD undef = .int .i64 (i : Int) := many_out3 hgN (HOKu.out z) (by rw [HVLu.out]; rfl) hF13
               have e66 : (many gg_ L (VLu z))[66]?.getD undef = .bool false := many_eval3 hgN (HOKu.out z) (by rw [HVLu.out]; rfl) y5
               exact opIn_not_g (j := 5) (b := true) (c := false) rfl rfl (by simp [yielded, many_some hgN (show 66 < 87 by decide) e66]) (by decide) (fun _ => trivial) ⟨z, by exact many_put3 (HOKu.out _) (by rw [HVLu.out]; rfl) hL, hph⟩
             · skip
               have y5 : L 5 = true := up_at hu 5 (by kernel_rfl)
               have y6 : L 6 = true := up_at hu 6 (by kernel_rfl)
               have y7 : L 7 = true := up_at hu 7 (by kernel_rfl)
               have e66 : (many gg_ L (VLu z))[66]?.getD undef = .bool false := many_eval3 hgN (HOKu.out z) (by rw [HVLu.out]; rfl) y5
               have e67 : (many gg_ L (VLu z))[67]?.getD undef = undef := many_eval3 hgN (HOKu.out z) (by rw [HVLu.out]; rfl) y6
               have e68 : (many gg_ L (VLu z))[68]?.getD undef = undef := many_eval3 hgN (HOKu.out z) (by rw [HVLu.out]; rfl) y7
               exact opIn_not_g (j := 5) (b := true) (c := false) rfl rfl (by simp [yielded, many_some hgN (show 66 < 87 by decide) e66]) (by decide) (fun _ => trivial) ⟨z, by exact many_put3 (HOKu.out _) (by rw [HVLu.out]; rfl) hL, hph⟩
             · skip
               have y5 : L 5 = true := up_at hu 5 (by kernel_rfl)
               have y8 : L 8 = true := up_at hu 8 (by kernel_rfl)
               have e66 : (many gg_ L (VLu z))[66]?.getD undef = .bool false := many_eval3 hgN (HOKu.out z) (by rw [HVLu.out]; rfl) y5
               have e69 : (many gg_ L (VLu z))[69]?.getD undef = undef := many_eval3 hgN (HOKu.out z) (by rw [HVLu.out]; rfl) y8
               exact opIn_not_g (j := 5) (b := true) (c := false) rfl rfl (by simp [yielded, many_some hgN (show 66 < 87 by decide) e66]) (by decide) (fun _ => trivial) ⟨z, by exact many_put3 (HOKu.out _) (by rw [HVLu.out]; rfl) hL, hph⟩
             · skip
               have y5 : L 5 = true := up_at hu 5 (by kernel_rfl)
               have e11 : (many gg_ L (VLu z))[11]?.getD undef = .slice (some ⟨yg, yo, none⟩) mx CY := many_out3 hgN (HOKu.out z) (by rw [HVLu.out]; rfl) hF11
               have e66 : (many gg_ L (VLu z))[66]?.getD undef = .bool false := many_eval3 hgN (HOKu.out z) (by rw [HVLu.out]; rfl) y5
               exact opIn_not_g (j := 5) (b := true) (c := false) rfl rfl (by simp [yielded, many_some hgN (show 66 < 87 by decide) e66]) (by decide) (fun _ => trivial) ⟨z, by exact many_put3 (HOKu.out _) (by rw [HVLu.out]; rfl) hL, hph⟩
             · skip
               have y5 : L 5 = true := up_at hu 5 (by kernel_rfl)
               have e15 : (many gg_ L (VLu z))[15]?.getD undef = .int .i64 (k : Int) := many_out3 hgN (HOKu.out z) (by rw [HVLu.out]; rfl) hF15
               have e66 : (many gg_ L (VLu z))[66]?.getD undef = .bool false := many_eval3 hgN (HOKu.out z) (by rw [HVLu.out]; rfl) y5
               exact opIn_not_g (j := 5) (b := true) (c := false) rfl rfl (by simp [yielded, many_some hgN (show 66 < 87 by decide) e66]) (by decide) (fun _ => trivial) ⟨z, by exact many_put3 (HOKu.out _) (by rw [HVLu.out]; rfl) hL, hph⟩
             · skip
               have y5 : L 5 = true := up_at hu 5 (by kernel_rfl)
               have y10 : L 10 = true := up_at hu 10 (by kernel_rfl)
               have y11 : L 11 = true := up_at hu 11 (by kernel_rfl)
               have e66 : (many gg_ L (VLu z))[66]?.getD undef = .bool false := many_eval3 hgN (HOKu.out z) (by rw [HVLu.out]; rfl) y5
               have e71 : (many gg_ L (VLu z))[71]?.getD undef = undef := many_eval3 hgN (HOKu.out z) (by rw [HVLu.out]; rfl) y10
               have e72 : (many gg_ L (VLu z))[72]?.getD undef = undef := many_eval3 hgN (HOKu.out z) (by rw [HVLu.out]; rfl) y11
               exact opIn_not_g (j := 5) (b := true) (c := false) rfl rfl (by simp [yielded, many_some hgN (show 66 < 87 by decide) e66]) (by decide) (fun _ => trivial) ⟨z, by exact many_put3 (HOKu.out _) (by rw [HVLu.out]; rfl) hL, hph⟩
             · skip
               have y5 : L 5 = true := up_at hu 5 (by kernel_rfl)
               have y12 : L 12 = true := up_at hu 12 (by kernel_rfl)
               have e66 : (many gg_ L (VLu z))[66]?.getD undef = .bool false := many_eval3 hgN (HOKu.out z) (by rw [HVLu.out]; rfl) y5
               have e73 : (many gg_ L (VLu z))[73]?.getD undef = undef := many_eval3 hgN (HOKu.out z) (by rw [HVLu.out]; rfl) y12
               exact opIn_not_g (j := 5) (b := true) (c := false) rfl rfl (by simp [yielded, many_some hgN (show 66 < 87 by decide) e66]) (by decide) (fun _ => trivial) ⟨z, by exact many_put3 (HOKu.out _) (by rw [HVLu.out]; rfl) hL, hph⟩
             · skip
               have y5 : L 5 = true := up_at hu 5 (by kernel_rfl)
               have y9 : L 9 = true := up_at hu 9 (by kernel_rfl)
               have y13 : L 13 = true := up_at hu 13 (by kernel_rfl)
               have e66 : (many gg_ L (VLu z))[66]?.getD undef = .bool false := many_eval3 hgN (HOKu.out z) (by rw [HVLu.out]; rfl) y5
               have e70 : (many gg_ L (VLu z))[70]?.getD undef = undef := many_eval3 hgN (HOKu.out z) (by rw [HVLu.out]; rfl) y9
               have e74 : (many gg_ L (VLu z))[74]?.getD undef = undef := many_eval3 hgN (HOKu.out z) (by rw [HVLu.out]; rfl) y13
               exact opIn_not_g (j := 5) (b := true) (c := false) rfl rfl (by simp [yielded, many_some hgN (show 66 < 87 by decide) e66]) (by decide) (fun _ => trivial) ⟨z, by exact many_put3 (HOKu.out _) (by rw [HVLu.out]; rfl) hL, hph⟩
             · skip
               have y5 : L 5 = true := up_at hu 5 (by kernel_rfl)
               have y14 : L 14 = true := up_at hu 14 (by kernel_rfl)
               have e66 : (many gg_ L (VLu z))[66]?.getD undef = .bool false := many_eval3 hgN (HOKu.out z) (by rw [HVLu.out]; rfl) y5
               have e75 : (many gg_ L (VLu z))[75]?.getD undef = undef := many_eval3 hgN (HOKu.out z) (by rw [HVLu.out]; rfl) y14
               refine opIn_run (v := .bool false) (w' := w') rfl rfl (fun c h => by cases h) (fun _ => trivial) ?_ ⟨z, by exact many_put3 (HOKu.out _) (by rw [HVLu.out]; rfl) hL, hph⟩
               go_simp
           case finu =>
             intro L z w' hall hph
             rw [HVLu.out]
             dsimp only [manyL, List.set_cons_zero, List.set_cons_succ]
             clear hall HVLu HOKu HVIu
             have HB3 := Lib.hid hph
             obtain ⟨wc, hwc⟩ : ∃ W, W = w' := ⟨_, rfl⟩
             subst hwc
             clear hph HB
             go_wp2_with fail
             go_roundg g1
             case measure => omega
             case rel => exact ⟨k + 1, false, V', by omega, rfl, by go_num, Lib.hid ⟨HB3.out.1, HB3.out.2, fun _ => ⟨rfl, fun k' h => by
                 by_cases e : k' = k
                 · subst e; rw [HY.out]; intro h2; exact HNE.out (Option.some.inj h2)
                 · exact HNO.out k' (by omega)⟩, fun h => by cases h⟩⟩
         | false =>
           by_cases hya : y = a
           · have heq : aL = bL ∧ aR = bR ∧ aC = bC ∧ aP = bP := by
               obtain ⟨h1, h2, h3, h4⟩ := HV.out.2.2
               obtain ⟨h5, h6, h7, h8⟩ := HU.out.2.2
               rw [hya] at h1 h2 h3 h4
               exact ⟨h5.symm.trans h1, h6.symm.trans h2, h7.symm.trans h3, h8.symm.trans h4⟩
             obtain ⟨rfl, rfl, rfl, rfl⟩ := heq
             obtain ⟨VLy, hVL⟩ : ∃ VL : Unit → List (Nat × Nat × Value), VL = fun z => [(0, 61, .slice (some ⟨ug, 0, none⟩) mx mx), (1, 62, .int .i64 (k : Int)), (2, 63, .pointer (some ⟨ug, k, none⟩)), (3, 64, .bool false), (4, 65, .bool true), (5, 66, .bool true), (6, 67, .slice (some ⟨kg, ko, none⟩) mx CX), (7, 68, .int .i64 (i : Int)), (8, 69, .pointer (some ⟨kg, ko + i * 4, none⟩)), (9, 70, .agg #[.int .i64 aL, .int .i64 aR, .int .i64 aC, .int .i64 aP]), (10, 71, .slice (some ⟨yg, yo, none⟩) mx CY), (11, 72, .int .i64 (k : Int)), (12, 73, .pointer (some ⟨yg, yo + k * 4, none⟩)), (13, 74, .agg #[.int .i64 aL, .int .i64 aR, .int .i64 aC, .int .i64 aP]), (14, 75, .bool true), (15, 76, .bool true)] := ⟨_, rfl⟩
             have hok : ∀ z, manyOk 87 (VLy z) := fun z => by rw [hVL]; exact okB_ok rfl
             have HVLy := Lib.hid hVL
             have hvi : ∀ z, ∀ x ∈ VLy z, x.1 < 16 := fun z => by rw [hVL]; exact ltB_ok rfl
             have HOKy := Lib.hid hok
             have HVIy := Lib.hid hvi
             clear hVL hok hvi
             refine (wpIn_wide (n := 9)).1 (regionIn_many (N := 87) (w := _) VLy (fun L z w' => Below ug W11 w' ∧ w'.heap[ug]? = some (.cells (bA mx V') 4 (0, 0))) [(10, .slice (some ⟨kg, ko, none⟩) mx CX), (11, .slice (some ⟨yg, yo, none⟩) mx CY), (12, .slice (some ⟨ug, 0, none⟩) mx mx), (13, .int .i64 (i : Int)), (15, .int .i64 (k : Int))] (by kernel_rfl) (by kernel_rfl) rfl (by simp only [List.forall_mem_cons, List.not_mem_nil, false_imp_iff, implies_true, and_true]; exact ⟨rfl, rfl, rfl, rfl, rfl⟩) HVIy.out () ?starty ?stepy ?finy)
             case starty => exact ⟨HB.out.1.drew, HB.out.2⟩
             case stepy =>
               intro gg_ hgN hgF ii_ hii_ L z w' hph hs hu
               have hF10 := hgF (10, .slice (some ⟨kg, ko, none⟩) mx CX) (by simp)
               have hF11 := hgF (11, .slice (some ⟨yg, yo, none⟩) mx CY) (by simp)
               have hF12 := hgF (12, .slice (some ⟨ug, 0, none⟩) mx mx) (by simp)
               have hF13 := hgF (13, .int .i64 (i : Int)) (by simp)
               have hF15 := hgF (15, .int .i64 (k : Int)) (by simp)
               have hL := hu.1
               have hii_ : ii_ < 16 := hii_
               clear hgF
               obtain rfl | rfl | rfl | rfl | rfl | rfl | rfl | rfl | rfl | rfl | rfl | rfl | rfl | rfl | rfl | rfl := (by omega : ii_ = 0 ∨ ii_ = 1 ∨ ii_ = 2 ∨ ii_ = 3 ∨ ii_ = 4 ∨ ii_ = 5 ∨ ii_ = 6 ∨ ii_ = 7 ∨ ii_ = 8 ∨ ii_ = 9 ∨ ii_ = 10 ∨ ii_ = 11 ∨ ii_ = 12 ∨ ii_ = 13 ∨ ii_ = 14 ∨ ii_ = 15)
               · skip
                 have e12 : (many gg_ L (VLy z))[12]?.getD undef = .slice (some ⟨ug, 0, none⟩) mx mx := many_out3 hgN (HOKy.out z) (by rw [HVLy.out]; rfl) hF12
                 refine opIn_run (v := .slice (some ⟨ug, 0, none⟩) mx mx) (w' := w') rfl rfl (fun c h => by cases h) (fun _ => trivial) ?_ ⟨z, by exact many_put3 (HOKy.out _) (by rw [HVLy.out]; rfl) hL, hph⟩
                 go_simp
               · skip
                 have e15 : (many gg_ L (VLy z))[15]?.getD undef = .int .i64 (k : Int) := many_out3 hgN (HOKy.out z) (by rw [HVLy.out]; rfl) hF15
                 refine opIn_run (v := .int .i64 (k : Int)) (w' := w') rfl rfl (fun c h => by cases h) (fun _ => trivial) ?_ ⟨z, by exact many_put3 (HOKy.out _) (by rw [HVLy.out]; rfl) hL, hph⟩
                 go_simp
               · skip
                 have y0 : L 0 = true := up_at hu 0 (by kernel_rfl)
                 have y1 : L 1 = true := up_at hu 1 (by kernel_rfl)
                 have e61 : (many gg_ L (VLy z))[61]?.getD undef = .slice (some ⟨ug, 0, none⟩) mx mx := many_eval3 hgN (HOKy.out z) (by rw [HVLy.out]; rfl) y0
                 have e62 : (many gg_ L (VLy z))[62]?.getD undef = .int .i64 (k : Int) := many_eval3 hgN (HOKy.out z) (by rw [HVLy.out]; rfl) y1
                 refine opIn_run (v := .pointer (some ⟨ug, k, none⟩)) (w' := w') rfl rfl (fun c h => by cases h) (fun _ => trivial) ?_ ⟨z, by exact many_put3 (HOKy.out _) (by rw [HVLy.out]; rfl) hL, hph⟩
                 have hj0 : ¬ (k : Int) < 0 := by omega
                 go_simp
               · skip
                 have y2 : L 2 = true := up_at hu 2 (by kernel_rfl)
                 have hcell : w'.cell? ⟨ug, k, none⟩ = some (.bool false) := (blk_cell hph.2 k).trans (by rw [bA_get hkm, HVK.out])
                 have e63 : (many gg_ L (VLy z))[63]?.getD undef = .pointer (some ⟨ug, k, none⟩) := many_eval3 hgN (HOKy.out z) (by rw [HVLy.out]; rfl) y2
                 refine opIn_run (v := .bool false) (w' := w') rfl rfl (fun c h => by cases h) (fun _ => trivial) ?_ ⟨z, by exact many_put3 (HOKy.out _) (by rw [HVLy.out]; rfl) hL, hph⟩
                 go_simp
               · skip
                 have y3 : L 3 = true := up_at hu 3 (by kernel_rfl)
                 have e64 : (many gg_ L (VLy z))[64]?.getD undef = .bool false := many_eval3 hgN (HOKy.out z) (by rw [HVLy.out]; rfl) y3
                 refine opIn_run (v := .bool true) (w' := w') rfl rfl (fun c h => by cases h) (fun _ => trivial) ?_ ⟨z, by exact many_put3 (HOKy.out _) (by rw [HVLy.out]; rfl) hL, hph⟩
                 go_simp
               · skip
                 have y4 : L 4 = true := up_at hu 4 (by kernel_rfl)
                 have e65 : (many gg_ L (VLy z))[65]?.getD undef = .bool true := many_eval3 hgN (HOKy.out z) (by rw [HVLy.out]; rfl) y4
                 refine opIn_run (v := .bool true) (w' := w') rfl rfl (fun c h => by cases h) (fun _ => trivial) ?_ ⟨z, by exact many_put3 (HOKy.out _) (by rw [HVLy.out]; rfl) hL, hph⟩
                 go_simp
               · skip
                 have y5 : L 5 = true := up_at hu 5 (by kernel_rfl)
                 have e10 : (many gg_ L (VLy z))[10]?.getD undef = .slice (some ⟨kg, ko, none⟩) mx CX := many_out3 hgN (HOKy.out z) (by rw [HVLy.out]; rfl) hF10
                 have e66 : (many gg_ L (VLy z))[66]?.getD undef = .bool true := many_eval3 hgN (HOKy.out z) (by rw [HVLy.out]; rfl) y5
                 refine opIn_run_g (v := .slice (some ⟨kg, ko, none⟩) mx CX) (w' := w') (j := 5) (b := true) rfl rfl (by simp [yielded, many_some hgN (show 66 < 87 by decide) e66]) (fun c h => by cases h) (fun _ => trivial) ?_ ⟨z, by exact many_put3 (HOKy.out _) (by rw [HVLy.out]; rfl) hL, hph⟩
                 go_simp
               · skip
                 have y5 : L 5 = true := up_at hu 5 (by kernel_rfl)
                 have e13 : (many gg_ L (VLy z))[13]?.getD undef = .int .i64 (i : Int) := many_out3 hgN (HOKy.out z) (by rw [HVLy.out]; rfl) hF13
                 have e66 : (many gg_ L (VLy z))[66]?.getD undef = .bool true := many_eval3 hgN (HOKy.out z) (by rw [HVLy.out]; rfl) y5
                 refine opIn_run_g (v := .int .i64 (i : Int)) (w' := w') (j := 5) (b := true) rfl rfl (by simp [yielded, many_some hgN (show 66 < 87 by decide) e66]) (fun c h => by cases h) (fun _ => trivial) ?_ ⟨z, by exact many_put3 (HOKy.out _) (by rw [HVLy.out]; rfl) hL, hph⟩
                 go_simp
               · skip
                 have y5 : L 5 = true := up_at hu 5 (by kernel_rfl)
                 have y6 : L 6 = true := up_at hu 6 (by kernel_rfl)
                 have y7 : L 7 = true := up_at hu 7 (by kernel_rfl)
                 have e66 : (many gg_ L (VLy z))[66]?.getD undef = .bool true := many_eval3 hgN (HOKy.out z) (by rw [HVLy.out]; rfl) y5
                 have e67 : (many gg_ L (VLy z))[67]?.getD undef = .slice (some ⟨kg, ko, none⟩) mx CX := many_eval3 hgN (HOKy.out z) (by rw [HVLy.out]; rfl) y6
                 have e68 : (many gg_ L (VLy z))[68]?.getD undef = .int .i64 (i : Int) := many_eval3 hgN (HOKy.out z) (by rw [HVLy.out]; rfl) y7
                 refine opIn_run_g (v := .pointer (some ⟨kg, ko + i * 4, none⟩)) (w' := w') (j := 5) (b := true) rfl rfl (by simp [yielded, many_some hgN (show 66 < 87 by decide) e66]) (fun c h => by cases h) (fun _ => trivial) ?_ ⟨z, by exact many_put3 (HOKy.out _) (by rw [HVLy.out]; rfl) hL, hph⟩
                 have hj0 : ¬ (i : Int) < 0 := by omega
                 go_simp
               · skip
                 have y5 : L 5 = true := up_at hu 5 (by kernel_rfl)
                 have y8 : L 8 = true := up_at hu 8 (by kernel_rfl)
                 have g0 := (hph.1.cell (p := ⟨kg, ko + i * 4, none⟩) HU.out.1).trans HU.out.2.1.1
                 have g1 := (hph.1.cell (p := ⟨kg, ko + i * 4 + 1, none⟩) HU.out.1).trans HU.out.2.1.2.1
                 have g2 := (hph.1.cell (p := ⟨kg, ko + i * 4 + 2, none⟩) HU.out.1).trans HU.out.2.1.2.2.1
                 have g3 := (hph.1.cell (p := ⟨kg, ko + i * 4 + 3, none⟩) HU.out.1).trans HU.out.2.1.2.2.2
                 have e66 : (many gg_ L (VLy z))[66]?.getD undef = .bool true := many_eval3 hgN (HOKy.out z) (by rw [HVLy.out]; rfl) y5
                 have e69 : (many gg_ L (VLy z))[69]?.getD undef = .pointer (some ⟨kg, ko + i * 4, none⟩) := many_eval3 hgN (HOKy.out z) (by rw [HVLy.out]; rfl) y8
                 refine opIn_run_g (v := .agg #[.int .i64 aL, .int .i64 aR, .int .i64 aC, .int .i64 aP]) (w' := w') (j := 5) (b := true) rfl rfl (by simp [yielded, many_some hgN (show 66 < 87 by decide) e66]) (fun c h => by cases h) (fun _ => trivial) ?_ ⟨z, by exact many_put3 (HOKy.out _) (by rw [HVLy.out]; rfl) hL, hph⟩
                 go_simp
               · skip
                 have y5 : L 5 = true := up_at hu 5 (by kernel_rfl)
                 have e11 : (many gg_ L (VLy z))[11]?.getD undef = .slice (some ⟨yg, yo, none⟩) mx CY := many_out3 hgN (HOKy.out z) (by rw [HVLy.out]; rfl) hF11
                 have e66 : (many gg_ L (VLy z))[66]?.getD undef = .bool true := many_eval3 hgN (HOKy.out z) (by rw [HVLy.out]; rfl) y5
                 refine opIn_run_g (v := .slice (some ⟨yg, yo, none⟩) mx CY) (w' := w') (j := 5) (b := true) rfl rfl (by simp [yielded, many_some hgN (show 66 < 87 by decide) e66]) (fun c h => by cases h) (fun _ => trivial) ?_ ⟨z, by exact many_put3 (HOKy.out _) (by rw [HVLy.out]; rfl) hL, hph⟩
                 go_simp
               · skip
                 have y5 : L 5 = true := up_at hu 5 (by kernel_rfl)
                 have e15 : (many gg_ L (VLy z))[15]?.getD undef = .int .i64 (k : Int) := many_out3 hgN (HOKy.out z) (by rw [HVLy.out]; rfl) hF15
                 have e66 : (many gg_ L (VLy z))[66]?.getD undef = .bool true := many_eval3 hgN (HOKy.out z) (by rw [HVLy.out]; rfl) y5
                 refine opIn_run_g (v := .int .i64 (k : Int)) (w' := w') (j := 5) (b := true) rfl rfl (by simp [yielded, many_some hgN (show 66 < 87 by decide) e66]) (fun c h => by cases h) (fun _ => trivial) ?_ ⟨z, by exact many_put3 (HOKy.out _) (by rw [HVLy.out]; rfl) hL, hph⟩
                 go_simp
               · skip
                 have y5 : L 5 = true := up_at hu 5 (by kernel_rfl)
                 have y10 : L 10 = true := up_at hu 10 (by kernel_rfl)
                 have y11 : L 11 = true := up_at hu 11 (by kernel_rfl)
                 have e66 : (many gg_ L (VLy z))[66]?.getD undef = .bool true := many_eval3 hgN (HOKy.out z) (by rw [HVLy.out]; rfl) y5
                 have e71 : (many gg_ L (VLy z))[71]?.getD undef = .slice (some ⟨yg, yo, none⟩) mx CY := many_eval3 hgN (HOKy.out z) (by rw [HVLy.out]; rfl) y10
                 have e72 : (many gg_ L (VLy z))[72]?.getD undef = .int .i64 (k : Int) := many_eval3 hgN (HOKy.out z) (by rw [HVLy.out]; rfl) y11
                 refine opIn_run_g (v := .pointer (some ⟨yg, yo + k * 4, none⟩)) (w' := w') (j := 5) (b := true) rfl rfl (by simp [yielded, many_some hgN (show 66 < 87 by decide) e66]) (fun c h => by cases h) (fun _ => trivial) ?_ ⟨z, by exact many_put3 (HOKy.out _) (by rw [HVLy.out]; rfl) hL, hph⟩
                 have hj0 : ¬ (k : Int) < 0 := by omega
                 go_simp
               · skip
                 have y5 : L 5 = true := up_at hu 5 (by kernel_rfl)
                 have y12 : L 12 = true := up_at hu 12 (by kernel_rfl)
                 skip
                 have g0 := (hph.1.cell (p := ⟨yg, yo + k * 4, none⟩) HV.out.1).trans HV.out.2.1.1
                 have g1 := (hph.1.cell (p := ⟨yg, yo + k * 4 + 1, none⟩) HV.out.1).trans HV.out.2.1.2.1
                 have g2 := (hph.1.cell (p := ⟨yg, yo + k * 4 + 2, none⟩) HV.out.1).trans HV.out.2.1.2.2.1
                 have g3 := (hph.1.cell (p := ⟨yg, yo + k * 4 + 3, none⟩) HV.out.1).trans HV.out.2.1.2.2.2
                 have e66 : (many gg_ L (VLy z))[66]?.getD undef = .bool true := many_eval3 hgN (HOKy.out z) (by rw [HVLy.out]; rfl) y5
                 have e73 : (many gg_ L (VLy z))[73]?.getD undef = .pointer (some ⟨yg, yo + k * 4, none⟩) := many_eval3 hgN (HOKy.out z) (by rw [HVLy.out]; rfl) y12
                 refine opIn_run_g (v := .agg #[.int .i64 aL, .int .i64 aR, .int .i64 aC, .int .i64 aP]) (w' := w') (j := 5) (b := true) rfl rfl (by simp [yielded, many_some hgN (show 66 < 87 by decide) e66]) (fun c h => by cases h) (fun _ => trivial) ?_ ⟨z, by exact many_put3 (HOKy.out _) (by rw [HVLy.out]; rfl) hL, hph⟩
                 go_simp
               · skip
                 have y5 : L 5 = true := up_at hu 5 (by kernel_rfl)
                 have y9 : L 9 = true := up_at hu 9 (by kernel_rfl)
                 have y13 : L 13 = true := up_at hu 13 (by kernel_rfl)
                 have e66 : (many gg_ L (VLy z))[66]?.getD undef = .bool true := many_eval3 hgN (HOKy.out z) (by rw [HVLy.out]; rfl) y5
                 have e70 : (many gg_ L (VLy z))[70]?.getD undef = .agg #[.int .i64 aL, .int .i64 aR, .int .i64 aC, .int .i64 aP] := many_eval3 hgN (HOKy.out z) (by rw [HVLy.out]; rfl) y9
                 have e74 : (many gg_ L (VLy z))[74]?.getD undef = .agg #[.int .i64 aL, .int .i64 aR, .int .i64 aC, .int .i64 aP] := many_eval3 hgN (HOKy.out z) (by rw [HVLy.out]; rfl) y13
                 refine opIn_run_g (v := .bool true) (w' := w') (j := 5) (b := true) rfl rfl (by simp [yielded, many_some hgN (show 66 < 87 by decide) e66]) (fun c h => by cases h) (fun _ => trivial) ?_ ⟨z, by exact many_put3 (HOKy.out _) (by rw [HVLy.out]; rfl) hL, hph⟩
                 go_simp
               · skip
                 have y5 : L 5 = true := up_at hu 5 (by kernel_rfl)
                 have y14 : L 14 = true := up_at hu 14 (by kernel_rfl)
                 have e66 : (many gg_ L (VLy z))[66]?.getD undef = .bool true := many_eval3 hgN (HOKy.out z) (by rw [HVLy.out]; rfl) y5
                 have e75 : (many gg_ L (VLy z))[75]?.getD undef = .bool true := many_eval3 hgN (HOKy.out z) (by rw [HVLy.out]; rfl) y14
                 refine opIn_run (v := .bool true) (w' := w') rfl rfl (fun c h => by cases h) (fun _ => trivial) ?_ ⟨z, by exact many_put3 (HOKy.out _) (by rw [HVLy.out]; rfl) hL, hph⟩
                 go_simp
             case finy =>
               intro L z w' hall hph
               rw [HVLy.out]
               dsimp only [manyL, List.set_cons_zero, List.set_cons_succ]
               clear hall HVLy HOKy HVIy
               have HB3 := Lib.hid hph
               obtain ⟨wc, hwc⟩ : ∃ W, W = w' := ⟨_, rfl⟩
               subst hwc
               clear hph HB
               have ck : wc.cell? ⟨ug, k, none⟩ = some (.bool false) := (blk_cell HB3.out.2 k).trans (by rw [bA_get hkm, HVK.out])
               have zk : wc.frozen? ⟨ug, k, none⟩ = false := by simp [World.frozen?, HB3.out.2]
               have hk0' : ¬ (k : Int) < 0 := by omega
               go_wp2_with fail
               go_roundg g1
               case measure => omega
               case rel => exact ⟨k + 1, true, putV V' k, by omega, rfl, by go_num, Lib.hid ⟨HB3.out.1.setCell (Nat.le_refl _) _, by rw [setCell_eq_setRow wc ug k _ _ (0, 0) _ HB3.out.2, bA_put hkm]; exact setRow_heap _ _ _ _ _ _ HB3.out.2, fun h => (by cases h), fun _ => match_put HOX.out HOY.out HI.out.2.2 HA.out (by rw [HY.out, hya])⟩⟩
           · have HNE := Lib.hid hya
             have hnk : ¬ (bL = aL ∧ bR = aR ∧ bC = aC ∧ bP = aP) := by
               rintro ⟨h1, h2, h3, h4⟩
               obtain ⟨e1, e2, e3, e4⟩ := HV.out.2.2
               obtain ⟨e5, e6, e7, e8⟩ := HU.out.2.2
               exact hya (key_eq HOX.out HOY.out (List.mem_of_getElem? HA.out) (List.mem_of_getElem? HY.out) (by omega) (by omega) (by omega) (by omega)).symm
             have HNK := Lib.hid hnk
             clear hnk hya
             obtain ⟨VLn, hVL⟩ : ∃ VL : Unit → List (Nat × Nat × Value), VL = fun z => [(0, 61, .slice (some ⟨ug, 0, none⟩) mx mx), (1, 62, .int .i64 (k : Int)), (2, 63, .pointer (some ⟨ug, k, none⟩)), (3, 64, .bool false), (4, 65, .bool true), (5, 66, .bool true), (6, 67, .slice (some ⟨kg, ko, none⟩) mx CX), (7, 68, .int .i64 (i : Int)), (8, 69, .pointer (some ⟨kg, ko + i * 4, none⟩)), (9, 70, .agg #[.int .i64 aL, .int .i64 aR, .int .i64 aC, .int .i64 aP]), (10, 71, .slice (some ⟨yg, yo, none⟩) mx CY), (11, 72, .int .i64 (k : Int)), (12, 73, .pointer (some ⟨yg, yo + k * 4, none⟩)), (13, 74, .agg #[.int .i64 bL, .int .i64 bR, .int .i64 bC, .int .i64 bP]), (14, 75, .bool false), (15, 76, .bool false)] := ⟨_, rfl⟩
             have hok : ∀ z, manyOk 87 (VLn z) := fun z => by rw [hVL]; exact okB_ok rfl
             have HVLn := Lib.hid hVL
             have hvi : ∀ z, ∀ x ∈ VLn z, x.1 < 16 := fun z => by rw [hVL]; exact ltB_ok rfl
             have HOKn := Lib.hid hok
             have HVIn := Lib.hid hvi
             clear hVL hok hvi
             refine (wpIn_wide (n := 9)).1 (regionIn_many (N := 87) (w := _) VLn (fun L z w' => Below ug W11 w' ∧ w'.heap[ug]? = some (.cells (bA mx V') 4 (0, 0))) [(10, .slice (some ⟨kg, ko, none⟩) mx CX), (11, .slice (some ⟨yg, yo, none⟩) mx CY), (12, .slice (some ⟨ug, 0, none⟩) mx mx), (13, .int .i64 (i : Int)), (15, .int .i64 (k : Int))] (by kernel_rfl) (by kernel_rfl) rfl (by simp only [List.forall_mem_cons, List.not_mem_nil, false_imp_iff, implies_true, and_true]; exact ⟨rfl, rfl, rfl, rfl, rfl⟩) HVIn.out () ?startn ?stepn ?finn)
             case startn => exact ⟨HB.out.1.drew, HB.out.2⟩
             case stepn =>
               intro gg_ hgN hgF ii_ hii_ L z w' hph hs hu
               have hF10 := hgF (10, .slice (some ⟨kg, ko, none⟩) mx CX) (by simp)
               have hF11 := hgF (11, .slice (some ⟨yg, yo, none⟩) mx CY) (by simp)
               have hF12 := hgF (12, .slice (some ⟨ug, 0, none⟩) mx mx) (by simp)
               have hF13 := hgF (13, .int .i64 (i : Int)) (by simp)
               have hF15 := hgF (15, .int .i64 (k : Int)) (by simp)
               have hL := hu.1
               have hii_ : ii_ < 16 := hii_
               clear hgF
               obtain rfl | rfl | rfl | rfl | rfl | rfl | rfl | rfl | rfl | rfl | rfl | rfl | rfl | rfl | rfl | rfl := (by omega : ii_ = 0 ∨ ii_ = 1 ∨ ii_ = 2 ∨ ii_ = 3 ∨ ii_ = 4 ∨ ii_ = 5 ∨ ii_ = 6 ∨ ii_ = 7 ∨ ii_ = 8 ∨ ii_ = 9 ∨ ii_ = 10 ∨ ii_ = 11 ∨ ii_ = 12 ∨ ii_ = 13 ∨ ii_ = 14 ∨ ii_ = 15)
               · skip
                 have e12 : (many gg_ L (VLn z))[12]?.getD undef = .slice (some ⟨ug, 0, none⟩) mx mx := many_out3 hgN (HOKn.out z) (by rw [HVLn.out]; rfl) hF12
                 refine opIn_run (v := .slice (some ⟨ug, 0, none⟩) mx mx) (w' := w') rfl rfl (fun c h => by cases h) (fun _ => trivial) ?_ ⟨z, by exact many_put3 (HOKn.out _) (by rw [HVLn.out]; rfl) hL, hph⟩
                 go_simp
               · skip
                 have e15 : (many gg_ L (VLn z))[15]?.getD undef = .int .i64 (k : Int) := many_out3 hgN (HOKn.out z) (by rw [HVLn.out]; rfl) hF15
                 refine opIn_run (v := .int .i64 (k : Int)) (w' := w') rfl rfl (fun c h => by cases h) (fun _ => trivial) ?_ ⟨z, by exact many_put3 (HOKn.out _) (by rw [HVLn.out]; rfl) hL, hph⟩
                 go_simp
               · skip
                 have y0 : L 0 = true := up_at hu 0 (by kernel_rfl)
                 have y1 : L 1 = true := up_at hu 1 (by kernel_rfl)
                 have e61 : (many gg_ L (VLn z))[61]?.getD undef = .slice (some ⟨ug, 0, none⟩) mx mx := many_eval3 hgN (HOKn.out z) (by rw [HVLn.out]; rfl) y0
                 have e62 : (many gg_ L (VLn z))[62]?.getD undef = .int .i64 (k : Int) := many_eval3 hgN (HOKn.out z) (by rw [HVLn.out]; rfl) y1
                 refine opIn_run (v := .pointer (some ⟨ug, k, none⟩)) (w' := w') rfl rfl (fun c h => by cases h) (fun _ => trivial) ?_ ⟨z, by exact many_put3 (HOKn.out _) (by rw [HVLn.out]; rfl) hL, hph⟩
                 have hj0 : ¬ (k : Int) < 0 := by omega
                 go_simp
               · skip
                 have y2 : L 2 = true := up_at hu 2 (by kernel_rfl)
                 have hcell : w'.cell? ⟨ug, k, none⟩ = some (.bool false) := (blk_cell hph.2 k).trans (by rw [bA_get hkm, HVK.out])
                 have e63 : (many gg_ L (VLn z))[63]?.getD undef = .pointer (some ⟨ug, k, none⟩) := many_eval3 hgN (HOKn.out z) (by rw [HVLn.out]; rfl) y2
                 refine opIn_run (v := .bool false) (w' := w') rfl rfl (fun c h => by cases h) (fun _ => trivial) ?_ ⟨z, by exact many_put3 (HOKn.out _) (by rw [HVLn.out]; rfl) hL, hph⟩
                 go_simp
               · skip
                 have y3 : L 3 = true := up_at hu 3 (by kernel_rfl)
                 have e64 : (many gg_ L (VLn z))[64]?.getD undef = .bool false := many_eval3 hgN (HOKn.out z) (by rw [HVLn.out]; rfl) y3
                 refine opIn_run (v := .bool true) (w' := w') rfl rfl (fun c h => by cases h) (fun _ => trivial) ?_ ⟨z, by exact many_put3 (HOKn.out _) (by rw [HVLn.out]; rfl) hL, hph⟩
                 go_simp
               · skip
                 have y4 : L 4 = true := up_at hu 4 (by kernel_rfl)
                 have e65 : (many gg_ L (VLn z))[65]?.getD undef = .bool true := many_eval3 hgN (HOKn.out z) (by rw [HVLn.out]; rfl) y4
                 refine opIn_run (v := .bool true) (w' := w') rfl rfl (fun c h => by cases h) (fun _ => trivial) ?_ ⟨z, by exact many_put3 (HOKn.out _) (by rw [HVLn.out]; rfl) hL, hph⟩
                 go_simp
               · skip
                 have y5 : L 5 = true := up_at hu 5 (by kernel_rfl)
                 have e10 : (many gg_ L (VLn z))[10]?.getD undef = .slice (some ⟨kg, ko, none⟩) mx CX := many_out3 hgN (HOKn.out z) (by rw [HVLn.out]; rfl) hF10
                 have e66 : (many gg_ L (VLn z))[66]?.getD undef = .bool true := many_eval3 hgN (HOKn.out z) (by rw [HVLn.out]; rfl) y5
                 refine opIn_run_g (v := .slice (some ⟨kg, ko, none⟩) mx CX) (w' := w') (j := 5) (b := true) rfl rfl (by simp [yielded, many_some hgN (show 66 < 87 by decide) e66]) (fun c h => by cases h) (fun _ => trivial) ?_ ⟨z, by exact many_put3 (HOKn.out _) (by rw [HVLn.out]; rfl) hL, hph⟩
                 go_simp
               · skip
                 have y5 : L 5 = true := up_at hu 5 (by kernel_rfl)
                 have e13 : (many gg_ L (VLn z))[13]?.getD undef = .int .i64 (i : Int) := many_out3 hgN (HOKn.out z) (by rw [HVLn.out]; rfl) hF13
                 have e66 : (many gg_ L (VLn z))[66]?.getD undef = .bool true := many_eval3 hgN (HOKn.out z) (by rw [HVLn.out]; rfl) y5
                 refine opIn_run_g (v := .int .i64 (i : Int)) (w' := w') (j := 5) (b := true) rfl rfl (by simp [yielded, many_some hgN (show 66 < 87 by decide) e66]) (fun c h => by cases h) (fun _ => trivial) ?_ ⟨z, by exact many_put3 (HOKn.out _) (by rw [HVLn.out]; rfl) hL, hph⟩
                 go_simp
               · skip
                 have y5 : L 5 = true := up_at hu 5 (by kernel_rfl)
                 have y6 : L 6 = true := up_at hu 6 (by kernel_rfl)
                 have y7 : L 7 = true := up_at hu 7 (by kernel_rfl)
                 have e66 : (many gg_ L (VLn z))[66]?.getD undef = .bool true := many_eval3 hgN (HOKn.out z) (by rw [HVLn.out]; rfl) y5
                 have e67 : (many gg_ L (VLn z))[67]?.getD undef = .slice (some ⟨kg, ko, none⟩) mx CX := many_eval3 hgN (HOKn.out z) (by rw [HVLn.out]; rfl) y6
                 have e68 : (many gg_ L (VLn z))[68]?.getD undef = .int .i64 (i : Int) := many_eval3 hgN (HOKn.out z) (by rw [HVLn.out]; rfl) y7
                 refine opIn_run_g (v := .pointer (some ⟨kg, ko + i * 4, none⟩)) (w' := w') (j := 5) (b := true) rfl rfl (by simp [yielded, many_some hgN (show 66 < 87 by decide) e66]) (fun c h => by cases h) (fun _ => trivial) ?_ ⟨z, by exact many_put3 (HOKn.out _) (by rw [HVLn.out]; rfl) hL, hph⟩
                 have hj0 : ¬ (i : Int) < 0 := by omega
                 go_simp
               · skip
                 have y5 : L 5 = true := up_at hu 5 (by kernel_rfl)
                 have y8 : L 8 = true := up_at hu 8 (by kernel_rfl)
                 have g0 := (hph.1.cell (p := ⟨kg, ko + i * 4, none⟩) HU.out.1).trans HU.out.2.1.1
                 have g1 := (hph.1.cell (p := ⟨kg, ko + i * 4 + 1, none⟩) HU.out.1).trans HU.out.2.1.2.1
                 have g2 := (hph.1.cell (p := ⟨kg, ko + i * 4 + 2, none⟩) HU.out.1).trans HU.out.2.1.2.2.1
                 have g3 := (hph.1.cell (p := ⟨kg, ko + i * 4 + 3, none⟩) HU.out.1).trans HU.out.2.1.2.2.2
                 have e66 : (many gg_ L (VLn z))[66]?.getD undef = .bool true := many_eval3 hgN (HOKn.out z) (by rw [HVLn.out]; rfl) y5
                 have e69 : (many gg_ L (VLn z))[69]?.getD undef = .pointer (some ⟨kg, ko + i * 4, none⟩) := many_eval3 hgN (HOKn.out z) (by rw [HVLn.out]; rfl) y8
                 refine opIn_run_g (v := .agg #[.int .i64 aL, .int .i64 aR, .int .i64 aC, .int .i64 aP]) (w' := w') (j := 5) (b := true) rfl rfl (by simp [yielded, many_some hgN (show 66 < 87 by decide) e66]) (fun c h => by cases h) (fun _ => trivial) ?_ ⟨z, by exact many_put3 (HOKn.out _) (by rw [HVLn.out]; rfl) hL, hph⟩
                 go_simp
               · skip
                 have y5 : L 5 = true := up_at hu 5 (by kernel_rfl)
                 have e11 : (many gg_ L (VLn z))[11]?.getD undef = .slice (some ⟨yg, yo, none⟩) mx CY := many_out3 hgN (HOKn.out z) (by rw [HVLn.out]; rfl) hF11
                 have e66 : (many gg_ L (VLn z))[66]?.getD undef = .bool true := many_eval3 hgN (HOKn.out z) (by rw [HVLn.out]; rfl) y5
                 refine opIn_run_g (v := .slice (some ⟨yg, yo, none⟩) mx CY) (w' := w') (j := 5) (b := true) rfl rfl (by simp [yielded, many_some hgN (show 66 < 87 by decide) e66]) (fun c h => by cases h) (fun _ => trivial) ?_ ⟨z, by exact many_put3 (HOKn.out _) (by rw [HVLn.out]; rfl) hL, hph⟩
                 go_simp
               · skip
                 have y5 : L 5 = true := up_at hu 5 (by kernel_rfl)
                 have e15 : (many gg_ L (VLn z))[15]?.getD undef = .int .i64 (k : Int) := many_out3 hgN (HOKn.out z) (by rw [HVLn.out]; rfl) hF15
                 have e66 : (many gg_ L (VLn z))[66]?.getD undef = .bool true := many_eval3 hgN (HOKn.out z) (by rw [HVLn.out]; rfl) y5
                 refine opIn_run_g (v := .int .i64 (k : Int)) (w' := w') (j := 5) (b := true) rfl rfl (by simp [yielded, many_some hgN (show 66 < 87 by decide) e66]) (fun c h => by cases h) (fun _ => trivial) ?_ ⟨z, by exact many_put3 (HOKn.out _) (by rw [HVLn.out]; rfl) hL, hph⟩
                 go_simp
               · skip
                 have y5 : L 5 = true := up_at hu 5 (by kernel_rfl)
                 have y10 : L 10 = true := up_at hu 10 (by kernel_rfl)
                 have y11 : L 11 = true := up_at hu 11 (by kernel_rfl)
                 have e66 : (many gg_ L (VLn z))[66]?.getD undef = .bool true := many_eval3 hgN (HOKn.out z) (by rw [HVLn.out]; rfl) y5
                 have e71 : (many gg_ L (VLn z))[71]?.getD undef = .slice (some ⟨yg, yo, none⟩) mx CY := many_eval3 hgN (HOKn.out z) (by rw [HVLn.out]; rfl) y10
                 have e72 : (many gg_ L (VLn z))[72]?.getD undef = .int .i64 (k : Int) := many_eval3 hgN (HOKn.out z) (by rw [HVLn.out]; rfl) y11
                 refine opIn_run_g (v := .pointer (some ⟨yg, yo + k * 4, none⟩)) (w' := w') (j := 5) (b := true) rfl rfl (by simp [yielded, many_some hgN (show 66 < 87 by decide) e66]) (fun c h => by cases h) (fun _ => trivial) ?_ ⟨z, by exact many_put3 (HOKn.out _) (by rw [HVLn.out]; rfl) hL, hph⟩
                 have hj0 : ¬ (k : Int) < 0 := by omega
                 go_simp
               · skip
                 have y5 : L 5 = true := up_at hu 5 (by kernel_rfl)
                 have y12 : L 12 = true := up_at hu 12 (by kernel_rfl)
                 have g0 := (hph.1.cell (p := ⟨yg, yo + k * 4, none⟩) HV.out.1).trans HV.out.2.1.1
                 have g1 := (hph.1.cell (p := ⟨yg, yo + k * 4 + 1, none⟩) HV.out.1).trans HV.out.2.1.2.1
                 have g2 := (hph.1.cell (p := ⟨yg, yo + k * 4 + 2, none⟩) HV.out.1).trans HV.out.2.1.2.2.1
                 have g3 := (hph.1.cell (p := ⟨yg, yo + k * 4 + 3, none⟩) HV.out.1).trans HV.out.2.1.2.2.2
                 have e66 : (many gg_ L (VLn z))[66]?.getD undef = .bool true := many_eval3 hgN (HOKn.out z) (by rw [HVLn.out]; rfl) y5
                 have e73 : (many gg_ L (VLn z))[73]?.getD undef = .pointer (some ⟨yg, yo + k * 4, none⟩) := many_eval3 hgN (HOKn.out z) (by rw [HVLn.out]; rfl) y12
                 refine opIn_run_g (v := .agg #[.int .i64 bL, .int .i64 bR, .int .i64 bC, .int .i64 bP]) (w' := w') (j := 5) (b := true) rfl rfl (by simp [yielded, many_some hgN (show 66 < 87 by decide) e66]) (fun c h => by cases h) (fun _ => trivial) ?_ ⟨z, by exact many_put3 (HOKn.out _) (by rw [HVLn.out]; rfl) hL, hph⟩
                 go_simp
               · skip
                 have y5 : L 5 = true := up_at hu 5 (by kernel_rfl)
                 have y9 : L 9 = true := up_at hu 9 (by kernel_rfl)
                 have y13 : L 13 = true := up_at hu 13 (by kernel_rfl)
                 have e66 : (many gg_ L (VLn z))[66]?.getD undef = .bool true := many_eval3 hgN (HOKn.out z) (by rw [HVLn.out]; rfl) y5
                 have e70 : (many gg_ L (VLn z))[70]?.getD undef = .agg #[.int .i64 aL, .int .i64 aR, .int .i64 aC, .int .i64 aP] := many_eval3 hgN (HOKn.out z) (by rw [HVLn.out]; rfl) y9
                 have e74 : (many gg_ L (VLn z))[74]?.getD undef = .agg #[.int .i64 bL, .int .i64 bR, .int .i64 bC, .int .i64 bP] := many_eval3 hgN (HOKn.out z) (by rw [HVLn.out]; rfl) y13
                 refine opIn_run_g (v := .bool false) (w' := w') (j := 5) (b := true) rfl rfl (by simp [yielded, many_some hgN (show 66 < 87 by decide) e66]) (fun c h => by cases h) (fun _ => trivial) ?_ ⟨z, by exact many_put3 (HOKn.out _) (by rw [HVLn.out]; rfl) hL, hph⟩
                 go_simp
                 intro e1 e2 e3 e4
                 exact HNK.out ⟨e1.symm, e2.symm, e3.symm, e4.symm⟩
               · skip
                 have y5 : L 5 = true := up_at hu 5 (by kernel_rfl)
                 have y14 : L 14 = true := up_at hu 14 (by kernel_rfl)
                 have e66 : (many gg_ L (VLn z))[66]?.getD undef = .bool true := many_eval3 hgN (HOKn.out z) (by rw [HVLn.out]; rfl) y5
                 have e75 : (many gg_ L (VLn z))[75]?.getD undef = .bool false := many_eval3 hgN (HOKn.out z) (by rw [HVLn.out]; rfl) y14
                 refine opIn_run (v := .bool false) (w' := w') rfl rfl (fun c h => by cases h) (fun _ => trivial) ?_ ⟨z, by exact many_put3 (HOKn.out _) (by rw [HVLn.out]; rfl) hL, hph⟩
                 go_simp
             case finn =>
               intro L z w' hall hph
               rw [HVLn.out]
               dsimp only [manyL, List.set_cons_zero, List.set_cons_succ]
               clear hall HVLn HOKn HVIn
               have HB3 := Lib.hid hph
               obtain ⟨wc, hwc⟩ : ∃ W, W = w' := ⟨_, rfl⟩
               subst hwc
               clear hph HB
               go_wp2_with fail
               go_roundg g1
               case measure => omega
               case rel => exact ⟨k + 1, false, V', by omega, rfl, by go_num, Lib.hid ⟨HB3.out.1, HB3.out.2, fun _ => ⟨rfl, fun k' h => by
                   by_cases e : k' = k
                   · subst e; rw [HY.out]; intro h2; exact HNE.out (Option.some.inj h2)
                   · exact HNO.out k' (by omega)⟩, fun h => by cases h⟩⟩
     case rest =>
      obtain ⟨V', rfl, HE⟩ := hcut
      go_wp2_with fail
      go_roundg g0
      case measure => omega
      case rel => exact ⟨i + 1, V', by omega, by go_num, HE⟩
   · obtain rfl : i = mx := by omega
     have hiI : ¬ (i : Int) < (i : Int) := by omega
     have HBz : Hid (Below B0 w wa) := Lib.hid (HB2.out.trans ((HM11.out.bel.mono (by have := HBM.out; have := HB2.out.size; have := HBE.out; omega)).trans (HI.out.1.mono (by have := HBM.out; have := HB2.out.size; have := HBE.out; have := HM11.out.bel.size; have := HW12.out.2.2; omega))))
     go_wp2
     go_ret
     exact ⟨rfl, by rw [HBE.out]; exact HBz.out⟩
end Go.Proofs.Ytejoedanhonpkaa
