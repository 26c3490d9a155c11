/- Packets in order: OrderSpots walked. -/
import Derived.Test.YtejoedanhonpkaaOrL0
import Derived.Test.YtejoedanhonpkaaOrX0
import Derived.Test.YtejoedanhonpkaaReg3
set_option linter.unusedVariables false
set_option linter.unusedSimpArgs false
namespace Go.Proofs.Ytejoedanhonpkaa
open Go.RowKit
set_option maxRecDepth 100000
set_option maxHeartbeats 16000000 in
theorem walk_orderSpots (f : FN) (A0 : Option Addr) (len0 cap0 : Nat) (z0 : List Int) (a1 : Int) (w : World) (w0 : IsRow .i64 w A0 len0 cap0 z0) (s0 : -9223372036854775808 ≤ f.sb ∧ f.sb ≤ 9223372036854775807) (w1 : (Lit.int .i64 a1).wf = true) :
    Calls Try.prog 8 #[.agg (f.arr A0 len0 cap0), .int .i64 a1] w fun e w' => e = .returned (.bool true) ∧ Below w.heap.size w w' := by
  obtain ⟨f2, hf2⟩ : ∃ f2 : FN, f2 = { f with nc := 0, sb := 0 } := ⟨_, rfl⟩
  have hfa : ((f.arr A0 len0 cap0).setIfInBounds 4 (.int .i64 0)).setIfInBounds 6 (.int .i64 0) = f2.arr A0 len0 cap0 := by rw [hf2]; rfl
  have hfc4 : (f.arr A0 len0 cap0)[4]? = some (.int .i64 f.nc) := rfl
  have hfc6 : (f.arr A0 len0 cap0)[6]? = some (.int .i64 f.sb) := rfl
  have MK := Lib.hid (fun u hu => make_any f2 A0 len0 cap0 z0 20 u (by omega) hu (by rw [hf2]; show (-9223372036854775808 : Int) ≤ 0 ∧ (0 : Int) ≤ 9223372036854775807; omega))
  obtain ⟨fc, hfc⟩ : ∃ fc, f.arr A0 len0 cap0 = fc := ⟨_, rfl⟩
  have hfs : fc.size = 21 := by rw [← hfc]; rfl
  obtain ⟨fd, hfd⟩ : ∃ fd, f2.arr A0 len0 cap0 = fd := ⟨_, rfl⟩
  rw [hfd] at MK hfa
  rw [hfc] at hfa hfc4 hfc6
  rw [hfc]
  have hfs2 : fd.size = 21 := by rw [← hfd]; rfl
  have HFS := Lib.hid hfs
  have HFS2 := Lib.hid hfs2
  have HFA := Lib.hid (show _ ∧ _ ∧ _ from ⟨hfa, hfc4, hfc6⟩)
  clear hfc hfs hfd hfs2 hfa hfc4 hfc6
  have HOK := mkPN_ok f2 20 (by omega)
  obtain ⟨M, hM⟩ : ∃ M, mkPN f2 20 = M := ⟨_, rfl⟩
  obtain ⟨N, hN⟩ : ∃ N, mkN f2 = N := ⟨_, rfl⟩
  have hNb : 1 ≤ N ∧ N ≤ 4 := by
    have := within_rng f2.nc 4 (by omega)
    rw [← hN]
    unfold mkN
    omega
  obtain ⟨DP, hDP⟩ : ∃ D, mkDP f2 = D := ⟨_, rfl⟩
  have hDPb : 1 ≤ DP ∧ DP ≤ 10 := by
    have := within_rng f2.dp 10 (by omega)
    rw [← hDP]
    unfold mkDP
    omega
  rw [hM, hN, hDP] at MK
  rw [hM] at HOK
  have HN1 : Hid (N = 1 ∧ f2.sb = 0) := Lib.hid ⟨by rw [← hN]; unfold mkN; rw [hf2]; show (1 + (0 : Int) % 4).toNat = 1; decide, by rw [hf2]⟩
  clear hM hN hDP hf2
  obtain ⟨X, Y, OX, OY, TX, TY, LV, BW, BH, PR, ST, OD, LY, RC, SO, EP⟩ := M
  obtain ⟨o1, o2, o3, o4, o5, o6, o7, o8, o9, o10, o11, o12, o13⟩ := HOK
  simp only at o1 o2 o3 o4 o5 o6 o7 o8 o9 o10 o11 o12 o13
  obtain ⟨pq, hpq⟩ : ∃ p : Nat, 1 + a1 % 4 = (p : Int) := ⟨(1 + a1 % 4).toNat, by have := within_rng a1 4 (by omega); omega⟩
  have hpqb : 1 ≤ pq ∧ pq ≤ 4 := by have := within_rng a1 4 (by omega); omega
  have hwi := within_rng a1 4 (by omega)
  have HPQ := Lib.hid (show _ ∧ _ from ⟨hpq, hwi⟩)
  clear hpq hwi w1
  go_enter Try.func8, Try.ntmps8
  go_wp2_with fail
  obtain ⟨B0, hB0⟩ : ∃ B, w.heap.size = B := ⟨_, rfl⟩
  obtain ⟨Wf, hWf⟩ : ∃ Wf, w.alloc (Obj.cells fc 24) = Wf := ⟨_, rfl⟩
  have HF0 : Hid (MkW w B0 [(fc, 24)] Wf) := Lib.hid (by
    have h0 : MkW w B0 [] w := ⟨fun i c e => by simp at e, Below.refl _ _, by simp; omega⟩
    have h1 := h0.more (by simp; omega) fc 24
    rw [← hWf]; exact h1)
  rw [hWf, hB0]
  have HBE := Lib.hid hB0
  clear hWf hB0
  refine (known16 _).mono ?_
  rintro e w1 ⟨rfl, hb⟩
  have HF1 := Lib.hid (HF0.out.keep hb)
  clear hb HF0
  have f4' : w1.cell? ⟨B0, 4, none⟩ = some (.int .i64 f.nc) := (blk_cell (show w1.heap[B0]? = _ from HF1.out.b 0 _ rfl) 4).trans HFA.out.2.1
  have f6' : w1.cell? ⟨B0, 6, none⟩ = some (.int .i64 f.sb) := (blk_cell (show w1.heap[B0]? = _ from HF1.out.b 0 _ rfl) 6).trans HFA.out.2.2
  have f4z : w1.frozen? ⟨B0, 4, none⟩ = false := HF1.out.fro (i := 0) rfl 4
  have HF1b := HF1.out.set (i := 0) rfl (g := B0) rfl 4 (.int .i64 0)
  obtain ⟨w1b, hw1b⟩ : ∃ X, World.setCell w1 { block := B0, off := 4 } (Value.int IntKind.i64 0) = X := ⟨_, rfl⟩
  rw [hw1b] at HF1b
  have f6b : w1b.cell? ⟨B0, 6, none⟩ = some (.int .i64 f.sb) := (blk_cell (show w1b.heap[B0]? = _ from HF1b.b 0 _ rfl) 6).trans (by rw [Array.getElem?_setIfInBounds_ne (by decide)]; exact HFA.out.2.2)
  have f6z : w1b.frozen? ⟨B0, 6, none⟩ = false := HF1b.fro (i := 0) rfl 6
  have HF1c := HF1b.set (i := 0) rfl (g := B0) rfl 6 (.int .i64 0)
  obtain ⟨w1c, hw1c⟩ : ∃ X, World.setCell w1b { block := B0, off := 6 } (Value.int IntKind.i64 0) = X := ⟨_, rfl⟩
  rw [hw1c] at HF1c
  have HF2 : Hid (MkW w B0 [(fd, 24)] w1c) := Lib.hid (by
    have h := HF1c
    simp only [List.set_cons_zero] at h
    rw [HFA.out.1] at h
    exact h)
  clear HF1b HF1c
  have MK1 := MK.out w1c (IsRow.below w0 (by rw [HBE.out]; exact HF2.out.bel))
  go_wp2_with (refine wpList_load_row rfl 24 _ rfl B0 rfl 24 fd (0, 0) _ (show w1c.heap[B0]? = _ from HF2.out.b 0 _ rfl) Try.underlying24 rfl (by rw [HFS2.out]; kernel_rfl) ?_)
  refine MK1.mono ?_
  rintro e w2 ⟨A2, C2, cs, rfl, hcl, hCR, hKY, hb, hfx⟩
  try simp only at hfx
  try simp only at hKY
  have HB2 : Hid (Below B0 w w2) := Lib.hid (HF2.out.bel.trans (hb.mono (by have := HF2.out.sz; simp at this; omega)))
  have HCR : Hid (CRow B0 w2 (.slice A2 N C2) cs) := Lib.hid (by
    have h1 := HF2.out.sz
    simp at h1
    exact ⟨own_low hCR.own (by omega), fun c hc => (hCR.dat c hc).low (by omega)⟩)
  have HDX : Hid (cs.map (fun c => (c.dx, c.dy)) = [((1 : Int), (1 : Int))]) := Lib.hid (by
    rw [HN1.out.1] at hcl
    obtain ⟨c, rfl⟩ := List.length_eq_one_iff.1 hcl
    obtain ⟨_, _, h3, h4, _⟩ := hKY 0 c rfl
    rw [HN1.out.2] at h3 h4
    simp only [List.map_cons, List.map_nil]
    rw [h3, h4]
    rfl)
  have HKY : Hid (∀ (i : Nat) (c : Cp), cs[i]? = some c → (1 ≤ c.dx ∧ c.dx ≤ 4) ∧ (1 ≤ c.dy ∧ c.dy ≤ 4)) := Lib.hid (fun i c hc => by have h1 := hKY i c hc; have h2 := cpK_bd (sb := f2.sb) (DP := DP) i hDPb; obtain ⟨_, _, h3, h4, _⟩ := h1; rw [h3, h4]; omega)
  have HCL := Lib.hid hcl
  obtain ⟨hTX, hTY, hCT⟩ := hfx
  obtain ⟨rs, hrs1, hrs2, TLx⟩ := tilesO X Y OX OY TX TY A2 N C2 (by omega) (by omega) (by omega) (by omega) hCT
  have HRS := Lib.hid hrs2
  have TL := Lib.hid TLx
  clear MK MK1 hb hCR hKY hcl hCT HF1 HF2 w0 s0 hrs2 TLx
  clear f4' f6' f4z f6b f6z hw1b hw1c
  go_wp2_with fail
  obtain ⟨bm, hbm⟩ : ∃ bm, w2.heap.size = bm := ⟨_, rfl⟩
  obtain ⟨W3, hW3⟩ : ∃ W3, (w2.alloc (Obj.cells #[.int .i64 X, .int .i64 Y, .int .i64 OX, .int .i64 OY, .slice A2 N C2] 28)).alloc (Obj.cells #[.int .i64 TX, .int .i64 TY, .int .i64 (LV : Int), .int .i64 (BW : Int), .int .i64 (BH : Int), .int .i64 (PR : Int), .int .i64 ST, .int .i64 OD, .int .i64 (LY : Int), .bool RC, .bool SO, .bool EP] 30) = W3 := ⟨_, rfl⟩
  have HM3 : Hid (MkW w2 bm [(#[.int .i64 X, .int .i64 Y, .int .i64 OX, .int .i64 OY, .slice A2 N C2], 28), (#[.int .i64 TX, .int .i64 TY, .int .i64 (LV : Int), .int .i64 (BW : Int), .int .i64 (BH : Int), .int .i64 (PR : Int), .int .i64 ST, .int .i64 OD, .int .i64 (LY : Int), .bool RC, .bool SO, .bool EP], 30)] W3) := Lib.hid (by
    have h0 : MkW w2 bm [] w2 := ⟨fun i c e => by simp at e, Below.refl _ _, by simp; omega⟩
    have h1 := (h0.more (by simp; omega) #[.int .i64 X, .int .i64 Y, .int .i64 OX, .int .i64 OY, .slice A2 N C2] 28).more (by simp; omega) #[.int .i64 TX, .int .i64 TY, .int .i64 (LV : Int), .int .i64 (BW : Int), .int .i64 (BH : Int), .int .i64 (PR : Int), .int .i64 ST, .int .i64 OD, .int .i64 (LY : Int), .bool RC, .bool SO, .bool EP] 30
    rw [← hW3]; exact h1)
  rw [hW3, hbm]
  have HBM := Lib.hid hbm
  clear hW3 hbm
  refine (within16 a1 4 _ (by omega) (by omega)).mono ?_
  rintro e w4 ⟨rfl, rfl⟩
  have hw4 := HPQ.out
  have hw5 : wrap64 (1 + a1 % 4) = (pq : Int) := by rw [hw4.1]; exact w64_in (by omega)
  have c2 : W3.cell? ⟨bm + 1, 2, none⟩ = some (.int .i64 (LV : Int)) := blk_cell (HM3.out.b 1 _ rfl) 2
  have z2 : W3.frozen? ⟨bm + 1, 2, none⟩ = false := HM3.out.fro (i := 1) rfl 2
  obtain ⟨W4a, hW4a⟩ : ∃ X, World.setCell W3 { block := bm + 1, off := 2 } (.int .i64 0) = X := ⟨_, rfl⟩
  have HW4a : MkW w2 bm [(#[.int .i64 X, .int .i64 Y, .int .i64 OX, .int .i64 OY, .slice A2 N C2], 28), (#[.int .i64 TX, .int .i64 TY, .int .i64 0, .int .i64 (BW : Int), .int .i64 (BH : Int), .int .i64 (PR : Int), .int .i64 ST, .int .i64 OD, .int .i64 (LY : Int), .bool RC, .bool SO, .bool EP], 30)] W4a := by rw [← hW4a]; exact HM3.out.set (i := 1) rfl rfl 2 _
  have c5 : W4a.cell? ⟨bm + 1, 5, none⟩ = some (.int .i64 (PR : Int)) := blk_cell (HW4a.b 1 _ rfl) 5
  have z5 : W4a.frozen? ⟨bm + 1, 5, none⟩ = false := HW4a.fro (i := 1) rfl 5
  obtain ⟨W4b, hW4b⟩ : ∃ X, World.setCell W4a { block := bm + 1, off := 5 } (.int .i64 (pq : Int)) = X := ⟨_, rfl⟩
  have HW4b : MkW w2 bm [(#[.int .i64 X, .int .i64 Y, .int .i64 OX, .int .i64 OY, .slice A2 N C2], 28), (#[.int .i64 TX, .int .i64 TY, .int .i64 0, .int .i64 (BW : Int), .int .i64 (BH : Int), .int .i64 (pq : Int), .int .i64 ST, .int .i64 OD, .int .i64 (LY : Int), .bool RC, .bool SO, .bool EP], 30)] W4b := by rw [← hW4b]; exact HW4a.set (i := 1) rfl rfl 5 _
  have c8 : W4b.cell? ⟨bm + 1, 8, none⟩ = some (.int .i64 (LY : Int)) := blk_cell (HW4b.b 1 _ rfl) 8
  have z8 : W4b.frozen? ⟨bm + 1, 8, none⟩ = false := HW4b.fro (i := 1) rfl 8
  obtain ⟨W4c, hW4c⟩ : ∃ X, World.setCell W4b { block := bm + 1, off := 8 } (.int .i64 1) = X := ⟨_, rfl⟩
  have HW4c : MkW w2 bm [(#[.int .i64 X, .int .i64 Y, .int .i64 OX, .int .i64 OY, .slice A2 N C2], 28), (#[.int .i64 TX, .int .i64 TY, .int .i64 0, .int .i64 (BW : Int), .int .i64 (BH : Int), .int .i64 (pq : Int), .int .i64 ST, .int .i64 OD, .int .i64 1, .bool RC, .bool SO, .bool EP], 30)] W4c := by rw [← hW4c]; exact HW4b.set (i := 1) rfl rfl 8 _
  have HM5 := Lib.hid HW4c
  have i0' : W4c.cell? ⟨bm, 0, none⟩ = some (.int .i64 X) := blk_cell (show W4c.heap[bm]? = _ from HM5.out.b 0 _ rfl) 0
  have i1' : W4c.cell? ⟨bm, 1, none⟩ = some (.int .i64 Y) := blk_cell (show W4c.heap[bm]? = _ from HM5.out.b 0 _ rfl) 1
  have i2' : W4c.cell? ⟨bm, 2, none⟩ = some (.int .i64 OX) := blk_cell (show W4c.heap[bm]? = _ from HM5.out.b 0 _ rfl) 2
  have i3' : W4c.cell? ⟨bm, 3, none⟩ = some (.int .i64 OY) := blk_cell (show W4c.heap[bm]? = _ from HM5.out.b 0 _ rfl) 3
  have i4' : W4c.cell? ⟨bm, 4, none⟩ = some (.slice A2 N C2) := blk_cell (show W4c.heap[bm]? = _ from HM5.out.b 0 _ rfl) 4
  have j0' : W4c.cell? ⟨bm + 1, 0, none⟩ = some (.int .i64 TX) := blk_cell (HM5.out.b 1 _ rfl) 0
  have j1' : W4c.cell? ⟨bm + 1, 1, none⟩ = some (.int .i64 TY) := blk_cell (HM5.out.b 1 _ rfl) 1
  have j2' : W4c.cell? ⟨bm + 1, 2, none⟩ = some (.int .i64 0) := blk_cell (HM5.out.b 1 _ rfl) 2
  have j3' : W4c.cell? ⟨bm + 1, 3, none⟩ = some (.int .i64 (BW : Int)) := blk_cell (HM5.out.b 1 _ rfl) 3
  have j4' : W4c.cell? ⟨bm + 1, 4, none⟩ = some (.int .i64 (BH : Int)) := blk_cell (HM5.out.b 1 _ rfl) 4
  have j5' : W4c.cell? ⟨bm + 1, 5, none⟩ = some (.int .i64 (pq : Int)) := blk_cell (HM5.out.b 1 _ rfl) 5
  have j6' : W4c.cell? ⟨bm + 1, 6, none⟩ = some (.int .i64 ST) := blk_cell (HM5.out.b 1 _ rfl) 6
  have j7' : W4c.cell? ⟨bm + 1, 7, none⟩ = some (.int .i64 OD) := blk_cell (HM5.out.b 1 _ rfl) 7
  have j8' : W4c.cell? ⟨bm + 1, 8, none⟩ = some (.int .i64 1) := blk_cell (HM5.out.b 1 _ rfl) 8
  have j9' : W4c.cell? ⟨bm + 1, 9, none⟩ = some (.bool RC) := blk_cell (HM5.out.b 1 _ rfl) 9
  have j10' : W4c.cell? ⟨bm + 1, 10, none⟩ = some (.bool SO) := blk_cell (HM5.out.b 1 _ rfl) 10
  have j11' : W4c.cell? ⟨bm + 1, 11, none⟩ = some (.bool EP) := blk_cell (HM5.out.b 1 _ rfl) 11
  clear HW4a HW4b HW4c
  try rw [hw4.1]
  go_wp2_with fail
  clear HM3 hW4a hW4b hW4c c2 z2 c5 z5 c8 z8 hw4 hw5 i0' i1' i2' i3' i4' j0' j1' j2' j3' j4' j5' j6' j7' j8' j9' j10' j11'
  refine (TL.out _ _ _ _ _ _ _ _ _ _ _).mono ?_
  rintro e W6 ⟨TA, TC, rfl, hRT, hb⟩
  have HM6 := Lib.hid (HM5.out.keep hb)
  obtain ⟨r0, hr0⟩ : ∃ r, rs[0]? = some r := ⟨_, List.getElem?_eq_getElem (by omega)⟩
  have hri := HRS.out 0 r0 hr0
  obtain ⟨rx0, ry0, rx1, ry1⟩ := r0
  have HRI := Lib.hid hri
  obtain ⟨TA', TC', hTA, hTcell⟩ := hRT
  injection hTA with hTA1 hTA2 hTA3
  subst hTA1 hTA3
  obtain ⟨tg, tq, rfl, htg, t0, t1, t2, t3⟩ := hTcell 0 _ hr0
  rw [Nat.zero_mul, Nat.add_zero] at t0 t1 t2 t3
  obtain ⟨tn, htn⟩ : ∃ n, rs.length = n := ⟨_, rfl⟩
  rw [htn] at hrs1 ⊢
  clear hb hri hr0 hTcell hTA2 htn HM5
  obtain ⟨rg, hrg⟩ : ∃ q, W6.heap.size = q := ⟨_, rfl⟩
  obtain ⟨W7, hW7⟩ : ∃ X, W6.alloc (Obj.cells #[.int .i64 rx0, .int .i64 ry0, .int .i64 rx1, .int .i64 ry1] 38) = X := ⟨_, rfl⟩
  have HM7 : Hid (MkW w2 bm [(#[.int .i64 X, .int .i64 Y, .int .i64 OX, .int .i64 OY, .slice A2 N C2], 28), (#[.int .i64 TX, .int .i64 TY, .int .i64 0, .int .i64 (BW : Int), .int .i64 (BH : Int), .int .i64 (pq : Int), .int .i64 ST, .int .i64 OD, .int .i64 1, .bool RC, .bool SO, .bool EP], 30)] W7) := Lib.hid (by rw [← hW7]; exact HM6.out.alloc _)
  have HRG : Hid (rg < W7.heap.size ∧ W7.heap[rg]? = some (.cells #[.int .i64 rx0, .int .i64 ry0, .int .i64 rx1, .int .i64 ry1] 38 (0, 0)) ∧ bm + 2 ≤ rg) := Lib.hid (by
    have h1 := HM6.out.sz
    refine ⟨by rw [← hW7, World.size_alloc]; omega, by rw [← hW7, ← hrg]; exact World.alloc_heap_new W6 _, by rw [← hrg]; exact h1⟩)
  have i0' : W7.cell? ⟨bm, 0, none⟩ = some (.int .i64 X) := blk_cell (show W7.heap[bm]? = _ from HM7.out.b 0 _ rfl) 0
  have i1' : W7.cell? ⟨bm, 1, none⟩ = some (.int .i64 Y) := blk_cell (show W7.heap[bm]? = _ from HM7.out.b 0 _ rfl) 1
  have i2' : W7.cell? ⟨bm, 2, none⟩ = some (.int .i64 OX) := blk_cell (show W7.heap[bm]? = _ from HM7.out.b 0 _ rfl) 2
  have i3' : W7.cell? ⟨bm, 3, none⟩ = some (.int .i64 OY) := blk_cell (show W7.heap[bm]? = _ from HM7.out.b 0 _ rfl) 3
  have i4' : W7.cell? ⟨bm, 4, none⟩ = some (.slice A2 N C2) := blk_cell (show W7.heap[bm]? = _ from HM7.out.b 0 _ rfl) 4
  have j0' : W7.cell? ⟨bm + 1, 0, none⟩ = some (.int .i64 TX) := blk_cell (HM7.out.b 1 _ rfl) 0
  have j1' : W7.cell? ⟨bm + 1, 1, none⟩ = some (.int .i64 TY) := blk_cell (HM7.out.b 1 _ rfl) 1
  have j2' : W7.cell? ⟨bm + 1, 2, none⟩ = some (.int .i64 0) := blk_cell (HM7.out.b 1 _ rfl) 2
  have j3' : W7.cell? ⟨bm + 1, 3, none⟩ = some (.int .i64 (BW : Int)) := blk_cell (HM7.out.b 1 _ rfl) 3
  have j4' : W7.cell? ⟨bm + 1, 4, none⟩ = some (.int .i64 (BH : Int)) := blk_cell (HM7.out.b 1 _ rfl) 4
  have j5' : W7.cell? ⟨bm + 1, 5, none⟩ = some (.int .i64 (pq : Int)) := blk_cell (HM7.out.b 1 _ rfl) 5
  have j6' : W7.cell? ⟨bm + 1, 6, none⟩ = some (.int .i64 ST) := blk_cell (HM7.out.b 1 _ rfl) 6
  have j7' : W7.cell? ⟨bm + 1, 7, none⟩ = some (.int .i64 OD) := blk_cell (HM7.out.b 1 _ rfl) 7
  have j8' : W7.cell? ⟨bm + 1, 8, none⟩ = some (.int .i64 1) := blk_cell (HM7.out.b 1 _ rfl) 8
  have j9' : W7.cell? ⟨bm + 1, 9, none⟩ = some (.bool RC) := blk_cell (HM7.out.b 1 _ rfl) 9
  have j10' : W7.cell? ⟨bm + 1, 10, none⟩ = some (.bool SO) := blk_cell (HM7.out.b 1 _ rfl) 10
  have j11' : W7.cell? ⟨bm + 1, 11, none⟩ = some (.bool EP) := blk_cell (HM7.out.b 1 _ rfl) 11
  have s0' : W7.cell? ⟨rg, 0, none⟩ = some (.int .i64 rx0) := blk_cell (show W7.heap[rg]? = _ from HRG.out.2.1) 0
  have s1' : W7.cell? ⟨rg, 1, none⟩ = some (.int .i64 ry0) := blk_cell (show W7.heap[rg]? = _ from HRG.out.2.1) 1
  have s2' : W7.cell? ⟨rg, 2, none⟩ = some (.int .i64 rx1) := blk_cell (show W7.heap[rg]? = _ from HRG.out.2.1) 2
  have s3' : W7.cell? ⟨rg, 3, none⟩ = some (.int .i64 ry1) := blk_cell (show W7.heap[rg]? = _ from HRG.out.2.1) 3
  have h1000 : inN (rx0, ry0, rx1, ry1) 1000 := by obtain ⟨h1, h2, h3, h4⟩ := HRI.out.1; exact ⟨by omega, by omega, by omega, by omega⟩
  have RP := Lib.hid (rprec_any (rx0, ry0, rx1, ry1) pq W7 h1000 HRI.out.2 (by omega))
  have hpb := pc_bd (z := (rx0, ry0, rx1, ry1)) (m := 255) ((2 ^ pq : Nat) : Int) (two_pos pq) (by omega) HRI.out.1 HRI.out.2
  obtain ⟨PW, hPW⟩ : ∃ n : Nat, (pcF (rx0, ry0, rx1, ry1) ((2 ^ pq : Nat) : Int)).1 = (n : Int) := ⟨_, (Int.toNat_of_nonneg hpb.1.1).symm⟩
  obtain ⟨PH, hPH⟩ : ∃ n : Nat, (pcF (rx0, ry0, rx1, ry1) ((2 ^ pq : Nat) : Int)).2 = (n : Int) := ⟨_, (Int.toNat_of_nonneg hpb.2.1).symm⟩
  rw [hPW, hPH] at RP hpb
  obtain ⟨m, hm⟩ : ∃ m, PW * PH = m := ⟨_, rfl⟩
  have hmb : m ≤ 65025 := by rw [← hm]; exact Nat.le_trans (Nat.mul_le_mul (show PW ≤ 255 by omega) (show PH ≤ 255 by omega)) (by decide)
  have hmI : (PW : Int) * (PH : Int) = (m : Int) := by rw [← hm]; push_cast; rfl
  have HSP : Hid (∀ (o : Nat) (M : List Pk), OL (geo (rx0, ry0, rx1, ry1) (cs.map fun c => (c.dx, c.dy)) 0 pq) 1 o M → M.length = m ∧ ∀ (k : Nat) (x : Pk), M[k]? = some x → x.pc = (k : Int)) := Lib.hid (fun o M hO => by
    rw [HDX.out] at hO
    have h := spots_list hO
    rw [hPW, hPH, Int.toNat_natCast, Int.toNat_natCast, hm] at h
    exact h)
  have HMI := Lib.hid hmI
  clear h1000 hpb hPW hPH hm hmI
  go_wp2_with fail
  refine RP.out.mono ?_
  rintro e W8 ⟨rfl, hb⟩
  have HM8 := Lib.hid (HM7.out.keep hb)
  have HRG8 : Hid (rg < W8.heap.size ∧ W8.heap[rg]? = some (.cells #[.int .i64 rx0, .int .i64 ry0, .int .i64 rx1, .int .i64 ry1] 38 (0, 0)) ∧ bm + 2 ≤ rg) := Lib.hid ⟨Nat.lt_of_lt_of_le HRG.out.1 hb.size, (hb.block _ HRG.out.1).trans HRG.out.2.1, HRG.out.2.2⟩
  clear hb RP HM7 HRG HM6 hrg hW7 htg t0 t1 t2 t3 i0' i1' i2' i3' i4' j0' j1' j2' j3' j4' j5' j6' j7' j8' j9' j10' j11' s0' s1' s2' s3'
  go_wp2_with fail
  go_loopg [10] 5 (fun g v wr => ∃ (o : Nat) (od : Int), o + g = 5 ∧ v = .int .i64 (o : Int) ∧ Hid (MkW w2 bm [(#[.int .i64 X, .int .i64 Y, .int .i64 OX, .int .i64 OY, .slice A2 N C2], 28), (#[.int .i64 TX, .int .i64 TY, .int .i64 0, .int .i64 (BW : Int), .int .i64 (BH : Int), .int .i64 (pq : Int), .int .i64 ST, .int .i64 od, .int .i64 1, .bool RC, .bool SO, .bool EP], 30)] wr ∧ (rg < wr.heap.size ∧ wr.heap[rg]? = some (.cells #[.int .i64 rx0, .int .i64 ry0, .int .i64 rx1, .int .i64 ry1] 38 (0, 0)) ∧ bm + 2 ≤ rg)))
  case atStart => exact ⟨0, OD, by omega, rfl, Lib.hid ⟨HM8.out, HRG8.out⟩⟩
  case round =>
   obtain ⟨o, od, hog, rfl, HB⟩ := hrel
   obtain ⟨wa, hwa⟩ : ∃ wa, wa = wr := ⟨wr, rfl⟩
   subst hwa
   clear HM8 HRG8
   by_cases ho5 : o < 5
   · obtain ⟨g0, rfl⟩ : ∃ g0, gk = g0 + 1 := ⟨gk - 1, by omega⟩
     have hoI : (o : Int) < 5 := by omega
     have c7 : wa.cell? ⟨bm + 1, 7, none⟩ = some (.int .i64 od) := blk_cell (HB.out.1.b 1 _ rfl) 7
     have z7 : wa.frozen? ⟨bm + 1, 7, none⟩ = false := HB.out.1.fro (i := 1) rfl 7
     obtain ⟨wb, hwb⟩ : ∃ X, World.setCell wa { block := bm + 1, off := 7 } (Value.int IntKind.i64 (o : Int)) = X := ⟨_, rfl⟩
     have HMb : Hid (MkW w2 bm [(#[.int .i64 X, .int .i64 Y, .int .i64 OX, .int .i64 OY, .slice A2 N C2], 28), (#[.int .i64 TX, .int .i64 TY, .int .i64 0, .int .i64 (BW : Int), .int .i64 (BH : Int), .int .i64 (pq : Int), .int .i64 ST, .int .i64 (o : Int), .int .i64 1, .bool RC, .bool SO, .bool EP], 30)] wb) := Lib.hid (by rw [← hwb]; exact HB.out.1.set (i := 1) rfl rfl 7 _)
     have HRb : Hid (rg < wb.heap.size ∧ wb.heap[rg]? = some (.cells #[.int .i64 rx0, .int .i64 ry0, .int .i64 rx1, .int .i64 ry1] 38 (0, 0)) ∧ bm + 2 ≤ rg) := Lib.hid (by
       obtain ⟨h1, h2, h3⟩ := HB.out.2
       refine ⟨by rw [← hwb, size_setCell]; exact h1, ?_, h3⟩
       rw [← hwb, Below.heap_setCell wa _ _ rg (show rg ≠ bm + 1 by omega)]
       exact h2)
     have i0' : wb.cell? ⟨bm, 0, none⟩ = some (.int .i64 X) := blk_cell (show wb.heap[bm]? = _ from HMb.out.b 0 _ rfl) 0
     have i1' : wb.cell? ⟨bm, 1, none⟩ = some (.int .i64 Y) := blk_cell (show wb.heap[bm]? = _ from HMb.out.b 0 _ rfl) 1
     have i2' : wb.cell? ⟨bm, 2, none⟩ = some (.int .i64 OX) := blk_cell (show wb.heap[bm]? = _ from HMb.out.b 0 _ rfl) 2
     have i3' : wb.cell? ⟨bm, 3, none⟩ = some (.int .i64 OY) := blk_cell (show wb.heap[bm]? = _ from HMb.out.b 0 _ rfl) 3
     have i4' : wb.cell? ⟨bm, 4, none⟩ = some (.slice A2 N C2) := blk_cell (show wb.heap[bm]? = _ from HMb.out.b 0 _ rfl) 4
     have j0' : wb.cell? ⟨bm + 1, 0, none⟩ = some (.int .i64 TX) := blk_cell (HMb.out.b 1 _ rfl) 0
     have j1' : wb.cell? ⟨bm + 1, 1, none⟩ = some (.int .i64 TY) := blk_cell (HMb.out.b 1 _ rfl) 1
     have j2' : wb.cell? ⟨bm + 1, 2, none⟩ = some (.int .i64 0) := blk_cell (HMb.out.b 1 _ rfl) 2
     have j3' : wb.cell? ⟨bm + 1, 3, none⟩ = some (.int .i64 (BW : Int)) := blk_cell (HMb.out.b 1 _ rfl) 3
     have j4' : wb.cell? ⟨bm + 1, 4, none⟩ = some (.int .i64 (BH : Int)) := blk_cell (HMb.out.b 1 _ rfl) 4
     have j5' : wb.cell? ⟨bm + 1, 5, none⟩ = some (.int .i64 (pq : Int)) := blk_cell (HMb.out.b 1 _ rfl) 5
     have j6' : wb.cell? ⟨bm + 1, 6, none⟩ = some (.int .i64 ST) := blk_cell (HMb.out.b 1 _ rfl) 6
     have j7' : wb.cell? ⟨bm + 1, 7, none⟩ = some (.int .i64 (o : Int)) := blk_cell (HMb.out.b 1 _ rfl) 7
     have j8' : wb.cell? ⟨bm + 1, 8, none⟩ = some (.int .i64 1) := blk_cell (HMb.out.b 1 _ rfl) 8
     have j9' : wb.cell? ⟨bm + 1, 9, none⟩ = some (.bool RC) := blk_cell (HMb.out.b 1 _ rfl) 9
     have j10' : wb.cell? ⟨bm + 1, 10, none⟩ = some (.bool SO) := blk_cell (HMb.out.b 1 _ rfl) 10
     have j11' : wb.cell? ⟨bm + 1, 11, none⟩ = some (.bool EP) := blk_cell (HMb.out.b 1 _ rfl) 11
     have s0' : wb.cell? ⟨rg, 0, none⟩ = some (.int .i64 rx0) := blk_cell (show wb.heap[rg]? = _ from HRb.out.2.1) 0
     have s1' : wb.cell? ⟨rg, 1, none⟩ = some (.int .i64 ry0) := blk_cell (show wb.heap[rg]? = _ from HRb.out.2.1) 1
     have s2' : wb.cell? ⟨rg, 2, none⟩ = some (.int .i64 rx1) := blk_cell (show wb.heap[rg]? = _ from HRb.out.2.1) 2
     have s3' : wb.cell? ⟨rg, 3, none⟩ = some (.int .i64 ry1) := blk_cell (show wb.heap[rg]? = _ from HRb.out.2.1) 3
     go_wp2_with fail
     clear c7 z7 hwb HB i0' i1' i2' i3' i4' j0' j1' j2' j3' j4' j5' j6' j7' j8' j9' j10' j11' s0' s1' s2' s3'
     have LC : Hid (∀ u, Below wb.heap.size wb u → Calls Try.prog 13 #[.agg #[.int .i64 rx0, .int .i64 ry0, .int .i64 rx1, .int .i64 ry1], .agg #[.int .i64 X, .int .i64 Y, .int .i64 OX, .int .i64 OY, .slice A2 N C2], .agg #[.int .i64 TX, .int .i64 TY, .int .i64 0, .int .i64 (BW : Int), .int .i64 (BH : Int), .int .i64 (pq : Int), .int .i64 ST, .int .i64 (o : Int), .int .i64 1, .bool RC, .bool SO, .bool EP]] u fun e w' => ∃ (M : List Pk) (A : Option Addr) (m c : Nat), e = .returned (.slice A m c) ∧ M.length = m ∧ m ≤ 13000000 ∧ OL (geo (rx0, ry0, rx1, ry1) (cs.map fun c => (c.dx, c.dy)) 0 pq) 1 o M ∧ KeyR w' A M ∧ Below u.heap.size u w') := Lib.hid (fun u hu =>
       listP_any (lo := B0) o ho5 (rx0, ry0, rx1, ry1) X Y OX OY A2 N C2 cs TX TY BW BH ST RC SO EP 0 pq 1 u HRI.out.1 HRI.out.2 HKY.out (by rw [HCL.out]; omega) (by rw [HCL.out]; omega) HCL.out (by omega) (by omega) (by omega) ((HCR.out.below ((HMb.out.bel.mono (by rw [HBM.out]; omega)).trans (hu.mono HMb.out.bel.size)))))
     refine (LC.out _ (Below.refl _ _)).mono ?_
     rintro e wc ⟨M, KA, m', KC, rfl, hm', hm13, hOL, hK, hb⟩
     obtain ⟨hsl, hsp⟩ := HSP.out o M hOL
     obtain rfl : m' = m := by rw [← hm', hsl]
     have HSM := Lib.hid (show _ ∧ _ from ⟨hsl, hsp⟩)
     have HK := Lib.hid hK
     have HMc : Hid (MkW w2 bm [(#[.int .i64 X, .int .i64 Y, .int .i64 OX, .int .i64 OY, .slice A2 N C2], 28), (#[.int .i64 TX, .int .i64 TY, .int .i64 0, .int .i64 (BW : Int), .int .i64 (BH : Int), .int .i64 (pq : Int), .int .i64 ST, .int .i64 (o : Int), .int .i64 1, .bool RC, .bool SO, .bool EP], 30)] wc ∧ (rg < wc.heap.size ∧ wc.heap[rg]? = some (.cells #[.int .i64 rx0, .int .i64 ry0, .int .i64 rx1, .int .i64 ry1] 38 (0, 0)) ∧ bm + 2 ≤ rg)) := Lib.hid ⟨HMb.out.keep hb, Nat.lt_of_lt_of_le HRb.out.1 hb.size, (hb.block _ HRb.out.1).trans HRb.out.2.1, HRb.out.2.2⟩
     have hmI := HMI.out
     have hww : wrap64 (m' : Int) = (m' : Int) := w64_in (by omega)
     clear hm' hsl hsp hOL hK hb LC HMb HRb
     go_wp2_with fail
     go_loopg [12] m' (fun g v wr => ∃ k : Nat, k + g = m' ∧ v = .int .i64 (k : Int) ∧ wr = wc)
     case atStart => exact ⟨0, by omega, rfl, rfl⟩
     case round =>
      obtain ⟨k, hkg, rfl, rfl⟩ := hrel
      obtain ⟨wd, hwd⟩ : ∃ wa, wa = wr := ⟨wr, rfl⟩
      subst hwd
      clear hww hmI
      by_cases hkm : k < m'
      · obtain ⟨g1, rfl⟩ : ∃ g0, gk = g0 + 1 := ⟨gk - 1, by omega⟩
        have hkI : (k : Int) < (m' : Int) := by omega
        have hk0 : ¬ (k : Int) < 0 := by omega
        obtain ⟨x, hx⟩ : ∃ x, M[k]? = some x := ⟨_, List.getElem?_eq_getElem (by rw [HSM.out.1]; exact hkm)⟩
        obtain ⟨kg, ko, hKA, hkgl, v0, v1, v2, v3⟩ := HK.out k x hx
        rw [HSM.out.2 k x hx] at v3
        subst hKA
        clear v0 v1 v2 hx
        go_wp2_with fail
        go_roundg g1
        case measure => omega
        case rel => exact ⟨k + 1, by omega, by go_num, rfl⟩
      · obtain rfl : k = m' := by omega
        have hkI : ¬ (k : Int) < (k : Int) := by omega
        go_wp2_with fail
        go_roundg g0
        case measure => omega
        case rel => exact ⟨o + 1, (o : Int), by omega, by go_num, HMc⟩
   · obtain rfl : o = 5 := by omega
     have HBz : Hid (Below B0 w wa) := Lib.hid (HB2.out.trans (HB.out.1.bel.mono (by have := HBM.out; have := HB2.out.size; have := HBE.out; omega)))
     go_wp2
     go_ret
     exact ⟨rfl, by rw [HBE.out]; exact HBz.out⟩
end Go.Proofs.Ytejoedanhonpkaa
