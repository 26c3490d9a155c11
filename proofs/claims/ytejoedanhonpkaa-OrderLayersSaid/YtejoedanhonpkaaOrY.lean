/- Packets in order: OrderLayers walked. -/
import Derived.Test.YtejoedanhonpkaaOrL0
import Derived.Test.YtejoedanhonpkaaReg3
set_option linter.unusedVariables false
set_option linter.unusedSimpArgs false
namespace Go.Proofs.Ytejoedanhonpkaa
open Go.RowKit
set_option maxRecDepth 100000
/-- What of a list's first part passes a test, counted, is the place of the next that passes. -/
theorem filt_get {α : Type} (p : α → Bool) : ∀ (L : List α) (i : Nat) (x : α), L[i]? = some x → p x = true → (L.filter p)[((L.take i).filter p).length]? = some x
  | [], i, x, h, _ => by simp at h
  | y :: l, 0, x, h, hp => by
    simp at h
    subst h
    simp [hp]
  | y :: l, i + 1, x, h, hp => by
    have := filt_get p l i x (by simpa using h) hp
    rw [List.take_succ_cons]
    cases hy : p y with
    | true => simp [hy, this]
    | false => simp [hy, this]
theorem filt_take {α : Type} (p : α → Bool) (L : List α) (i : Nat) (x : α) (h : L[i]? = some x) : ((L.take (i + 1)).filter p).length = ((L.take i).filter p).length + (if p x then 1 else 0) := by
  rw [List.take_add_one, h, List.filter_append, List.length_append]
  simp only [Option.toList_some, List.filter_cons, List.filter_nil]
  split <;> rfl
set_option maxHeartbeats 16000000 in
theorem walk_orderLayers (f : FN) (A0 : Option Addr) (len0 cap0 : Nat) (z0 : List Int) (a1 a2 : Int) (w : World) (w0 : IsRow .i64 w A0 len0 cap0 z0) (s0 : -9223372036854775808 ≤ f.sb ∧ f.sb ≤ 9223372036854775807) (w1 : (Lit.int .i64 a1).wf = true) (w2 : (Lit.int .i64 a2).wf = true) :
    Calls Try.prog 9 #[.agg (f.arr A0 len0 cap0), .int .i64 a1, .int .i64 a2] w fun e w' => e = .returned (.bool true) ∧ Below w.heap.size w w' := by
  have MK := Lib.hid (fun u hu => make_any f A0 len0 cap0 z0 14 u (by omega) hu s0)
  obtain ⟨fc, hfc⟩ : ∃ fc, f.arr A0 len0 cap0 = fc := ⟨_, rfl⟩
  have hfs : fc.size = 21 := by rw [← hfc]; rfl
  rw [hfc] at MK ⊢
  have HFS := Lib.hid hfs
  clear hfc hfs
  have HOK := mkPN_ok f 14 (by omega)
  obtain ⟨M, hM⟩ : ∃ M, mkPN f 14 = M := ⟨_, rfl⟩
  obtain ⟨N, hN⟩ : ∃ N, mkN f = N := ⟨_, rfl⟩
  have hNb : 1 ≤ N ∧ N ≤ 4 := by
    have := within_rng f.nc 4 (by omega)
    rw [← hN]
    unfold mkN
    omega
  obtain ⟨DP, hDP⟩ : ∃ D, mkDP f = D := ⟨_, rfl⟩
  have hDPb : 1 ≤ DP ∧ DP ≤ 10 := by
    have := within_rng f.dp 10 (by omega)
    rw [← hDP]
    unfold mkDP
    omega
  rw [hM, hN, hDP] at MK
  rw [hM] at HOK
  clear hM hN hDP
  obtain ⟨X, Y, OX, OY, TX, TY, LV, BW, BH, PR, ST, OD, LY, RC, SO, EP⟩ := M
  obtain ⟨o1, o2, o3, o4, o5, o6, o7, o8, o9, o10, o11, o12, o13⟩ := HOK
  simp only at o1 o2 o3 o4 o5 o6 o7 o8 o9 o10 o11 o12 o13
  clear w1 w2
  obtain ⟨o, ho⟩ : ∃ o : Nat, a1 % 5 = (o : Int) := ⟨(a1 % 5).toNat, by omega⟩
  have ho5 : o < 5 := by omega
  have HO := Lib.hid ho
  clear ho
  obtain ⟨d, hd⟩ : ∃ d : Nat, a2 % (9 - (LY : Int)) = (d : Int) := ⟨(a2 % (9 - (LY : Int))).toNat, by have := within_rng a2 (9 - (LY : Int)) (by omega); omega⟩
  have hdb : d ≤ 8 - LY := by have := within_rng a2 (9 - (LY : Int)) (by omega); omega
  obtain ⟨LQ, hLQ⟩ : ∃ n, n = LY + d := ⟨_, rfl⟩
  have HD := Lib.hid (show _ ∧ _ from ⟨hd, hLQ⟩)
  have hLQb : LY ≤ LQ ∧ LQ ≤ 8 := by omega
  clear hd hLQ hdb
  go_enter Try.func9, Try.ntmps9
  go_wp2_with fail
  obtain ⟨B0, hB0⟩ : ∃ B, w.heap.size = B := ⟨_, rfl⟩
  obtain ⟨Wf, hWf⟩ : ∃ Wf, w.alloc (Obj.cells fc 24) = Wf := ⟨_, rfl⟩
  have HF0 : Hid (MkW w B0 [(fc, 24)] Wf) := Lib.hid (by
    have h0 : MkW w B0 [] w := ⟨fun i c e => by simp at e, Below.refl _ _, by simp; omega⟩
    have h1 := h0.more (by simp; omega) fc 24
    rw [← hWf]; exact h1)
  rw [hWf, hB0]
  have HBE := Lib.hid hB0
  clear hWf hB0
  refine (known16 _).mono ?_
  rintro e w1 ⟨rfl, hb⟩
  have HF1 := Lib.hid (HF0.out.keep hb)
  clear hb HF0
  have MK1 := MK.out w1 (IsRow.below w0 (by rw [HBE.out]; exact HF1.out.bel))
  go_wp2_with (refine wpList_load_row rfl 24 _ rfl B0 rfl 24 fc (0, 0) _ (show w1.heap[B0]? = _ from HF1.out.b 0 _ rfl) Try.underlying24 rfl (by rw [HFS.out]; kernel_rfl) ?_)
  refine MK1.mono ?_
  rintro e w2 ⟨A2, C2, cs, rfl, hcl, hCR, hKY, hb, hfx⟩
  try simp only at hfx
  try simp only at hKY
  have HB2 : Hid (Below B0 w w2) := Lib.hid (HF1.out.bel.trans (hb.mono (by have := HF1.out.sz; simp at this; omega)))
  have HCR : Hid (CRow B0 w2 (.slice A2 N C2) cs) := Lib.hid (by
    have h1 := HF1.out.sz
    simp at h1
    exact ⟨own_low hCR.own (by omega), fun c hc => (hCR.dat c hc).low (by omega)⟩)
  have HKY : Hid (∀ (i : Nat) (c : Cp), cs[i]? = some c → (1 ≤ c.dx ∧ c.dx ≤ 4) ∧ (1 ≤ c.dy ∧ c.dy ≤ 4)) := Lib.hid (fun i c hc => by have h1 := hKY i c hc; have h2 := cpK_bd (sb := f.sb) (DP := DP) i hDPb; obtain ⟨_, _, h3, h4, _⟩ := h1; rw [h3, h4]; omega)
  have HCL := Lib.hid hcl
  obtain ⟨hTX, hTY, hCT⟩ := hfx
  obtain ⟨rs, hrs1, hrs2, TLx⟩ := tilesO X Y OX OY TX TY A2 N C2 (by omega) (by omega) (by omega) (by omega) hCT
  have HRS := Lib.hid hrs2
  have TL := Lib.hid TLx
  clear MK MK1 hb hCR hKY hcl hCT HF1 w0 s0 hrs2 TLx
  go_wp2_with fail
  obtain ⟨bm, hbm⟩ : ∃ bm, w2.heap.size = bm := ⟨_, rfl⟩
  obtain ⟨W3, hW3⟩ : ∃ W3, (w2.alloc (Obj.cells #[.int .i64 X, .int .i64 Y, .int .i64 OX, .int .i64 OY, .slice A2 N C2] 28)).alloc (Obj.cells #[.int .i64 TX, .int .i64 TY, .int .i64 (LV : Int), .int .i64 (BW : Int), .int .i64 (BH : Int), .int .i64 (PR : Int), .int .i64 ST, .int .i64 OD, .int .i64 (LY : Int), .bool RC, .bool SO, .bool EP] 30) = W3 := ⟨_, rfl⟩
  have HM3 : Hid (MkW w2 bm [(#[.int .i64 X, .int .i64 Y, .int .i64 OX, .int .i64 OY, .slice A2 N C2], 28), (#[.int .i64 TX, .int .i64 TY, .int .i64 (LV : Int), .int .i64 (BW : Int), .int .i64 (BH : Int), .int .i64 (PR : Int), .int .i64 ST, .int .i64 OD, .int .i64 (LY : Int), .bool RC, .bool SO, .bool EP], 30)] W3) := Lib.hid (by
    have h0 : MkW w2 bm [] w2 := ⟨fun i c e => by simp at e, Below.refl _ _, by simp; omega⟩
    have h1 := (h0.more (by simp; omega) #[.int .i64 X, .int .i64 Y, .int .i64 OX, .int .i64 OY, .slice A2 N C2] 28).more (by simp; omega) #[.int .i64 TX, .int .i64 TY, .int .i64 (LV : Int), .int .i64 (BW : Int), .int .i64 (BH : Int), .int .i64 (PR : Int), .int .i64 ST, .int .i64 OD, .int .i64 (LY : Int), .bool RC, .bool SO, .bool EP] 30
    rw [← hW3]; exact h1)
  rw [hW3, hbm]
  have HBM := Lib.hid hbm
  clear hW3 hbm
  refine (within16 a1 5 _ (by omega) (by omega)).mono ?_
  rintro e w4 ⟨rfl, rfl⟩
  rw [HO.out]
  have c7 : W3.cell? ⟨bm + 1, 7, none⟩ = some (.int .i64 OD) := blk_cell (HM3.out.b 1 _ rfl) 7
  have z7 : W3.frozen? ⟨bm + 1, 7, none⟩ = false := HM3.out.fro (i := 1) rfl 7
  obtain ⟨W5, hW5⟩ : ∃ W5, World.setCell W3 { block := bm + 1, off := 7 } (Value.int IntKind.i64 (o : Int)) = W5 := ⟨_, rfl⟩
  have HM5 : Hid (MkW w2 bm [(#[.int .i64 X, .int .i64 Y, .int .i64 OX, .int .i64 OY, .slice A2 N C2], 28), (#[.int .i64 TX, .int .i64 TY, .int .i64 (LV : Int), .int .i64 (BW : Int), .int .i64 (BH : Int), .int .i64 (PR : Int), .int .i64 ST, .int .i64 (o : Int), .int .i64 (LY : Int), .bool RC, .bool SO, .bool EP], 30)] W5) := Lib.hid (by rw [← hW5]; exact HM3.out.set (i := 1) rfl rfl 7 _)
  have i0' : W5.cell? ⟨bm, 0, none⟩ = some (.int .i64 X) := blk_cell (show W5.heap[bm]? = _ from HM5.out.b 0 _ rfl) 0
  have i1' : W5.cell? ⟨bm, 1, none⟩ = some (.int .i64 Y) := blk_cell (show W5.heap[bm]? = _ from HM5.out.b 0 _ rfl) 1
  have i2' : W5.cell? ⟨bm, 2, none⟩ = some (.int .i64 OX) := blk_cell (show W5.heap[bm]? = _ from HM5.out.b 0 _ rfl) 2
  have i3' : W5.cell? ⟨bm, 3, none⟩ = some (.int .i64 OY) := blk_cell (show W5.heap[bm]? = _ from HM5.out.b 0 _ rfl) 3
  have i4' : W5.cell? ⟨bm, 4, none⟩ = some (.slice A2 N C2) := blk_cell (show W5.heap[bm]? = _ from HM5.out.b 0 _ rfl) 4
  have j0' : W5.cell? ⟨bm + 1, 0, none⟩ = some (.int .i64 TX) := blk_cell (HM5.out.b 1 _ rfl) 0
  have j1' : W5.cell? ⟨bm + 1, 1, none⟩ = some (.int .i64 TY) := blk_cell (HM5.out.b 1 _ rfl) 1
  have j2' : W5.cell? ⟨bm + 1, 2, none⟩ = some (.int .i64 (LV : Int)) := blk_cell (HM5.out.b 1 _ rfl) 2
  have j3' : W5.cell? ⟨bm + 1, 3, none⟩ = some (.int .i64 (BW : Int)) := blk_cell (HM5.out.b 1 _ rfl) 3
  have j4' : W5.cell? ⟨bm + 1, 4, none⟩ = some (.int .i64 (BH : Int)) := blk_cell (HM5.out.b 1 _ rfl) 4
  have j5' : W5.cell? ⟨bm + 1, 5, none⟩ = some (.int .i64 (PR : Int)) := blk_cell (HM5.out.b 1 _ rfl) 5
  have j6' : W5.cell? ⟨bm + 1, 6, none⟩ = some (.int .i64 ST) := blk_cell (HM5.out.b 1 _ rfl) 6
  have j7' : W5.cell? ⟨bm + 1, 7, none⟩ = some (.int .i64 (o : Int)) := blk_cell (HM5.out.b 1 _ rfl) 7
  have j8' : W5.cell? ⟨bm + 1, 8, none⟩ = some (.int .i64 (LY : Int)) := blk_cell (HM5.out.b 1 _ rfl) 8
  have j9' : W5.cell? ⟨bm + 1, 9, none⟩ = some (.bool RC) := blk_cell (HM5.out.b 1 _ rfl) 9
  have j10' : W5.cell? ⟨bm + 1, 10, none⟩ = some (.bool SO) := blk_cell (HM5.out.b 1 _ rfl) 10
  have j11' : W5.cell? ⟨bm + 1, 11, none⟩ = some (.bool EP) := blk_cell (HM5.out.b 1 _ rfl) 11
  go_wp2_with fail
  clear HM3 hW5 c7 z7 i0' i1' i2' i3' i4' j0' j1' j2' j3' j4' j5' j6' j7' j8' j9' j10' j11'
  refine (TL.out _ _ _ _ _ _ _ _ _ _ _).mono ?_
  rintro e W6 ⟨TA, TC, rfl, hRT, hb⟩
  have HM6 := Lib.hid (HM5.out.keep hb)
  obtain ⟨r0, hr0⟩ : ∃ r, rs[0]? = some r := ⟨_, List.getElem?_eq_getElem (by omega)⟩
  have hri := HRS.out 0 r0 hr0
  obtain ⟨rx0, ry0, rx1, ry1⟩ := r0
  have HRI := Lib.hid hri
  obtain ⟨TA', TC', hTA, hTcell⟩ := hRT
  injection hTA with hTA1 hTA2 hTA3
  subst hTA1 hTA3
  obtain ⟨tg, tq, rfl, htg, t0, t1, t2, t3⟩ := hTcell 0 _ hr0
  rw [Nat.zero_mul, Nat.add_zero] at t0 t1 t2 t3
  obtain ⟨tn, htn⟩ : ∃ n, rs.length = n := ⟨_, rfl⟩
  rw [htn] at hrs1 ⊢
  clear hb hri hr0 hTcell hTA2 htn HM5
  obtain ⟨rg, hrg⟩ : ∃ q, W6.heap.size = q := ⟨_, rfl⟩
  obtain ⟨W7, hW7⟩ : ∃ X, W6.alloc (Obj.cells #[.int .i64 rx0, .int .i64 ry0, .int .i64 rx1, .int .i64 ry1] 38) = X := ⟨_, rfl⟩
  have HM7 : Hid (MkW w2 bm [(#[.int .i64 X, .int .i64 Y, .int .i64 OX, .int .i64 OY, .slice A2 N C2], 28), (#[.int .i64 TX, .int .i64 TY, .int .i64 (LV : Int), .int .i64 (BW : Int), .int .i64 (BH : Int), .int .i64 (PR : Int), .int .i64 ST, .int .i64 (o : Int), .int .i64 (LY : Int), .bool RC, .bool SO, .bool EP], 30)] W7) := Lib.hid (by rw [← hW7]; exact HM6.out.alloc _)
  have HRG : Hid (rg < W7.heap.size ∧ W7.heap[rg]? = some (.cells #[.int .i64 rx0, .int .i64 ry0, .int .i64 rx1, .int .i64 ry1] 38 (0, 0)) ∧ bm + 2 ≤ rg) := Lib.hid (by
    have h1 := HM6.out.sz
    refine ⟨by rw [← hW7, World.size_alloc]; omega, by rw [← hW7, ← hrg]; exact World.alloc_heap_new W6 _, by rw [← hrg]; exact h1⟩)
  have i0' : W7.cell? ⟨bm, 0, none⟩ = some (.int .i64 X) := blk_cell (show W7.heap[bm]? = _ from HM7.out.b 0 _ rfl) 0
  have i1' : W7.cell? ⟨bm, 1, none⟩ = some (.int .i64 Y) := blk_cell (show W7.heap[bm]? = _ from HM7.out.b 0 _ rfl) 1
  have i2' : W7.cell? ⟨bm, 2, none⟩ = some (.int .i64 OX) := blk_cell (show W7.heap[bm]? = _ from HM7.out.b 0 _ rfl) 2
  have i3' : W7.cell? ⟨bm, 3, none⟩ = some (.int .i64 OY) := blk_cell (show W7.heap[bm]? = _ from HM7.out.b 0 _ rfl) 3
  have i4' : W7.cell? ⟨bm, 4, none⟩ = some (.slice A2 N C2) := blk_cell (show W7.heap[bm]? = _ from HM7.out.b 0 _ rfl) 4
  have j0' : W7.cell? ⟨bm + 1, 0, none⟩ = some (.int .i64 TX) := blk_cell (HM7.out.b 1 _ rfl) 0
  have j1' : W7.cell? ⟨bm + 1, 1, none⟩ = some (.int .i64 TY) := blk_cell (HM7.out.b 1 _ rfl) 1
  have j2' : W7.cell? ⟨bm + 1, 2, none⟩ = some (.int .i64 (LV : Int)) := blk_cell (HM7.out.b 1 _ rfl) 2
  have j3' : W7.cell? ⟨bm + 1, 3, none⟩ = some (.int .i64 (BW : Int)) := blk_cell (HM7.out.b 1 _ rfl) 3
  have j4' : W7.cell? ⟨bm + 1, 4, none⟩ = some (.int .i64 (BH : Int)) := blk_cell (HM7.out.b 1 _ rfl) 4
  have j5' : W7.cell? ⟨bm + 1, 5, none⟩ = some (.int .i64 (PR : Int)) := blk_cell (HM7.out.b 1 _ rfl) 5
  have j6' : W7.cell? ⟨bm + 1, 6, none⟩ = some (.int .i64 ST) := blk_cell (HM7.out.b 1 _ rfl) 6
  have j7' : W7.cell? ⟨bm + 1, 7, none⟩ = some (.int .i64 (o : Int)) := blk_cell (HM7.out.b 1 _ rfl) 7
  have j8' : W7.cell? ⟨bm + 1, 8, none⟩ = some (.int .i64 (LY : Int)) := blk_cell (HM7.out.b 1 _ rfl) 8
  have j9' : W7.cell? ⟨bm + 1, 9, none⟩ = some (.bool RC) := blk_cell (HM7.out.b 1 _ rfl) 9
  have j10' : W7.cell? ⟨bm + 1, 10, none⟩ = some (.bool SO) := blk_cell (HM7.out.b 1 _ rfl) 10
  have j11' : W7.cell? ⟨bm + 1, 11, none⟩ = some (.bool EP) := blk_cell (HM7.out.b 1 _ rfl) 11
  have s0' : W7.cell? ⟨rg, 0, none⟩ = some (.int .i64 rx0) := blk_cell (show W7.heap[rg]? = _ from HRG.out.2.1) 0
  have s1' : W7.cell? ⟨rg, 1, none⟩ = some (.int .i64 ry0) := blk_cell (show W7.heap[rg]? = _ from HRG.out.2.1) 1
  have s2' : W7.cell? ⟨rg, 2, none⟩ = some (.int .i64 rx1) := blk_cell (show W7.heap[rg]? = _ from HRG.out.2.1) 2
  have s3' : W7.cell? ⟨rg, 3, none⟩ = some (.int .i64 ry1) := blk_cell (show W7.heap[rg]? = _ from HRG.out.2.1) 3
  go_wp2_with fail
  clear hrg hW7 htg t0 t1 t2 t3 HM6 i0' i1' i2' i3' i4' j0' j1' j2' j3' j4' j5' j6' j7' j8' j9' j10' j11' s0' s1' s2' s3'
  have LC : Hid (∀ u, Below W7.heap.size W7 u → Calls Try.prog 13 #[.agg #[.int .i64 rx0, .int .i64 ry0, .int .i64 rx1, .int .i64 ry1], .agg #[.int .i64 X, .int .i64 Y, .int .i64 OX, .int .i64 OY, .slice A2 N C2], .agg #[.int .i64 TX, .int .i64 TY, .int .i64 (LV : Int), .int .i64 (BW : Int), .int .i64 (BH : Int), .int .i64 (PR : Int), .int .i64 ST, .int .i64 (o : Int), .int .i64 (LY : Int), .bool RC, .bool SO, .bool EP]] u fun e w' => ∃ (M : List Pk) (A : Option Addr) (m c : Nat), e = .returned (.slice A m c) ∧ M.length = m ∧ m ≤ 13000000 ∧ OL (geo (rx0, ry0, rx1, ry1) (cs.map fun c => (c.dx, c.dy)) LV PR) LY o M ∧ KeyR w' A M ∧ Below u.heap.size u w') := Lib.hid (fun u hu =>
    listP_any (lo := B0) o ho5 (rx0, ry0, rx1, ry1) X Y OX OY A2 N C2 cs TX TY BW BH ST RC SO EP LV PR LY u HRI.out.1 HRI.out.2 HKY.out (by rw [HCL.out]; omega) (by rw [HCL.out]; omega) HCL.out (by omega) (by omega) (by omega) ((HCR.out.below ((HM7.out.bel.mono (by rw [HBM.out]; omega)).trans (hu.mono HM7.out.bel.size)))))
  refine (LC.out _ (Below.refl _ _)).mono ?_
  rintro e W8 ⟨MA, KA, m, KC, rfl, hm, hm13, hOL, hK, hb⟩
  have HOA := Lib.hid hOL
  have HKA := Lib.hid hK
  have HMA := Lib.hid hm
  have HM8 := Lib.hid (HM7.out.keep hb)
  have HRG8 : Hid (rg < W8.heap.size ∧ W8.heap[rg]? = some (.cells #[.int .i64 rx0, .int .i64 ry0, .int .i64 rx1, .int .i64 ry1] 38 (0, 0)) ∧ bm + 2 ≤ rg) := Lib.hid ⟨Nat.lt_of_lt_of_le HRG.out.1 hb.size, (hb.block _ HRG.out.1).trans HRG.out.2.1, HRG.out.2.2⟩
  clear hm hOL hK hb LC HRG HM7
  obtain ⟨qg, hqg⟩ : ∃ q, W8.heap.size = q := ⟨_, rfl⟩
  obtain ⟨W9, hW9⟩ : ∃ X, W8.alloc (Obj.cells #[.int .i64 TX, .int .i64 TY, .int .i64 (LV : Int), .int .i64 (BW : Int), .int .i64 (BH : Int), .int .i64 (PR : Int), .int .i64 ST, .int .i64 (o : Int), .int .i64 (LY : Int), .bool RC, .bool SO, .bool EP] 30) = X := ⟨_, rfl⟩
  have HE9 : Hid (MkW w2 bm [(#[.int .i64 X, .int .i64 Y, .int .i64 OX, .int .i64 OY, .slice A2 N C2], 28), (#[.int .i64 TX, .int .i64 TY, .int .i64 (LV : Int), .int .i64 (BW : Int), .int .i64 (BH : Int), .int .i64 (PR : Int), .int .i64 ST, .int .i64 (o : Int), .int .i64 (LY : Int), .bool RC, .bool SO, .bool EP], 30)] W9 ∧ (rg < qg ∧ W9.heap[rg]? = some (.cells #[.int .i64 rx0, .int .i64 ry0, .int .i64 rx1, .int .i64 ry1] 38 (0, 0))) ∧ (bm + 2 ≤ qg ∧ qg < W9.heap.size ∧ W9.heap[qg]? = some (.cells #[.int .i64 TX, .int .i64 TY, .int .i64 (LV : Int), .int .i64 (BW : Int), .int .i64 (BH : Int), .int .i64 (PR : Int), .int .i64 ST, .int .i64 (o : Int), .int .i64 (LY : Int), .bool RC, .bool SO, .bool EP] 30 (0, 0))) ∧ KeyR W9 KA MA ∧ Below W8.heap.size W8 W9 ∧ W8.heap.size = qg) := Lib.hid (by
    have hb : Below W8.heap.size W8 W9 := by rw [← hW9]; exact (Below.refl _ _).alloc (Nat.le_refl _) _
    obtain ⟨h1, h2, h3⟩ := HRG8.out
    refine ⟨HM8.out.keep hb, ⟨by rw [← hqg]; exact h1, (hb.block _ h1).trans h2⟩, ⟨by omega, by rw [← hW9, World.size_alloc]; omega, by rw [← hW9, ← hqg]; exact World.alloc_heap_new W8 _⟩, HKA.out.below hb, hb, hqg⟩)
  have j0' : W8.cell? ⟨bm + 1, 0, none⟩ = some (.int .i64 TX) := blk_cell (HM8.out.b 1 _ rfl) 0
  have j1' : W8.cell? ⟨bm + 1, 1, none⟩ = some (.int .i64 TY) := blk_cell (HM8.out.b 1 _ rfl) 1
  have j2' : W8.cell? ⟨bm + 1, 2, none⟩ = some (.int .i64 (LV : Int)) := blk_cell (HM8.out.b 1 _ rfl) 2
  have j3' : W8.cell? ⟨bm + 1, 3, none⟩ = some (.int .i64 (BW : Int)) := blk_cell (HM8.out.b 1 _ rfl) 3
  have j4' : W8.cell? ⟨bm + 1, 4, none⟩ = some (.int .i64 (BH : Int)) := blk_cell (HM8.out.b 1 _ rfl) 4
  have j5' : W8.cell? ⟨bm + 1, 5, none⟩ = some (.int .i64 (PR : Int)) := blk_cell (HM8.out.b 1 _ rfl) 5
  have j6' : W8.cell? ⟨bm + 1, 6, none⟩ = some (.int .i64 ST) := blk_cell (HM8.out.b 1 _ rfl) 6
  have j7' : W8.cell? ⟨bm + 1, 7, none⟩ = some (.int .i64 (o : Int)) := blk_cell (HM8.out.b 1 _ rfl) 7
  have j8' : W8.cell? ⟨bm + 1, 8, none⟩ = some (.int .i64 (LY : Int)) := blk_cell (HM8.out.b 1 _ rfl) 8
  have j9' : W8.cell? ⟨bm + 1, 9, none⟩ = some (.bool RC) := blk_cell (HM8.out.b 1 _ rfl) 9
  have j10' : W8.cell? ⟨bm + 1, 10, none⟩ = some (.bool SO) := blk_cell (HM8.out.b 1 _ rfl) 10
  have j11' : W8.cell? ⟨bm + 1, 11, none⟩ = some (.bool EP) := blk_cell (HM8.out.b 1 _ rfl) 11
  go_wp2_with fail
  obtain ⟨VL, hVL⟩ : ∃ VL : Unit → List (Nat × Nat × Value), VL = fun z => [(0, 35, .pointer (some ⟨bm + 1, 8, none⟩)), (1, 36, .int .i64 (LY : Int)), (2, 37, .int .i64 a2), (3, 38, .pointer (some ⟨bm + 1, 8, none⟩)), (4, 39, .int .i64 (LY : Int)), (5, 40, .int .i64 (9 - (LY : Int))), (6, 41, .int .i64 (d : Int)), (7, 42, .int .i64 (LQ : Int)), (8, 43, .pointer (some ⟨qg, 8, none⟩))] := ⟨_, rfl⟩
  have hok : ∀ z, manyOk 83 (VL z) := fun z => by rw [hVL]; exact okB_ok rfl
  have HVL := Lib.hid hVL
  have hvi : ∀ z, ∀ x ∈ VL z, x.1 < 10 := fun z => by rw [hVL]; exact ltB_ok rfl
  have HOK := Lib.hid hok
  have HVI := Lib.hid hvi
  clear hVL hok hvi
  refine (wpIn_wide (n := 9)).1 (regionIn_many (N := 83) (w := _) VL (fun L z w' => (Below qg W9 w') ∧ (bif L 9 then (w'.heap[qg]? = some (.cells #[.int .i64 TX, .int .i64 TY, .int .i64 (LV : Int), .int .i64 (BW : Int), .int .i64 (BH : Int), .int .i64 (PR : Int), .int .i64 ST, .int .i64 (o : Int), .int .i64 (LQ : Int), .bool RC, .bool SO, .bool EP] 30 (0, 0))) else w'.heap[qg]? = some (.cells #[.int .i64 TX, .int .i64 TY, .int .i64 (LV : Int), .int .i64 (BW : Int), .int .i64 (BH : Int), .int .i64 (PR : Int), .int .i64 ST, .int .i64 (o : Int), .int .i64 (LY : Int), .bool RC, .bool SO, .bool EP] 30 (0, 0)))) [(2, .int .i64 a2), (8, .pointer (some ⟨bm + 1, 0, none⟩)), (11, .pointer (some ⟨qg, 0, none⟩))] (by kernel_rfl) (by kernel_rfl) rfl (by simp only [List.forall_mem_cons, List.not_mem_nil, false_imp_iff, implies_true, and_true]; exact ⟨rfl, rfl, rfl⟩) HVI.out () ?start ?step ?fin)
  case start => exact ⟨(Below.refl _ _).drew, HE9.out.2.2.1.2.2⟩
  case step =>
    intro gg_ hgN hgF ii_ hii_ L z w' hph hs hu
    obtain ⟨hcm, hph⟩ := hph
    have hF2 := hgF (2, .int .i64 a2) (by simp)
    have hF8 := hgF (8, .pointer (some ⟨bm + 1, 0, none⟩)) (by simp)
    have hF11 := hgF (11, .pointer (some ⟨qg, 0, none⟩)) (by simp)
    have hL := hu.1
    have hii_ : ii_ < 10 := hii_
    clear hgF
    obtain rfl | rfl | rfl | rfl | rfl | rfl | rfl | rfl | rfl | rfl := (by omega : ii_ = 0 ∨ ii_ = 1 ∨ ii_ = 2 ∨ ii_ = 3 ∨ ii_ = 4 ∨ ii_ = 5 ∨ ii_ = 6 ∨ ii_ = 7 ∨ ii_ = 8 ∨ ii_ = 9)
    · skip
      have n9 : L 9 = false := not_yet hL fun h => shut_at hs 9 0 (by kernel_rfl) (h)
      try simp only [n9, hL, cond_true, cond_false] at hph
      have e8 : (many gg_ L (VL z))[8]?.getD undef = .pointer (some ⟨bm + 1, 0, none⟩) := many_out3 hgN (HOK.out z) (by rw [HVL.out]; rfl) hF8
      refine opIn_run (v := .pointer (some ⟨bm + 1, 8, none⟩)) (w' := w') rfl rfl (fun c h => by cases h) (fun _ => trivial) ?_ ⟨z, by exact many_put3 (HOK.out _) (by rw [HVL.out]; rfl) hL, hcm, by simp only [upd, n9, hL, Nat.reduceBEq, cond_true, cond_false]; exact hph⟩
      go_simp
    · skip
      have y0 : L 0 = true := up_at hu 0 (by kernel_rfl)
      have n9 : L 9 = false := not_yet hL fun h => shut_at hs 9 1 (by kernel_rfl) (h)
      try simp only [y0, n9, hL, cond_true, cond_false] at hph
      have hcell : w'.cell? ⟨bm + 1, 8, none⟩ = some (.int .i64 (LY : Int)) := blk_cell ((HE9.out.1.keepN (hcm.mono (Nat.le_refl _)) HE9.out.2.2.1.1).b 1 _ rfl) 8
      have e35 : (many gg_ L (VL z))[35]?.getD undef = .pointer (some ⟨bm + 1, 8, none⟩) := many_eval3 hgN (HOK.out z) (by rw [HVL.out]; rfl) y0
      refine opIn_run (v := .int .i64 (LY : Int)) (w' := w') rfl rfl (fun c h => by cases h) (fun _ => trivial) ?_ ⟨z, by exact many_put3 (HOK.out _) (by rw [HVL.out]; rfl) hL, hcm, by simp only [upd, y0, n9, hL, Nat.reduceBEq, cond_true, cond_false]; exact hph⟩
      go_simp
    · skip
      have n9 : L 9 = false := not_yet hL fun h => shut_at hs 9 2 (by kernel_rfl) (h)
      try simp only [n9, hL, cond_true, cond_false] at hph
      have e2 : (many gg_ L (VL z))[2]?.getD undef = .int .i64 a2 := many_out3 hgN (HOK.out z) (by rw [HVL.out]; rfl) hF2
      refine opIn_run (v := .int .i64 a2) (w' := w') rfl rfl (fun c h => by cases h) (fun _ => trivial) ?_ ⟨z, by exact many_put3 (HOK.out _) (by rw [HVL.out]; rfl) hL, hcm, by simp only [upd, n9, hL, Nat.reduceBEq, cond_true, cond_false]; exact hph⟩
      go_simp
    · skip
      have n9 : L 9 = false := not_yet hL fun h => shut_at hs 9 3 (by kernel_rfl) (h)
      try simp only [n9, hL, cond_true, cond_false] at hph
      have e8 : (many gg_ L (VL z))[8]?.getD undef = .pointer (some ⟨bm + 1, 0, none⟩) := many_out3 hgN (HOK.out z) (by rw [HVL.out]; rfl) hF8
      refine opIn_run (v := .pointer (some ⟨bm + 1, 8, none⟩)) (w' := w') rfl rfl (fun c h => by cases h) (fun _ => trivial) ?_ ⟨z, by exact many_put3 (HOK.out _) (by rw [HVL.out]; rfl) hL, hcm, by simp only [upd, n9, hL, Nat.reduceBEq, cond_true, cond_false]; exact hph⟩
      go_simp
    · skip
      have y3 : L 3 = true := up_at hu 3 (by kernel_rfl)
      have n9 : L 9 = false := not_yet hL fun h => shut_at hs 9 4 (by kernel_rfl) (h)
      try simp only [y3, n9, hL, cond_true, cond_false] at hph
      have hcell : w'.cell? ⟨bm + 1, 8, none⟩ = some (.int .i64 (LY : Int)) := blk_cell ((HE9.out.1.keepN (hcm.mono (Nat.le_refl _)) HE9.out.2.2.1.1).b 1 _ rfl) 8
      have e38 : (many gg_ L (VL z))[38]?.getD undef = .pointer (some ⟨bm + 1, 8, none⟩) := many_eval3 hgN (HOK.out z) (by rw [HVL.out]; rfl) y3
      refine opIn_run (v := .int .i64 (LY : Int)) (w' := w') rfl rfl (fun c h => by cases h) (fun _ => trivial) ?_ ⟨z, by exact many_put3 (HOK.out _) (by rw [HVL.out]; rfl) hL, hcm, by simp only [upd, y3, n9, hL, Nat.reduceBEq, cond_true, cond_false]; exact hph⟩
      go_simp
    · skip
      have y4 : L 4 = true := up_at hu 4 (by kernel_rfl)
      have n9 : L 9 = false := not_yet hL fun h => shut_at hs 9 5 (by kernel_rfl) (h)
      try simp only [y4, n9, hL, cond_true, cond_false] at hph
      have e39 : (many gg_ L (VL z))[39]?.getD undef = .int .i64 (LY : Int) := many_eval3 hgN (HOK.out z) (by rw [HVL.out]; rfl) y4
      refine opIn_run (v := .int .i64 (9 - (LY : Int))) (w' := w') rfl rfl (fun c h => by cases h) (fun _ => trivial) ?_ ⟨z, by exact many_put3 (HOK.out _) (by rw [HVL.out]; rfl) hL, hcm, by simp only [upd, y4, n9, hL, Nat.reduceBEq, cond_true, cond_false]; exact hph⟩
      have hb9 : -9223372036854775808 ≤ 9 - (LY : Int) ∧ 9 - (LY : Int) ≤ 9223372036854775807 := by omega
      go_simp
      exact IntWalk.i64_in _ hb9
    · skip
      have y2 : L 2 = true := up_at hu 2 (by kernel_rfl)
      have y5 : L 5 = true := up_at hu 5 (by kernel_rfl)
      have n9 : L 9 = false := not_yet hL fun h => shut_at hs 9 6 (by kernel_rfl) (h)
      try simp only [y2, y5, n9, hL, cond_true, cond_false] at hph
      have e37 : (many gg_ L (VL z))[37]?.getD undef = .int .i64 a2 := many_eval3 hgN (HOK.out z) (by rw [HVL.out]; rfl) y2
      have e40 : (many gg_ L (VL z))[40]?.getD undef = .int .i64 (9 - (LY : Int)) := many_eval3 hgN (HOK.out z) (by rw [HVL.out]; rfl) y5
      refine opIn_call (f := 15) (args := #[.int .i64 a2, .int .i64 (9 - (LY : Int))]) (w' := w') rfl rfl (fun c h => by cases h) (fun _ => trivial) rfl (by go_simp) ((callsIn_wide.2 (within16 a2 (9 - (LY : Int)) w' (by omega) (by omega))).mono ?_)
      rintro e w2 ⟨he, rfl⟩
      rw [HD.out.1] at he
      subst he
      exact ⟨_, rfl, z, by exact many_put3 (HOK.out _) (by rw [HVL.out]; rfl) hL, hcm, by simp only [upd, y2, y5, n9, hL, Nat.reduceBEq, cond_true, cond_false]; exact hph⟩
    · skip
      have y1 : L 1 = true := up_at hu 1 (by kernel_rfl)
      have y6 : L 6 = true := up_at hu 6 (by kernel_rfl)
      have n9 : L 9 = false := not_yet hL fun h => shut_at hs 9 7 (by kernel_rfl) (h)
      try simp only [y1, y6, n9, hL, cond_true, cond_false] at hph
      have e36 : (many gg_ L (VL z))[36]?.getD undef = .int .i64 (LY : Int) := many_eval3 hgN (HOK.out z) (by rw [HVL.out]; rfl) y1
      have e41 : (many gg_ L (VL z))[41]?.getD undef = .int .i64 (d : Int) := many_eval3 hgN (HOK.out z) (by rw [HVL.out]; rfl) y6
      refine opIn_run (v := .int .i64 (LQ : Int)) (w' := w') rfl rfl (fun c h => by cases h) (fun _ => trivial) ?_ ⟨z, by exact many_put3 (HOK.out _) (by rw [HVL.out]; rfl) hL, hcm, by simp only [upd, y1, y6, n9, hL, Nat.reduceBEq, cond_true, cond_false]; exact hph⟩
      have hd2 := HD.out.2
      have hs2 : (LY : Int) + (d : Int) = (LQ : Int) := by omega
      have hb9 : -9223372036854775808 ≤ (LQ : Int) ∧ (LQ : Int) ≤ 9223372036854775807 := by omega
      clear hd2
      go_simp
      try rw [hs2]
      exact IntWalk.i64_in _ hb9
    · skip
      have y0 : L 0 = true := up_at hu 0 (by kernel_rfl)
      have y1 : L 1 = true := up_at hu 1 (by kernel_rfl)
      have y2 : L 2 = true := up_at hu 2 (by kernel_rfl)
      have y3 : L 3 = true := up_at hu 3 (by kernel_rfl)
      have y4 : L 4 = true := up_at hu 4 (by kernel_rfl)
      have y5 : L 5 = true := up_at hu 5 (by kernel_rfl)
      have y6 : L 6 = true := up_at hu 6 (by kernel_rfl)
      have y7 : L 7 = true := up_at hu 7 (by kernel_rfl)
      have n9 : L 9 = false := not_yet hL fun h => shut_at hs 9 8 (by kernel_rfl) (h)
      try simp only [y0, y1, y2, y3, y4, y5, y6, y7, n9, hL, cond_true, cond_false] at hph
      have e11 : (many gg_ L (VL z))[11]?.getD undef = .pointer (some ⟨qg, 0, none⟩) := many_out3 hgN (HOK.out z) (by rw [HVL.out]; rfl) hF11
      refine opIn_run (v := .pointer (some ⟨qg, 8, none⟩)) (w' := w') rfl rfl (fun c h => by cases h) (fun _ => trivial) ?_ ⟨z, by exact many_put3 (HOK.out _) (by rw [HVL.out]; rfl) hL, hcm, by simp only [upd, y0, y1, y2, y3, y4, y5, y6, y7, n9, hL, Nat.reduceBEq, cond_true, cond_false]; exact hph⟩
      go_simp
    · skip
      have y0 : L 0 = true := up_at hu 0 (by kernel_rfl)
      have y1 : L 1 = true := up_at hu 1 (by kernel_rfl)
      have y2 : L 2 = true := up_at hu 2 (by kernel_rfl)
      have y3 : L 3 = true := up_at hu 3 (by kernel_rfl)
      have y4 : L 4 = true := up_at hu 4 (by kernel_rfl)
      have y5 : L 5 = true := up_at hu 5 (by kernel_rfl)
      have y6 : L 6 = true := up_at hu 6 (by kernel_rfl)
      have y7 : L 7 = true := up_at hu 7 (by kernel_rfl)
      have y8 : L 8 = true := up_at hu 8 (by kernel_rfl)
      try simp only [y0, y1, y2, y3, y4, y5, y6, y7, y8, hL, cond_true, cond_false] at hph
      have hc8 : w'.cell? ⟨qg, 8, none⟩ = some (.int .i64 (LY : Int)) := blk_cell hph 8
      have hz8 : w'.frozen? ⟨qg, 8, none⟩ = false := by simp [World.frozen?, hph]
      have e42 : (many gg_ L (VL z))[42]?.getD undef = .int .i64 (LQ : Int) := many_eval3 hgN (HOK.out z) (by rw [HVL.out]; rfl) y7
      have e43 : (many gg_ L (VL z))[43]?.getD undef = .pointer (some ⟨qg, 8, none⟩) := many_eval3 hgN (HOK.out z) (by rw [HVL.out]; rfl) y8
      refine opIn_skip (w' := w'.setCell ⟨qg, 8, none⟩ (.int .i64 (LQ : Int))) rfl rfl (fun c h => by cases h) (fun _ => trivial) ?_ ⟨z, by exact many_none 9 _ (by rw [HVL.out]; simp), hcm.setCell (Nat.le_refl _) _, by simp only [upd, y0, y1, y2, y3, y4, y5, y6, y7, y8, hL, Nat.reduceBEq, cond_true, cond_false]; exact by rw [setCell_eq_setRow w' qg 8 _ _ (0, 0) _ hph]; exact setRow_heap _ _ _ _ _ _ hph⟩
      go_simp
  case fin =>
    intro L z w' hall hph
    obtain ⟨hcm, hph⟩ := hph
    have l9 := hall 9 (by decide)
    simp only [l9, cond_true] at hph
    clear l9
    rw [HVL.out]
    dsimp only [manyL, List.set_cons_zero, List.set_cons_succ]
    clear hall HVL HOK HVI
    have HPQ := Lib.hid hph
    have HBq := Lib.hid hcm
    obtain ⟨W10, hW10⟩ : ∃ W, W = w' := ⟨_, rfl⟩
    subst hW10
    have HE10 : Hid (MkW w2 bm [(#[.int .i64 X, .int .i64 Y, .int .i64 OX, .int .i64 OY, .slice A2 N C2], 28), (#[.int .i64 TX, .int .i64 TY, .int .i64 (LV : Int), .int .i64 (BW : Int), .int .i64 (BH : Int), .int .i64 (PR : Int), .int .i64 ST, .int .i64 (o : Int), .int .i64 (LY : Int), .bool RC, .bool SO, .bool EP], 30)] W10 ∧ (rg < qg ∧ W10.heap[rg]? = some (.cells #[.int .i64 rx0, .int .i64 ry0, .int .i64 rx1, .int .i64 ry1] 38 (0, 0))) ∧ (bm + 2 ≤ qg ∧ qg < W10.heap.size) ∧ KeyR W10 KA MA) := Lib.hid (by
      obtain ⟨h1, ⟨h2, h3⟩, ⟨h4, h5, h6⟩, h7, h8, h9⟩ := HE9.out
      have h10 := HBq.out.size
      refine ⟨h1.keepN HBq.out h4, ⟨h2, (HBq.out.block _ h2).trans h3⟩, ⟨h4, by omega⟩, ?_⟩
      have hk : KeyR W8 KA MA := HKA.out
      have hb2 : Below W8.heap.size W8 W10 := h8.trans (by rw [h9]; exact HBq.out)
      exact hk.below hb2)
    clear hph hcm HE9 HBq hW9 hqg HM8 HRG8 HKA j0' j1' j2' j3' j4' j5' j6' j7' j8' j9' j10' j11'
    have LC : Hid (∀ u, Below W10.heap.size W10 u → Calls Try.prog 13 #[.agg #[.int .i64 rx0, .int .i64 ry0, .int .i64 rx1, .int .i64 ry1], .agg #[.int .i64 X, .int .i64 Y, .int .i64 OX, .int .i64 OY, .slice A2 N C2], .agg #[.int .i64 TX, .int .i64 TY, .int .i64 (LV : Int), .int .i64 (BW : Int), .int .i64 (BH : Int), .int .i64 (PR : Int), .int .i64 ST, .int .i64 (o : Int), .int .i64 (LQ : Int), .bool RC, .bool SO, .bool EP]] u fun e w' => ∃ (M : List Pk) (A : Option Addr) (m c : Nat), e = .returned (.slice A m c) ∧ M.length = m ∧ m ≤ 13000000 ∧ OL (geo (rx0, ry0, rx1, ry1) (cs.map fun c => (c.dx, c.dy)) LV PR) LQ o M ∧ KeyR w' A M ∧ Below u.heap.size u w') := Lib.hid (fun u hu =>
      listP_any (lo := B0) o ho5 (rx0, ry0, rx1, ry1) X Y OX OY A2 N C2 cs TX TY BW BH ST RC SO EP LV PR LQ u HRI.out.1 HRI.out.2 HKY.out (by rw [HCL.out]; omega) (by rw [HCL.out]; omega) HCL.out (by omega) (by omega) (by omega) ((HCR.out.below ((HE10.out.1.bel.mono (by rw [HBM.out]; omega)).trans (hu.mono HE10.out.1.bel.size)))))
    have i0' : W10.cell? ⟨bm, 0, none⟩ = some (.int .i64 X) := blk_cell (show W10.heap[bm]? = _ from HE10.out.1.b 0 _ rfl) 0
    have i1' : W10.cell? ⟨bm, 1, none⟩ = some (.int .i64 Y) := blk_cell (show W10.heap[bm]? = _ from HE10.out.1.b 0 _ rfl) 1
    have i2' : W10.cell? ⟨bm, 2, none⟩ = some (.int .i64 OX) := blk_cell (show W10.heap[bm]? = _ from HE10.out.1.b 0 _ rfl) 2
    have i3' : W10.cell? ⟨bm, 3, none⟩ = some (.int .i64 OY) := blk_cell (show W10.heap[bm]? = _ from HE10.out.1.b 0 _ rfl) 3
    have i4' : W10.cell? ⟨bm, 4, none⟩ = some (.slice A2 N C2) := blk_cell (show W10.heap[bm]? = _ from HE10.out.1.b 0 _ rfl) 4
    have s0' : W10.cell? ⟨rg, 0, none⟩ = some (.int .i64 rx0) := blk_cell (show W10.heap[rg]? = _ from HE10.out.2.1.2) 0
    have s1' : W10.cell? ⟨rg, 1, none⟩ = some (.int .i64 ry0) := blk_cell (show W10.heap[rg]? = _ from HE10.out.2.1.2) 1
    have s2' : W10.cell? ⟨rg, 2, none⟩ = some (.int .i64 rx1) := blk_cell (show W10.heap[rg]? = _ from HE10.out.2.1.2) 2
    have s3' : W10.cell? ⟨rg, 3, none⟩ = some (.int .i64 ry1) := blk_cell (show W10.heap[rg]? = _ from HE10.out.2.1.2) 3
    have j0' : W10.cell? ⟨qg, 0, none⟩ = some (.int .i64 TX) := blk_cell HPQ.out 0
    have j1' : W10.cell? ⟨qg, 1, none⟩ = some (.int .i64 TY) := blk_cell HPQ.out 1
    have j2' : W10.cell? ⟨qg, 2, none⟩ = some (.int .i64 (LV : Int)) := blk_cell HPQ.out 2
    have j3' : W10.cell? ⟨qg, 3, none⟩ = some (.int .i64 (BW : Int)) := blk_cell HPQ.out 3
    have j4' : W10.cell? ⟨qg, 4, none⟩ = some (.int .i64 (BH : Int)) := blk_cell HPQ.out 4
    have j5' : W10.cell? ⟨qg, 5, none⟩ = some (.int .i64 (PR : Int)) := blk_cell HPQ.out 5
    have j6' : W10.cell? ⟨qg, 6, none⟩ = some (.int .i64 ST) := blk_cell HPQ.out 6
    have j7' : W10.cell? ⟨qg, 7, none⟩ = some (.int .i64 (o : Int)) := blk_cell HPQ.out 7
    have j8' : W10.cell? ⟨qg, 8, none⟩ = some (.int .i64 (LQ : Int)) := blk_cell HPQ.out 8
    have j9' : W10.cell? ⟨qg, 9, none⟩ = some (.bool RC) := blk_cell HPQ.out 9
    have j10' : W10.cell? ⟨qg, 10, none⟩ = some (.bool SO) := blk_cell HPQ.out 10
    have j11' : W10.cell? ⟨qg, 11, none⟩ = some (.bool EP) := blk_cell HPQ.out 11
    go_wp2_with fail
    clear i0' i1' i2' i3' i4' j0' j1' j2' j3' j4' j5' j6' j7' j8' j9' j10' j11' s0' s1' s2' s3'
    refine (LC.out _ (Below.refl _ _)).mono ?_
    rintro e W11 ⟨MB, KB, mb, KD, rfl, hmb, hmb13, hOLb, hKb, hb⟩
    have HFW : Hid (MB.filter (fun x => decide (x.ly < (LY : Int))) = MA) := Lib.hid (HOA.out.fewer hOLb hLQb.1)
    have HMB := Lib.hid hmb
    have HKB := Lib.hid hKb
    have HKA := Lib.hid (HE10.out.2.2.2.below hb)
    have HM11 := Lib.hid (HE10.out.1.keep hb)
    clear hmb hOLb hKb hb LC HE10 HPQ
    go_wp2_with fail
    go_loopg [13, 14] mb (fun g a v wr => ∃ i : Nat, i + g = mb ∧ a = .int .i64 ((((MB.take i).filter (fun x => decide (x.ly < (LY : Int)))).length : Nat) : Int) ∧ v = .int .i64 (i : Int) ∧ Hid (Below W11.heap.size W11 wr))
    case atStart => exact ⟨0, by omega, rfl, rfl, Lib.hid (Below.refl _ _)⟩
    case round =>
     obtain ⟨i, hig, rfl, rfl, HBa⟩ := hrel
     obtain ⟨wa, hwa⟩ : ∃ wa, wa = wr := ⟨wr, rfl⟩
     subst hwa
     obtain ⟨k, hk⟩ : ∃ k, ((MB.take i).filter (fun x => decide (x.ly < (LY : Int)))).length = k := ⟨_, rfl⟩
     have hkm : k ≤ m := by
       have h1 : ((MB.take i).filter (fun x => decide (x.ly < (LY : Int)))).length ≤ (MB.filter (fun x => decide (x.ly < (LY : Int)))).length := (List.Sublist.filter _ (List.take_sublist i MB)).length_le
       rw [hk, HFW.out, HMA.out] at h1
       exact h1
     by_cases him : i < mb
     · obtain ⟨g0, rfl⟩ : ∃ g0, gk = g0 + 1 := ⟨gk - 1, by omega⟩
       obtain ⟨b, hb⟩ : ∃ b, MB[i]? = some b := ⟨_, List.getElem?_eq_getElem (by rw [HMB.out]; omega)⟩
       obtain ⟨kg, ko, hKB, hkgl, v0, v1, v2, v3⟩ := HKB.out i b hb
       have hget := filt_get (fun x => decide (x.ly < (LY : Int))) MB i b hb
       have htk := filt_take (fun x => decide (x.ly < (LY : Int))) MB i b hb
       rw [hk, HFW.out] at hget
       rw [hk] at htk
       subst hKB
       have HTK := Lib.hid htk
       rw [hk]
       have HKK := Lib.hid hk
       clear hk htk
       have hiI : (i : Int) < (mb : Int) := by omega
       obtain ⟨aL, aR, aC, aP, aD, aA⟩ := b
       simp only at v0 v1 v2 v3
       have HV : Hid (kg < W11.heap.size ∧ (W11.cell? ⟨kg, ko + i * 4, none⟩ = some (.int .i64 aL) ∧ W11.cell? ⟨kg, ko + i * 4 + 1, none⟩ = some (.int .i64 aR) ∧ W11.cell? ⟨kg, ko + i * 4 + 2, none⟩ = some (.int .i64 aC) ∧ W11.cell? ⟨kg, ko + i * 4 + 3, none⟩ = some (.int .i64 aP))) := Lib.hid ⟨hkgl, v0, v1, v2, v3⟩
       have HGT := Lib.hid hget
       clear hget hkgl v0 v1 v2 v3
       go_wp2_with fail
       by_cases hly : aL < (LY : Int)
       · have hge : ¬ (LY : Int) ≤ aL := by omega
         obtain ⟨VL, hVL⟩ : ∃ VL : Unit → List (Nat × Nat × Value), VL = fun z => [(0, 54, .slice (some ⟨kg, ko, none⟩) mb KD), (1, 55, .int .i64 (i : Int)), (2, 56, .pointer (some ⟨kg, ko + i * 4, none⟩)), (3, 57, .pointer (some ⟨kg, ko + i * 4, none⟩)), (4, 58, .int .i64 aL), (5, 59, .pointer (some ⟨bm + 1, 8, none⟩)), (6, 60, .int .i64 (LY : Int)), (7, 61, .bool false)] := ⟨_, rfl⟩
         have hok : ∀ z, manyOk 83 (VL z) := fun z => by rw [hVL]; exact okB_ok rfl
         have HVL := Lib.hid hVL
         have hvi : ∀ z, ∀ x ∈ VL z, x.1 < 8 := fun z => by rw [hVL]; exact ltB_ok rfl
         have HOK := Lib.hid hok
         have HVI := Lib.hid hvi
         clear hVL hok hvi
         refine (wpIn_wide (n := 9)).1 (regionIn_many (N := 83) (w := _) VL (fun L z w' => Below W11.heap.size W11 w') [(8, .pointer (some ⟨bm + 1, 0, none⟩)), (12, .slice (some ⟨kg, ko, none⟩) mb KD), (14, .int .i64 (i : Int))] (by kernel_rfl) (by kernel_rfl) rfl (by simp only [List.forall_mem_cons, List.not_mem_nil, false_imp_iff, implies_true, and_true]; exact ⟨rfl, rfl, rfl⟩) HVI.out () ?start ?step ?fin)
         case start => exact HBa.out.drew
         case step =>
           intro gg_ hgN hgF ii_ hii_ L z w' hph hs hu
           have hF8 := hgF (8, .pointer (some ⟨bm + 1, 0, none⟩)) (by simp)
           have hF12 := hgF (12, .slice (some ⟨kg, ko, none⟩) mb KD) (by simp)
           have hF14 := hgF (14, .int .i64 (i : Int)) (by simp)
           have hL := hu.1
           have hii_ : ii_ < 8 := hii_
           clear hgF
           obtain rfl | rfl | rfl | rfl | rfl | rfl | rfl | rfl := (by omega : ii_ = 0 ∨ ii_ = 1 ∨ ii_ = 2 ∨ ii_ = 3 ∨ ii_ = 4 ∨ ii_ = 5 ∨ ii_ = 6 ∨ ii_ = 7)
           · skip
             have e12 : (many gg_ L (VL z))[12]?.getD undef = .slice (some ⟨kg, ko, none⟩) mb KD := many_out3 hgN (HOK.out z) (by rw [HVL.out]; rfl) hF12
             refine opIn_run (v := .slice (some ⟨kg, ko, none⟩) mb KD) (w' := w') rfl rfl (fun c h => by cases h) (fun _ => trivial) ?_ ⟨z, by exact many_put3 (HOK.out _) (by rw [HVL.out]; rfl) hL, hph⟩
             go_simp
           · skip
             have e14 : (many gg_ L (VL z))[14]?.getD undef = .int .i64 (i : Int) := many_out3 hgN (HOK.out z) (by rw [HVL.out]; rfl) hF14
             refine opIn_run (v := .int .i64 (i : Int)) (w' := w') rfl rfl (fun c h => by cases h) (fun _ => trivial) ?_ ⟨z, by exact many_put3 (HOK.out _) (by rw [HVL.out]; rfl) hL, hph⟩
             go_simp
           · skip
             have y0 : L 0 = true := up_at hu 0 (by kernel_rfl)
             have y1 : L 1 = true := up_at hu 1 (by kernel_rfl)
             have e54 : (many gg_ L (VL z))[54]?.getD undef = .slice (some ⟨kg, ko, none⟩) mb KD := many_eval3 hgN (HOK.out z) (by rw [HVL.out]; rfl) y0
             have e55 : (many gg_ L (VL z))[55]?.getD undef = .int .i64 (i : Int) := many_eval3 hgN (HOK.out z) (by rw [HVL.out]; rfl) y1
             refine opIn_run (v := .pointer (some ⟨kg, ko + i * 4, none⟩)) (w' := w') rfl rfl (fun c h => by cases h) (fun _ => trivial) ?_ ⟨z, by exact many_put3 (HOK.out _) (by rw [HVL.out]; rfl) hL, hph⟩
             have hj0 : ¬ (i : Int) < 0 := by omega
             go_simp
           · skip
             have y2 : L 2 = true := up_at hu 2 (by kernel_rfl)
             have e56 : (many gg_ L (VL z))[56]?.getD undef = .pointer (some ⟨kg, ko + i * 4, none⟩) := many_eval3 hgN (HOK.out z) (by rw [HVL.out]; rfl) y2
             refine opIn_run (v := .pointer (some ⟨kg, ko + i * 4, none⟩)) (w' := w') rfl rfl (fun c h => by cases h) (fun _ => trivial) ?_ ⟨z, by exact many_put3 (HOK.out _) (by rw [HVL.out]; rfl) hL, hph⟩
             go_simp
           · skip
             have y3 : L 3 = true := up_at hu 3 (by kernel_rfl)
             have hcell : w'.cell? ⟨kg, ko + i * 4, none⟩ = some (.int .i64 aL) := (hph.cell (p := ⟨kg, ko + i * 4, none⟩) HV.out.1).trans HV.out.2.1
             have e57 : (many gg_ L (VL z))[57]?.getD undef = .pointer (some ⟨kg, ko + i * 4, none⟩) := many_eval3 hgN (HOK.out z) (by rw [HVL.out]; rfl) y3
             refine opIn_run (v := .int .i64 aL) (w' := w') rfl rfl (fun c h => by cases h) (fun _ => trivial) ?_ ⟨z, by exact many_put3 (HOK.out _) (by rw [HVL.out]; rfl) hL, hph⟩
             go_simp
           · skip
             have e8 : (many gg_ L (VL z))[8]?.getD undef = .pointer (some ⟨bm + 1, 0, none⟩) := many_out3 hgN (HOK.out z) (by rw [HVL.out]; rfl) hF8
             refine opIn_run (v := .pointer (some ⟨bm + 1, 8, none⟩)) (w' := w') rfl rfl (fun c h => by cases h) (fun _ => trivial) ?_ ⟨z, by exact many_put3 (HOK.out _) (by rw [HVL.out]; rfl) hL, hph⟩
             go_simp
           · skip
             have y5 : L 5 = true := up_at hu 5 (by kernel_rfl)
             have hcell : w'.cell? ⟨bm + 1, 8, none⟩ = some (.int .i64 (LY : Int)) := blk_cell ((HM11.out.keep hph).b 1 _ rfl) 8
             have e59 : (many gg_ L (VL z))[59]?.getD undef = .pointer (some ⟨bm + 1, 8, none⟩) := many_eval3 hgN (HOK.out z) (by rw [HVL.out]; rfl) y5
             refine opIn_run (v := .int .i64 (LY : Int)) (w' := w') rfl rfl (fun c h => by cases h) (fun _ => trivial) ?_ ⟨z, by exact many_put3 (HOK.out _) (by rw [HVL.out]; rfl) hL, hph⟩
             go_simp
           · skip
             have y4 : L 4 = true := up_at hu 4 (by kernel_rfl)
             have y6 : L 6 = true := up_at hu 6 (by kernel_rfl)
             have e58 : (many gg_ L (VL z))[58]?.getD undef = .int .i64 aL := many_eval3 hgN (HOK.out z) (by rw [HVL.out]; rfl) y4
             have e60 : (many gg_ L (VL z))[60]?.getD undef = .int .i64 (LY : Int) := many_eval3 hgN (HOK.out z) (by rw [HVL.out]; rfl) y6
             refine opIn_run (v := .bool false) (w' := w') rfl rfl (fun c h => by cases h) (fun _ => trivial) ?_ ⟨z, by exact many_put3 (HOK.out _) (by rw [HVL.out]; rfl) hL, hph⟩
             go_simp
             try omega
         case fin =>
           intro L z w' hall hph
           rw [HVL.out]
           dsimp only [manyL, List.set_cons_zero, List.set_cons_succ]
           clear hall HVL HOK HVI
           have HBn := Lib.hid hph
           obtain ⟨W12, hW12⟩ : ∃ W, W = w' := ⟨_, rfl⟩
           subst hW12
           clear hph
           have hgt := HGT.out (decide_eq_true hly)
           have hkm2 : k < m := by
             have h1 := (List.getElem?_eq_some_iff.1 hgt).1
             rw [HMA.out] at h1
             exact h1
           obtain ⟨ag, ao, hKA, hagl, u0, u1, u2, u3⟩ := HKA.out k _ hgt
           subst hKA
           simp only at u0 u1 u2 u3
           have HU : Hid (ag < W11.heap.size ∧ (W11.cell? ⟨ag, ao + k * 4, none⟩ = some (.int .i64 aL) ∧ W11.cell? ⟨ag, ao + k * 4 + 1, none⟩ = some (.int .i64 aR) ∧ W11.cell? ⟨ag, ao + k * 4 + 2, none⟩ = some (.int .i64 aC) ∧ W11.cell? ⟨ag, ao + k * 4 + 3, none⟩ = some (.int .i64 aP))) := Lib.hid ⟨hagl, u0, u1, u2, u3⟩
           clear hgt hagl u0 u1 u2 u3
           have hkI : ¬ (m : Int) ≤ (k : Int) := by omega
           have hkI2 : (k : Int) < (m : Int) := by omega
           go_wp2_with fail
           obtain ⟨VLb, hVL⟩ : ∃ VL : Unit → List (Nat × Nat × Value), VL = fun z => [(0, 62, .int .i64 (k : Int)), (1, 63, .slice (some ⟨ag, ao, none⟩) m KC), (2, 64, .int .i64 (m : Int)), (3, 65, .bool false), (4, 66, .bool false), (5, 67, .slice (some ⟨ag, ao, none⟩) m KC), (6, 68, .int .i64 (k : Int)), (7, 69, .pointer (some ⟨ag, ao + k * 4, none⟩)), (8, 70, .agg #[.int .i64 aL, .int .i64 aR, .int .i64 aC, .int .i64 aP]), (9, 71, .slice (some ⟨kg, ko, none⟩) mb KD), (10, 72, .int .i64 (i : Int)), (11, 73, .pointer (some ⟨kg, ko + i * 4, none⟩)), (12, 74, .agg #[.int .i64 aL, .int .i64 aR, .int .i64 aC, .int .i64 aP]), (13, 75, .bool false), (14, 76, .bool false)] := ⟨_, rfl⟩
           have hok : ∀ z, manyOk 83 (VLb z) := fun z => by rw [hVL]; exact okB_ok rfl
           have HVLb := Lib.hid hVL
           have hvi : ∀ z, ∀ x ∈ VLb z, x.1 < 15 := fun z => by rw [hVL]; exact ltB_ok rfl
           have HOKb := Lib.hid hok
           have HVIb := Lib.hid hvi
           clear hVL hok hvi
           refine (wpIn_wide (n := 9)).1 (regionIn_many (N := 83) (w := _) VLb (fun L z w' => Below W11.heap.size W11 w') [(10, .slice (some ⟨ag, ao, none⟩) m KC), (12, .slice (some ⟨kg, ko, none⟩) mb KD), (13, .int .i64 (k : Int)), (14, .int .i64 (i : Int))] (by kernel_rfl) (by kernel_rfl) rfl (by simp only [List.forall_mem_cons, List.not_mem_nil, false_imp_iff, implies_true, and_true]; exact ⟨rfl, rfl, rfl, rfl⟩) HVIb.out () ?startb ?stepb ?finb)
           case startb => exact HBn.out.drew
           case stepb =>
             intro gg_ hgN hgF ii_ hii_ L z w' hph hs hu
             have hF10 := hgF (10, .slice (some ⟨ag, ao, none⟩) m KC) (by simp)
             have hF12 := hgF (12, .slice (some ⟨kg, ko, none⟩) mb KD) (by simp)
             have hF13 := hgF (13, .int .i64 (k : Int)) (by simp)
             have hF14 := hgF (14, .int .i64 (i : Int)) (by simp)
             have hL := hu.1
             have hii_ : ii_ < 15 := hii_
             clear hgF
             obtain rfl | rfl | rfl | rfl | rfl | rfl | rfl | rfl | rfl | rfl | rfl | rfl | rfl | rfl | rfl := (by omega : ii_ = 0 ∨ ii_ = 1 ∨ ii_ = 2 ∨ ii_ = 3 ∨ ii_ = 4 ∨ ii_ = 5 ∨ ii_ = 6 ∨ ii_ = 7 ∨ ii_ = 8 ∨ ii_ = 9 ∨ ii_ = 10 ∨ ii_ = 11 ∨ ii_ = 12 ∨ ii_ = 13 ∨ ii_ = 14)
             · skip
               have e13 : (many gg_ L (VLb z))[13]?.getD undef = .int .i64 (k : Int) := many_out3 hgN (HOKb.out z) (by rw [HVLb.out]; rfl) hF13
               refine opIn_run (v := .int .i64 (k : Int)) (w' := w') rfl rfl (fun c h => by cases h) (fun _ => trivial) ?_ ⟨z, by exact many_put3 (HOKb.out _) (by rw [HVLb.out]; rfl) hL, hph⟩
               go_simp
             · skip
               have e10 : (many gg_ L (VLb z))[10]?.getD undef = .slice (some ⟨ag, ao, none⟩) m KC := many_out3 hgN (HOKb.out z) (by rw [HVLb.out]; rfl) hF10
               refine opIn_run (v := .slice (some ⟨ag, ao, none⟩) m KC) (w' := w') rfl rfl (fun c h => by cases h) (fun _ => trivial) ?_ ⟨z, by exact many_put3 (HOKb.out _) (by rw [HVLb.out]; rfl) hL, hph⟩
               go_simp
             · skip
               have y1 : L 1 = true := up_at hu 1 (by kernel_rfl)
               have e63 : (many gg_ L (VLb z))[63]?.getD undef = .slice (some ⟨ag, ao, none⟩) m KC := many_eval3 hgN (HOKb.out z) (by rw [HVLb.out]; rfl) y1
               refine opIn_run (v := .int .i64 (m : Int)) (w' := w') rfl rfl (fun c h => by cases h) (fun _ => trivial) ?_ ⟨z, by exact many_put3 (HOKb.out _) (by rw [HVLb.out]; rfl) hL, hph⟩
               go_simp
             · skip
               have y0 : L 0 = true := up_at hu 0 (by kernel_rfl)
               have y2 : L 2 = true := up_at hu 2 (by kernel_rfl)
               have e62 : (many gg_ L (VLb z))[62]?.getD undef = .int .i64 (k : Int) := many_eval3 hgN (HOKb.out z) (by rw [HVLb.out]; rfl) y0
               have e64 : (many gg_ L (VLb z))[64]?.getD undef = .int .i64 (m : Int) := many_eval3 hgN (HOKb.out z) (by rw [HVLb.out]; rfl) y2
               refine opIn_run (v := .bool false) (w' := w') rfl rfl (fun c h => by cases h) (fun _ => trivial) ?_ ⟨z, by exact many_put3 (HOKb.out _) (by rw [HVLb.out]; rfl) hL, hph⟩
               go_simp
             · skip
               have y3 : L 3 = true := up_at hu 3 (by kernel_rfl)
               have e65 : (many gg_ L (VLb z))[65]?.getD undef = .bool false := many_eval3 hgN (HOKb.out z) (by rw [HVLb.out]; rfl) y3
               refine opIn_run (v := .bool false) (w' := w') rfl rfl (fun c h => by cases h) (fun _ => trivial) ?_ ⟨z, by exact many_put3 (HOKb.out _) (by rw [HVLb.out]; rfl) hL, hph⟩
               go_simp
             · skip
               have y4 : L 4 = true := up_at hu 4 (by kernel_rfl)
               have e10 : (many gg_ L (VLb z))[10]?.getD undef = .slice (some ⟨ag, ao, none⟩) m KC := many_out3 hgN (HOKb.out z) (by rw [HVLb.out]; rfl) hF10
               have e66 : (many gg_ L (VLb z))[66]?.getD undef = .bool false := many_eval3 hgN (HOKb.out z) (by rw [HVLb.out]; rfl) y4
               refine opIn_run_g (v := .slice (some ⟨ag, ao, none⟩) m KC) (w' := w') (j := 4) (b := false) rfl rfl (by simp [yielded, many_some hgN (show 66 < 83 by decide) e66]) (fun c h => by cases h) (fun _ => trivial) ?_ ⟨z, by exact many_put3 (HOKb.out _) (by rw [HVLb.out]; rfl) hL, hph⟩
               go_simp
             · skip
               have y4 : L 4 = true := up_at hu 4 (by kernel_rfl)
               have e13 : (many gg_ L (VLb z))[13]?.getD undef = .int .i64 (k : Int) := many_out3 hgN (HOKb.out z) (by rw [HVLb.out]; rfl) hF13
               have e66 : (many gg_ L (VLb z))[66]?.getD undef = .bool false := many_eval3 hgN (HOKb.out z) (by rw [HVLb.out]; rfl) y4
               refine opIn_run_g (v := .int .i64 (k : Int)) (w' := w') (j := 4) (b := false) rfl rfl (by simp [yielded, many_some hgN (show 66 < 83 by decide) e66]) (fun c h => by cases h) (fun _ => trivial) ?_ ⟨z, by exact many_put3 (HOKb.out _) (by rw [HVLb.out]; rfl) hL, hph⟩
               go_simp
             · skip
               have y4 : L 4 = true := up_at hu 4 (by kernel_rfl)
               have y5 : L 5 = true := up_at hu 5 (by kernel_rfl)
               have y6 : L 6 = true := up_at hu 6 (by kernel_rfl)
               have e66 : (many gg_ L (VLb z))[66]?.getD undef = .bool false := many_eval3 hgN (HOKb.out z) (by rw [HVLb.out]; rfl) y4
               have e67 : (many gg_ L (VLb z))[67]?.getD undef = .slice (some ⟨ag, ao, none⟩) m KC := many_eval3 hgN (HOKb.out z) (by rw [HVLb.out]; rfl) y5
               have e68 : (many gg_ L (VLb z))[68]?.getD undef = .int .i64 (k : Int) := many_eval3 hgN (HOKb.out z) (by rw [HVLb.out]; rfl) y6
               refine opIn_run_g (v := .pointer (some ⟨ag, ao + k * 4, none⟩)) (w' := w') (j := 4) (b := false) rfl rfl (by simp [yielded, many_some hgN (show 66 < 83 by decide) e66]) (fun c h => by cases h) (fun _ => trivial) ?_ ⟨z, by exact many_put3 (HOKb.out _) (by rw [HVLb.out]; rfl) hL, hph⟩
               have hj0 : ¬ (k : Int) < 0 := by omega
               go_simp
             · skip
               have y4 : L 4 = true := up_at hu 4 (by kernel_rfl)
               have y7 : L 7 = true := up_at hu 7 (by kernel_rfl)
               have g0 := (hph.cell (p := ⟨ag, ao + k * 4, none⟩) HU.out.1).trans HU.out.2.1
               have g1 := (hph.cell (p := ⟨ag, ao + k * 4 + 1, none⟩) HU.out.1).trans HU.out.2.2.1
               have g2 := (hph.cell (p := ⟨ag, ao + k * 4 + 2, none⟩) HU.out.1).trans HU.out.2.2.2.1
               have g3 := (hph.cell (p := ⟨ag, ao + k * 4 + 3, none⟩) HU.out.1).trans HU.out.2.2.2.2
               have e66 : (many gg_ L (VLb z))[66]?.getD undef = .bool false := many_eval3 hgN (HOKb.out z) (by rw [HVLb.out]; rfl) y4
               have e69 : (many gg_ L (VLb z))[69]?.getD undef = .pointer (some ⟨ag, ao + k * 4, none⟩) := many_eval3 hgN (HOKb.out z) (by rw [HVLb.out]; rfl) y7
               refine opIn_run_g (v := .agg #[.int .i64 aL, .int .i64 aR, .int .i64 aC, .int .i64 aP]) (w' := w') (j := 4) (b := false) rfl rfl (by simp [yielded, many_some hgN (show 66 < 83 by decide) e66]) (fun c h => by cases h) (fun _ => trivial) ?_ ⟨z, by exact many_put3 (HOKb.out _) (by rw [HVLb.out]; rfl) hL, hph⟩
               go_simp
             · skip
               have y4 : L 4 = true := up_at hu 4 (by kernel_rfl)
               have e12 : (many gg_ L (VLb z))[12]?.getD undef = .slice (some ⟨kg, ko, none⟩) mb KD := many_out3 hgN (HOKb.out z) (by rw [HVLb.out]; rfl) hF12
               have e66 : (many gg_ L (VLb z))[66]?.getD undef = .bool false := many_eval3 hgN (HOKb.out z) (by rw [HVLb.out]; rfl) y4
               refine opIn_run_g (v := .slice (some ⟨kg, ko, none⟩) mb KD) (w' := w') (j := 4) (b := false) rfl rfl (by simp [yielded, many_some hgN (show 66 < 83 by decide) e66]) (fun c h => by cases h) (fun _ => trivial) ?_ ⟨z, by exact many_put3 (HOKb.out _) (by rw [HVLb.out]; rfl) hL, hph⟩
               go_simp
             · skip
               have y4 : L 4 = true := up_at hu 4 (by kernel_rfl)
               have e14 : (many gg_ L (VLb z))[14]?.getD undef = .int .i64 (i : Int) := many_out3 hgN (HOKb.out z) (by rw [HVLb.out]; rfl) hF14
               have e66 : (many gg_ L (VLb z))[66]?.getD undef = .bool false := many_eval3 hgN (HOKb.out z) (by rw [HVLb.out]; rfl) y4
               refine opIn_run_g (v := .int .i64 (i : Int)) (w' := w') (j := 4) (b := false) rfl rfl (by simp [yielded, many_some hgN (show 66 < 83 by decide) e66]) (fun c h => by cases h) (fun _ => trivial) ?_ ⟨z, by exact many_put3 (HOKb.out _) (by rw [HVLb.out]; rfl) hL, hph⟩
               go_simp
             · skip
               have y4 : L 4 = true := up_at hu 4 (by kernel_rfl)
               have y9 : L 9 = true := up_at hu 9 (by kernel_rfl)
               have y10 : L 10 = true := up_at hu 10 (by kernel_rfl)
               have e66 : (many gg_ L (VLb z))[66]?.getD undef = .bool false := many_eval3 hgN (HOKb.out z) (by rw [HVLb.out]; rfl) y4
               have e71 : (many gg_ L (VLb z))[71]?.getD undef = .slice (some ⟨kg, ko, none⟩) mb KD := many_eval3 hgN (HOKb.out z) (by rw [HVLb.out]; rfl) y9
               have e72 : (many gg_ L (VLb z))[72]?.getD undef = .int .i64 (i : Int) := many_eval3 hgN (HOKb.out z) (by rw [HVLb.out]; rfl) y10
               refine opIn_run_g (v := .pointer (some ⟨kg, ko + i * 4, none⟩)) (w' := w') (j := 4) (b := false) rfl rfl (by simp [yielded, many_some hgN (show 66 < 83 by decide) e66]) (fun c h => by cases h) (fun _ => trivial) ?_ ⟨z, by exact many_put3 (HOKb.out _) (by rw [HVLb.out]; rfl) hL, hph⟩
               have hj0 : ¬ (i : Int) < 0 := by omega
               go_simp
             · skip
               have y4 : L 4 = true := up_at hu 4 (by kernel_rfl)
               have y11 : L 11 = true := up_at hu 11 (by kernel_rfl)
               have g0 := (hph.cell (p := ⟨kg, ko + i * 4, none⟩) HV.out.1).trans HV.out.2.1
               have g1 := (hph.cell (p := ⟨kg, ko + i * 4 + 1, none⟩) HV.out.1).trans HV.out.2.2.1
               have g2 := (hph.cell (p := ⟨kg, ko + i * 4 + 2, none⟩) HV.out.1).trans HV.out.2.2.2.1
               have g3 := (hph.cell (p := ⟨kg, ko + i * 4 + 3, none⟩) HV.out.1).trans HV.out.2.2.2.2
               have e66 : (many gg_ L (VLb z))[66]?.getD undef = .bool false := many_eval3 hgN (HOKb.out z) (by rw [HVLb.out]; rfl) y4
               have e73 : (many gg_ L (VLb z))[73]?.getD undef = .pointer (some ⟨kg, ko + i * 4, none⟩) := many_eval3 hgN (HOKb.out z) (by rw [HVLb.out]; rfl) y11
               refine opIn_run_g (v := .agg #[.int .i64 aL, .int .i64 aR, .int .i64 aC, .int .i64 aP]) (w' := w') (j := 4) (b := false) rfl rfl (by simp [yielded, many_some hgN (show 66 < 83 by decide) e66]) (fun c h => by cases h) (fun _ => trivial) ?_ ⟨z, by exact many_put3 (HOKb.out _) (by rw [HVLb.out]; rfl) hL, hph⟩
               go_simp
             · skip
               have y4 : L 4 = true := up_at hu 4 (by kernel_rfl)
               have y8 : L 8 = true := up_at hu 8 (by kernel_rfl)
               have y12 : L 12 = true := up_at hu 12 (by kernel_rfl)
               have e66 : (many gg_ L (VLb z))[66]?.getD undef = .bool false := many_eval3 hgN (HOKb.out z) (by rw [HVLb.out]; rfl) y4
               have e70 : (many gg_ L (VLb z))[70]?.getD undef = .agg #[.int .i64 aL, .int .i64 aR, .int .i64 aC, .int .i64 aP] := many_eval3 hgN (HOKb.out z) (by rw [HVLb.out]; rfl) y8
               have e74 : (many gg_ L (VLb z))[74]?.getD undef = .agg #[.int .i64 aL, .int .i64 aR, .int .i64 aC, .int .i64 aP] := many_eval3 hgN (HOKb.out z) (by rw [HVLb.out]; rfl) y12
               refine opIn_run_g (v := .bool false) (w' := w') (j := 4) (b := false) rfl rfl (by simp [yielded, many_some hgN (show 66 < 83 by decide) e66]) (fun c h => by cases h) (fun _ => trivial) ?_ ⟨z, by exact many_put3 (HOKb.out _) (by rw [HVLb.out]; rfl) hL, hph⟩
               go_simp
             · skip
               have y4 : L 4 = true := up_at hu 4 (by kernel_rfl)
               have y13 : L 13 = true := up_at hu 13 (by kernel_rfl)
               have e66 : (many gg_ L (VLb z))[66]?.getD undef = .bool false := many_eval3 hgN (HOKb.out z) (by rw [HVLb.out]; rfl) y4
               have e75 : (many gg_ L (VLb z))[75]?.getD undef = .bool false := many_eval3 hgN (HOKb.out z) (by rw [HVLb.out]; rfl) y13
               refine opIn_run (v := .bool false) (w' := w') rfl rfl (fun c h => by cases h) (fun _ => trivial) ?_ ⟨z, by exact many_put3 (HOKb.out _) (by rw [HVLb.out]; rfl) hL, hph⟩
               go_simp
           case finb =>
             intro L z w' hall hph
             rw [HVLb.out]
             dsimp only [manyL, List.set_cons_zero, List.set_cons_succ]
             clear hall HVLb HOKb HVIb
             have HBm := Lib.hid hph
             obtain ⟨W13, hW13⟩ : ∃ W, W = w' := ⟨_, rfl⟩
             subst hW13
             clear hph HBn
             go_wp2_with fail
             go_roundg g0
             case measure => omega
             case rel => exact ⟨i + 1, by omega, by rw [HTK.out]; simp [show aL < (LY : Int) by omega]; try go_num, by go_num, HBm⟩
       · have hge : (LY : Int) ≤ aL := by omega
         obtain ⟨VL, hVL⟩ : ∃ VL : Unit → List (Nat × Nat × Value), VL = fun z => [(0, 54, .slice (some ⟨kg, ko, none⟩) mb KD), (1, 55, .int .i64 (i : Int)), (2, 56, .pointer (some ⟨kg, ko + i * 4, none⟩)), (3, 57, .pointer (some ⟨kg, ko + i * 4, none⟩)), (4, 58, .int .i64 aL), (5, 59, .pointer (some ⟨bm + 1, 8, none⟩)), (6, 60, .int .i64 (LY : Int)), (7, 61, .bool true)] := ⟨_, rfl⟩
         have hok : ∀ z, manyOk 83 (VL z) := fun z => by rw [hVL]; exact okB_ok rfl
         have HVL := Lib.hid hVL
         have hvi : ∀ z, ∀ x ∈ VL z, x.1 < 8 := fun z => by rw [hVL]; exact ltB_ok rfl
         have HOK := Lib.hid hok
         have HVI := Lib.hid hvi
         clear hVL hok hvi
         refine (wpIn_wide (n := 9)).1 (regionIn_many (N := 83) (w := _) VL (fun L z w' => Below W11.heap.size W11 w') [(8, .pointer (some ⟨bm + 1, 0, none⟩)), (12, .slice (some ⟨kg, ko, none⟩) mb KD), (14, .int .i64 (i : Int))] (by kernel_rfl) (by kernel_rfl) rfl (by simp only [List.forall_mem_cons, List.not_mem_nil, false_imp_iff, implies_true, and_true]; exact ⟨rfl, rfl, rfl⟩) HVI.out () ?start ?step ?fin)
         case start => exact HBa.out.drew
         case step =>
           intro gg_ hgN hgF ii_ hii_ L z w' hph hs hu
           have hF8 := hgF (8, .pointer (some ⟨bm + 1, 0, none⟩)) (by simp)
           have hF12 := hgF (12, .slice (some ⟨kg, ko, none⟩) mb KD) (by simp)
           have hF14 := hgF (14, .int .i64 (i : Int)) (by simp)
           have hL := hu.1
           have hii_ : ii_ < 8 := hii_
           clear hgF
           obtain rfl | rfl | rfl | rfl | rfl | rfl | rfl | rfl := (by omega : ii_ = 0 ∨ ii_ = 1 ∨ ii_ = 2 ∨ ii_ = 3 ∨ ii_ = 4 ∨ ii_ = 5 ∨ ii_ = 6 ∨ ii_ = 7)
           · skip
             have e12 : (many gg_ L (VL z))[12]?.getD undef = .slice (some ⟨kg, ko, none⟩) mb KD := many_out3 hgN (HOK.out z) (by rw [HVL.out]; rfl) hF12
             refine opIn_run (v := .slice (some ⟨kg, ko, none⟩) mb KD) (w' := w') rfl rfl (fun c h => by cases h) (fun _ => trivial) ?_ ⟨z, by exact many_put3 (HOK.out _) (by rw [HVL.out]; rfl) hL, hph⟩
             go_simp
           · skip
             have e14 : (many gg_ L (VL z))[14]?.getD undef = .int .i64 (i : Int) := many_out3 hgN (HOK.out z) (by rw [HVL.out]; rfl) hF14
             refine opIn_run (v := .int .i64 (i : Int)) (w' := w') rfl rfl (fun c h => by cases h) (fun _ => trivial) ?_ ⟨z, by exact many_put3 (HOK.out _) (by rw [HVL.out]; rfl) hL, hph⟩
             go_simp
           · skip
             have y0 : L 0 = true := up_at hu 0 (by kernel_rfl)
             have y1 : L 1 = true := up_at hu 1 (by kernel_rfl)
             have e54 : (many gg_ L (VL z))[54]?.getD undef = .slice (some ⟨kg, ko, none⟩) mb KD := many_eval3 hgN (HOK.out z) (by rw [HVL.out]; rfl) y0
             have e55 : (many gg_ L (VL z))[55]?.getD undef = .int .i64 (i : Int) := many_eval3 hgN (HOK.out z) (by rw [HVL.out]; rfl) y1
             refine opIn_run (v := .pointer (some ⟨kg, ko + i * 4, none⟩)) (w' := w') rfl rfl (fun c h => by cases h) (fun _ => trivial) ?_ ⟨z, by exact many_put3 (HOK.out _) (by rw [HVL.out]; rfl) hL, hph⟩
             have hj0 : ¬ (i : Int) < 0 := by omega
             go_simp
           · skip
             have y2 : L 2 = true := up_at hu 2 (by kernel_rfl)
             have e56 : (many gg_ L (VL z))[56]?.getD undef = .pointer (some ⟨kg, ko + i * 4, none⟩) := many_eval3 hgN (HOK.out z) (by rw [HVL.out]; rfl) y2
             refine opIn_run (v := .pointer (some ⟨kg, ko + i * 4, none⟩)) (w' := w') rfl rfl (fun c h => by cases h) (fun _ => trivial) ?_ ⟨z, by exact many_put3 (HOK.out _) (by rw [HVL.out]; rfl) hL, hph⟩
             go_simp
           · skip
             have y3 : L 3 = true := up_at hu 3 (by kernel_rfl)
             have hcell : w'.cell? ⟨kg, ko + i * 4, none⟩ = some (.int .i64 aL) := (hph.cell (p := ⟨kg, ko + i * 4, none⟩) HV.out.1).trans HV.out.2.1
             have e57 : (many gg_ L (VL z))[57]?.getD undef = .pointer (some ⟨kg, ko + i * 4, none⟩) := many_eval3 hgN (HOK.out z) (by rw [HVL.out]; rfl) y3
             refine opIn_run (v := .int .i64 aL) (w' := w') rfl rfl (fun c h => by cases h) (fun _ => trivial) ?_ ⟨z, by exact many_put3 (HOK.out _) (by rw [HVL.out]; rfl) hL, hph⟩
             go_simp
           · skip
             have e8 : (many gg_ L (VL z))[8]?.getD undef = .pointer (some ⟨bm + 1, 0, none⟩) := many_out3 hgN (HOK.out z) (by rw [HVL.out]; rfl) hF8
             refine opIn_run (v := .pointer (some ⟨bm + 1, 8, none⟩)) (w' := w') rfl rfl (fun c h => by cases h) (fun _ => trivial) ?_ ⟨z, by exact many_put3 (HOK.out _) (by rw [HVL.out]; rfl) hL, hph⟩
             go_simp
           · skip
             have y5 : L 5 = true := up_at hu 5 (by kernel_rfl)
             have hcell : w'.cell? ⟨bm + 1, 8, none⟩ = some (.int .i64 (LY : Int)) := blk_cell ((HM11.out.keep hph).b 1 _ rfl) 8
             have e59 : (many gg_ L (VL z))[59]?.getD undef = .pointer (some ⟨bm + 1, 8, none⟩) := many_eval3 hgN (HOK.out z) (by rw [HVL.out]; rfl) y5
             refine opIn_run (v := .int .i64 (LY : Int)) (w' := w') rfl rfl (fun c h => by cases h) (fun _ => trivial) ?_ ⟨z, by exact many_put3 (HOK.out _) (by rw [HVL.out]; rfl) hL, hph⟩
             go_simp
           · skip
             have y4 : L 4 = true := up_at hu 4 (by kernel_rfl)
             have y6 : L 6 = true := up_at hu 6 (by kernel_rfl)
             have e58 : (many gg_ L (VL z))[58]?.getD undef = .int .i64 aL := many_eval3 hgN (HOK.out z) (by rw [HVL.out]; rfl) y4
             have e60 : (many gg_ L (VL z))[60]?.getD undef = .int .i64 (LY : Int) := many_eval3 hgN (HOK.out z) (by rw [HVL.out]; rfl) y6
             refine opIn_run (v := .bool true) (w' := w') rfl rfl (fun c h => by cases h) (fun _ => trivial) ?_ ⟨z, by exact many_put3 (HOK.out _) (by rw [HVL.out]; rfl) hL, hph⟩
             go_simp
             try omega
         case fin =>
           intro L z w' hall hph
           rw [HVL.out]
           dsimp only [manyL, List.set_cons_zero, List.set_cons_succ]
           clear hall HVL HOK HVI
           have HBn := Lib.hid hph
           obtain ⟨W12, hW12⟩ : ∃ W, W = w' := ⟨_, rfl⟩
           subst hW12
           clear hph
           go_wp2_with fail
           go_roundg g0
           case measure => omega
           case rel => exact ⟨i + 1, by omega, by rw [HTK.out]; simp [show ¬ aL < (LY : Int) by omega]; try go_num, by go_num, HBn⟩
     · obtain rfl : i = mb := by omega
       have hkm2 : k = m := by
         have h1 := hk
         rw [show MB.take i = MB from List.take_of_length_le (by rw [HMB.out]; omega), HFW.out, HMA.out] at h1
         exact h1.symm
       rw [hk, hkm2]
       have hkI : ¬ (i : Int) < (i : Int) := by omega
       have HBz : Hid (Below B0 w wa) := Lib.hid (HB2.out.trans ((HM11.out.bel.mono (by have := HBM.out; have := HB2.out.size; have := HBE.out; omega)).trans (HBa.out.mono (by have := HBM.out; have := HB2.out.size; have := HBE.out; have := HM11.out.bel.size; omega))))
       clear hk hkm hkm2
       go_wp2
       go_ret
       exact ⟨rfl, by rw [HBE.out]; exact HBz.out⟩
end Go.Proofs.Ytejoedanhonpkaa
