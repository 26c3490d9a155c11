/- Packets in order: OrderFirst walked. -/
import Derived.Test.YtejoedanhonpkaaOrL0
import Derived.Test.YtejoedanhonpkaaReg3
set_option linter.unusedVariables false
set_option linter.unusedSimpArgs false
namespace Go.Proofs.Ytejoedanhonpkaa
open Go.RowKit
set_option maxRecDepth 100000
set_option maxHeartbeats 16000000 in
theorem walk_orderFirst (f : FN) (A0 : Option Addr) (len0 cap0 : Nat) (z0 : List Int) (a1 : Int) (w : World) (w0 : IsRow .i64 w A0 len0 cap0 z0) (s0 : -9223372036854775808 ≤ f.sb ∧ f.sb ≤ 9223372036854775807) (w1 : (Lit.int .i64 a1).wf = true) :
    Calls Try.prog 5 #[.agg (f.arr A0 len0 cap0), .int .i64 a1] w fun e w' => e = .returned (.bool true) ∧ Below w.heap.size w w' := by
  have MK := Lib.hid (fun u hu => make_any f A0 len0 cap0 z0 16 u (by omega) hu s0)
  obtain ⟨fc, hfc⟩ : ∃ fc, f.arr A0 len0 cap0 = fc := ⟨_, rfl⟩
  have hfs : fc.size = 21 := by rw [← hfc]; rfl
  rw [hfc] at MK ⊢
  have HFS := Lib.hid hfs
  clear hfc hfs
  have HOK := mkPN_ok f 16 (by omega)
  obtain ⟨M, hM⟩ : ∃ M, mkPN f 16 = M := ⟨_, rfl⟩
  obtain ⟨N, hN⟩ : ∃ N, mkN f = N := ⟨_, rfl⟩
  have hNb : 1 ≤ N ∧ N ≤ 4 := by
    have := within_rng f.nc 4 (by omega)
    rw [← hN]
    unfold mkN
    omega
  obtain ⟨DP, hDP⟩ : ∃ D, mkDP f = D := ⟨_, rfl⟩
  have hDPb : 1 ≤ DP ∧ DP ≤ 10 := by
    have := within_rng f.dp 10 (by omega)
    rw [← hDP]
    unfold mkDP
    omega
  rw [hM, hN, hDP] at MK
  rw [hM] at HOK
  clear hM hN hDP
  obtain ⟨X, Y, OX, OY, TX, TY, LV, BW, BH, PR, ST, OD, LY, RC, SO, EP⟩ := M
  obtain ⟨o1, o2, o3, o4, o5, o6, o7, o8, o9, o10, o11, o12, o13⟩ := HOK
  simp only at o1 o2 o3 o4 o5 o6 o7 o8 o9 o10 o11 o12 o13
  obtain ⟨o, ho⟩ : ∃ o : Nat, a1 % 5 = (o : Int) := ⟨(a1 % 5).toNat, by omega⟩
  have ho5 : o < 5 := by omega
  have HO := Lib.hid ho
  clear ho
  go_enter Try.func5, Try.ntmps5
  go_wp2_with fail
  obtain ⟨B0, hB0⟩ : ∃ B, w.heap.size = B := ⟨_, rfl⟩
  obtain ⟨Wf, hWf⟩ : ∃ Wf, w.alloc (Obj.cells fc 24) = Wf := ⟨_, rfl⟩
  have HF0 : Hid (MkW w B0 [(fc, 24)] Wf) := Lib.hid (by
    have h0 : MkW w B0 [] w := ⟨fun i c e => by simp at e, Below.refl _ _, by simp; omega⟩
    have h1 := h0.more (by simp; omega) fc 24
    rw [← hWf]; exact h1)
  rw [hWf, hB0]
  have HBE := Lib.hid hB0
  clear hWf hB0
  refine (known16 _).mono ?_
  rintro e w1 ⟨rfl, hb⟩
  have HF1 := Lib.hid (HF0.out.keep hb)
  clear hb HF0
  have MK1 := MK.out w1 (IsRow.below w0 (by rw [HBE.out]; exact HF1.out.bel))
  go_wp2_with (refine wpList_load_row rfl 24 _ rfl B0 rfl 24 fc (0, 0) _ (show w1.heap[B0]? = _ from HF1.out.b 0 _ rfl) Try.underlying24 rfl (by rw [HFS.out]; kernel_rfl) ?_)
  refine MK1.mono ?_
  rintro e w2 ⟨A2, C2, cs, rfl, hcl, hCR, hKY, hb, hfx⟩
  try simp only at hfx
  try simp only at hKY
  have HB2 : Hid (Below B0 w w2) := Lib.hid (HF1.out.bel.trans (hb.mono (by have := HF1.out.sz; simp at this; omega)))
  have HCR : Hid (CRow B0 w2 (.slice A2 N C2) cs) := Lib.hid (by
    have h1 := HF1.out.sz
    simp at h1
    exact ⟨own_low hCR.own (by omega), fun c hc => (hCR.dat c hc).low (by omega)⟩)
  have HKY : Hid (∀ (i : Nat) (c : Cp), cs[i]? = some c → (1 ≤ c.dx ∧ c.dx ≤ 4) ∧ (1 ≤ c.dy ∧ c.dy ≤ 4)) := Lib.hid (fun i c hc => by have h1 := hKY i c hc; have h2 := cpK_bd (sb := f.sb) (DP := DP) i hDPb; obtain ⟨_, _, h3, h4, _⟩ := h1; rw [h3, h4]; omega)
  have HCL := Lib.hid hcl
  obtain ⟨hTX, hTY, hCT⟩ := hfx
  obtain ⟨rs, hrs1, hrs2, TLx⟩ := tilesO X Y OX OY TX TY A2 N C2 (by omega) (by omega) (by omega) (by omega) hCT
  have HRS := Lib.hid hrs2
  have TL := Lib.hid TLx
  clear MK MK1 hb hCR hKY hcl hCT HF1 w0 s0 hrs2 TLx
  go_wp2_with fail
  obtain ⟨bm, hbm⟩ : ∃ bm, w2.heap.size = bm := ⟨_, rfl⟩
  obtain ⟨W3, hW3⟩ : ∃ W3, (w2.alloc (Obj.cells #[.int .i64 X, .int .i64 Y, .int .i64 OX, .int .i64 OY, .slice A2 N C2] 28)).alloc (Obj.cells #[.int .i64 TX, .int .i64 TY, .int .i64 (LV : Int), .int .i64 (BW : Int), .int .i64 (BH : Int), .int .i64 (PR : Int), .int .i64 ST, .int .i64 OD, .int .i64 (LY : Int), .bool RC, .bool SO, .bool EP] 30) = W3 := ⟨_, rfl⟩
  have HM3 : Hid (MkW w2 bm [(#[.int .i64 X, .int .i64 Y, .int .i64 OX, .int .i64 OY, .slice A2 N C2], 28), (#[.int .i64 TX, .int .i64 TY, .int .i64 (LV : Int), .int .i64 (BW : Int), .int .i64 (BH : Int), .int .i64 (PR : Int), .int .i64 ST, .int .i64 OD, .int .i64 (LY : Int), .bool RC, .bool SO, .bool EP], 30)] W3) := Lib.hid (by
    have h0 : MkW w2 bm [] w2 := ⟨fun i c e => by simp at e, Below.refl _ _, by simp; omega⟩
    have h1 := (h0.more (by simp; omega) #[.int .i64 X, .int .i64 Y, .int .i64 OX, .int .i64 OY, .slice A2 N C2] 28).more (by simp; omega) #[.int .i64 TX, .int .i64 TY, .int .i64 (LV : Int), .int .i64 (BW : Int), .int .i64 (BH : Int), .int .i64 (PR : Int), .int .i64 ST, .int .i64 OD, .int .i64 (LY : Int), .bool RC, .bool SO, .bool EP] 30
    rw [← hW3]; exact h1)
  rw [hW3, hbm]
  have HBM := Lib.hid hbm
  clear hW3 hbm
  refine (within16 a1 5 _ (by omega) (by omega)).mono ?_
  rintro e w4 ⟨rfl, rfl⟩
  rw [HO.out]
  have c7 : W3.cell? ⟨bm + 1, 7, none⟩ = some (.int .i64 OD) := blk_cell (HM3.out.b 1 _ rfl) 7
  have z7 : W3.frozen? ⟨bm + 1, 7, none⟩ = false := HM3.out.fro (i := 1) rfl 7
  obtain ⟨W5, hW5⟩ : ∃ W5, World.setCell W3 { block := bm + 1, off := 7 } (Value.int IntKind.i64 (o : Int)) = W5 := ⟨_, rfl⟩
  have HM5 : Hid (MkW w2 bm [(#[.int .i64 X, .int .i64 Y, .int .i64 OX, .int .i64 OY, .slice A2 N C2], 28), (#[.int .i64 TX, .int .i64 TY, .int .i64 (LV : Int), .int .i64 (BW : Int), .int .i64 (BH : Int), .int .i64 (PR : Int), .int .i64 ST, .int .i64 (o : Int), .int .i64 (LY : Int), .bool RC, .bool SO, .bool EP], 30)] W5) := Lib.hid (by rw [← hW5]; exact HM3.out.set (i := 1) rfl rfl 7 _)
  have i0' : W5.cell? ⟨bm, 0, none⟩ = some (.int .i64 X) := blk_cell (show W5.heap[bm]? = _ from HM5.out.b 0 _ rfl) 0
  have i1' : W5.cell? ⟨bm, 1, none⟩ = some (.int .i64 Y) := blk_cell (show W5.heap[bm]? = _ from HM5.out.b 0 _ rfl) 1
  have i2' : W5.cell? ⟨bm, 2, none⟩ = some (.int .i64 OX) := blk_cell (show W5.heap[bm]? = _ from HM5.out.b 0 _ rfl) 2
  have i3' : W5.cell? ⟨bm, 3, none⟩ = some (.int .i64 OY) := blk_cell (show W5.heap[bm]? = _ from HM5.out.b 0 _ rfl) 3
  have i4' : W5.cell? ⟨bm, 4, none⟩ = some (.slice A2 N C2) := blk_cell (show W5.heap[bm]? = _ from HM5.out.b 0 _ rfl) 4
  have j0' : W5.cell? ⟨bm + 1, 0, none⟩ = some (.int .i64 TX) := blk_cell (HM5.out.b 1 _ rfl) 0
  have j1' : W5.cell? ⟨bm + 1, 1, none⟩ = some (.int .i64 TY) := blk_cell (HM5.out.b 1 _ rfl) 1
  have j2' : W5.cell? ⟨bm + 1, 2, none⟩ = some (.int .i64 (LV : Int)) := blk_cell (HM5.out.b 1 _ rfl) 2
  have j3' : W5.cell? ⟨bm + 1, 3, none⟩ = some (.int .i64 (BW : Int)) := blk_cell (HM5.out.b 1 _ rfl) 3
  have j4' : W5.cell? ⟨bm + 1, 4, none⟩ = some (.int .i64 (BH : Int)) := blk_cell (HM5.out.b 1 _ rfl) 4
  have j5' : W5.cell? ⟨bm + 1, 5, none⟩ = some (.int .i64 (PR : Int)) := blk_cell (HM5.out.b 1 _ rfl) 5
  have j6' : W5.cell? ⟨bm + 1, 6, none⟩ = some (.int .i64 ST) := blk_cell (HM5.out.b 1 _ rfl) 6
  have j7' : W5.cell? ⟨bm + 1, 7, none⟩ = some (.int .i64 (o : Int)) := blk_cell (HM5.out.b 1 _ rfl) 7
  have j8' : W5.cell? ⟨bm + 1, 8, none⟩ = some (.int .i64 (LY : Int)) := blk_cell (HM5.out.b 1 _ rfl) 8
  have j9' : W5.cell? ⟨bm + 1, 9, none⟩ = some (.bool RC) := blk_cell (HM5.out.b 1 _ rfl) 9
  have j10' : W5.cell? ⟨bm + 1, 10, none⟩ = some (.bool SO) := blk_cell (HM5.out.b 1 _ rfl) 10
  have j11' : W5.cell? ⟨bm + 1, 11, none⟩ = some (.bool EP) := blk_cell (HM5.out.b 1 _ rfl) 11
  go_wp2_with fail
  refine (TL.out _ _ _ _ _ _ _ _ _ _ _).mono ?_
  rintro e W6 ⟨TA, TC, rfl, hRT, hb⟩
  have HM6 := Lib.hid (HM5.out.keep hb)
  obtain ⟨r0, hr0⟩ : ∃ r, rs[0]? = some r := ⟨_, List.getElem?_eq_getElem (by omega)⟩
  have hri := HRS.out 0 r0 hr0
  obtain ⟨rx0, ry0, rx1, ry1⟩ := r0
  obtain ⟨TA', TC', hTA, hTcell⟩ := hRT
  injection hTA with hTA1 hTA2 hTA3
  subst hTA1 hTA3
  obtain ⟨tg, tq, rfl, htg, t0, t1, t2, t3⟩ := hTcell 0 _ hr0
  rw [Nat.zero_mul, Nat.add_zero] at t0 t1 t2 t3
  have HT : Hid (tg < W6.heap.size ∧ W6.cell? ⟨tg, tq, none⟩ = some (.int .i64 rx0) ∧ W6.cell? ⟨tg, tq + 1, none⟩ = some (.int .i64 ry0) ∧ W6.cell? ⟨tg, tq + 2, none⟩ = some (.int .i64 rx1) ∧ W6.cell? ⟨tg, tq + 3, none⟩ = some (.int .i64 ry1)) := Lib.hid ⟨htg, t0, t1, t2, t3⟩
  have LC : Hid (∀ u, Below W6.heap.size W6 u → Calls Try.prog 13 #[.agg #[.int .i64 rx0, .int .i64 ry0, .int .i64 rx1, .int .i64 ry1], .agg #[.int .i64 X, .int .i64 Y, .int .i64 OX, .int .i64 OY, .slice A2 N C2], .agg #[.int .i64 TX, .int .i64 TY, .int .i64 (LV : Int), .int .i64 (BW : Int), .int .i64 (BH : Int), .int .i64 (PR : Int), .int .i64 ST, .int .i64 (o : Int), .int .i64 (LY : Int), .bool RC, .bool SO, .bool EP]] u fun e w' => ∃ (M : List Pk) (A : Option Addr) (m c : Nat), e = .returned (.slice A m c) ∧ M.length = m ∧ m ≤ 13000000 ∧ OL (geo (rx0, ry0, rx1, ry1) (cs.map fun c => (c.dx, c.dy)) LV PR) LY o M ∧ KeyR w' A M ∧ Below u.heap.size u w') := Lib.hid (fun u hu =>
    listP_any (lo := B0) o ho5 (rx0, ry0, rx1, ry1) X Y OX OY A2 N C2 cs TX TY BW BH ST RC SO EP LV PR LY u hri.1 hri.2 HKY.out (by rw [HCL.out]; omega) (by rw [HCL.out]; omega) HCL.out (by omega) (by omega) (by omega) ((HCR.out.below ((HM6.out.bel.mono (by rw [HBM.out]; omega)).trans (hu.mono HM6.out.bel.size)))))
  obtain ⟨tn, htn⟩ : ∃ n, rs.length = n := ⟨_, rfl⟩
  rw [htn] at hrs1 ⊢
  clear hb hri hr0 hTcell hTA2 htg t0 t1 t2 t3 htn HM5 HM3 hW5 c7 z7 i0' i1' i2' i3' i4' j0' j1' j2' j3' j4' j5' j6' j7' j8' j9' j10' j11'
  go_wp2_with fail
  obtain ⟨VL, hVL⟩ : ∃ VL : Option Addr × List Pk × Nat → List (Nat × Nat × Value), VL = fun z => [(0, 25, .slice (some ⟨tg, tq, none⟩) tn TC), (1, 26, .pointer (some ⟨tg, tq, none⟩)), (2, 27, .agg #[.int .i64 rx0, .int .i64 ry0, .int .i64 rx1, .int .i64 ry1]), (3, 28, .agg #[.int .i64 X, .int .i64 Y, .int .i64 OX, .int .i64 OY, .slice A2 N C2]), (4, 29, .agg #[.int .i64 TX, .int .i64 TY, .int .i64 (LV : Int), .int .i64 (BW : Int), .int .i64 (BH : Int), .int .i64 (PR : Int), .int .i64 ST, .int .i64 (o : Int), .int .i64 (LY : Int), .bool RC, .bool SO, .bool EP]), (5, 30, .slice z.1 z.2.1.length z.2.2), (6, 8, .slice z.1 z.2.1.length z.2.2)] := ⟨_, rfl⟩
  have hok : ∀ z, manyOk 159 (VL z) := fun z => by rw [hVL]; exact okB_ok rfl
  have HVL := Lib.hid hVL
  have hvi : ∀ z, ∀ x ∈ VL z, x.1 < 7 := fun z => by rw [hVL]; exact ltB_ok rfl
  have HOK := Lib.hid hok
  have HVI := Lib.hid hvi
  clear hVL hok hvi
  refine (wpIn_wide (n := 9)).1 (regionIn_many (N := 159) (w := _) VL (fun L z w' => (bif L 5 then (Below W6.heap.size W6 w' ∧ z.2.1.length ≤ 13000000 ∧ OL (geo (rx0, ry0, rx1, ry1) (cs.map fun c => (c.dx, c.dy)) LV PR) LY o z.2.1 ∧ KeyR w' z.1 z.2.1) else Below W6.heap.size W6 w')) [(5, .pointer (some ⟨bm, 0, none⟩)), (6, .pointer (some ⟨bm + 1, 0, none⟩)), (7, .slice (some ⟨tg, tq, none⟩) tn TC)] (by kernel_rfl) (by kernel_rfl) rfl (by simp only [List.forall_mem_cons, List.not_mem_nil, false_imp_iff, implies_true, and_true]; exact ⟨rfl, rfl, rfl⟩) HVI.out (none, [], 0) ?start ?step ?fin)
  case start => exact (Below.refl _ _).drew
  case step =>
    intro gg_ hgN hgF ii_ hii_ L z w' hph hs hu
    have hF5 := hgF (5, .pointer (some ⟨bm, 0, none⟩)) (by simp)
    have hF6 := hgF (6, .pointer (some ⟨bm + 1, 0, none⟩)) (by simp)
    have hF7 := hgF (7, .slice (some ⟨tg, tq, none⟩) tn TC) (by simp)
    have hL := hu.1
    have hii_ : ii_ < 7 := hii_
    clear hgF
    obtain rfl | rfl | rfl | rfl | rfl | rfl | rfl := (by omega : ii_ = 0 ∨ ii_ = 1 ∨ ii_ = 2 ∨ ii_ = 3 ∨ ii_ = 4 ∨ ii_ = 5 ∨ ii_ = 6)
    · skip
      have n5 : L 5 = false := not_yet hL fun h => shut_at hs 1 0 (by kernel_rfl) (shut_at hs 2 1 (by kernel_rfl) (shut_at hs 5 2 (by kernel_rfl) (h)))
      have n6 : L 6 = false := not_yet hL fun h => shut_at hs 6 0 (by kernel_rfl) (h)
      try simp only [n5, n6, hL, cond_true, cond_false] at hph
      have e7 : (many gg_ L (VL z))[7]?.getD undef = .slice (some ⟨tg, tq, none⟩) tn TC := many_out3 hgN (HOK.out z) (by rw [HVL.out]; rfl) hF7
      refine opIn_run (v := .slice (some ⟨tg, tq, none⟩) tn TC) (w' := w') rfl rfl (fun c h => by cases h) (fun _ => trivial) ?_ ⟨z, by exact many_put3 (HOK.out _) (by rw [HVL.out]; rfl) hL, by simp only [upd, n5, n6, hL, Nat.reduceBEq, cond_true, cond_false]; exact hph⟩
      go_simp
    · skip
      have y0 : L 0 = true := up_at hu 0 (by kernel_rfl)
      have n5 : L 5 = false := not_yet hL fun h => shut_at hs 2 1 (by kernel_rfl) (shut_at hs 5 2 (by kernel_rfl) (h))
      have n6 : L 6 = false := not_yet hL fun h => shut_at hs 6 1 (by kernel_rfl) (h)
      try simp only [y0, n5, n6, hL, cond_true, cond_false] at hph
      have e25 : (many gg_ L (VL z))[25]?.getD undef = .slice (some ⟨tg, tq, none⟩) tn TC := many_eval3 hgN (HOK.out z) (by rw [HVL.out]; rfl) y0
      refine opIn_run (v := .pointer (some ⟨tg, tq, none⟩)) (w' := w') rfl rfl (fun c h => by cases h) (fun _ => trivial) ?_ ⟨z, by exact many_put3 (HOK.out _) (by rw [HVL.out]; rfl) hL, by simp only [upd, y0, n5, n6, hL, Nat.reduceBEq, cond_true, cond_false]; exact hph⟩
      go_simp
      intro h
      omega
    · skip
      have y1 : L 1 = true := up_at hu 1 (by kernel_rfl)
      have n5 : L 5 = false := not_yet hL fun h => shut_at hs 5 2 (by kernel_rfl) (h)
      have n6 : L 6 = false := not_yet hL fun h => shut_at hs 6 2 (by kernel_rfl) (h)
      try simp only [y1, n5, n6, hL, cond_true, cond_false] at hph
      have hp : Below W6.heap.size W6 w' := hph
      have g0 := (hp.cell (p := ⟨tg, tq, none⟩) HT.out.1).trans HT.out.2.1
      have g1 := (hp.cell (p := ⟨tg, tq + 1, none⟩) HT.out.1).trans HT.out.2.2.1
      have g2 := (hp.cell (p := ⟨tg, tq + 2, none⟩) HT.out.1).trans HT.out.2.2.2.1
      have g3 := (hp.cell (p := ⟨tg, tq + 3, none⟩) HT.out.1).trans HT.out.2.2.2.2
      have e26 : (many gg_ L (VL z))[26]?.getD undef = .pointer (some ⟨tg, tq, none⟩) := many_eval3 hgN (HOK.out z) (by rw [HVL.out]; rfl) y1
      refine opIn_run (v := .agg #[.int .i64 rx0, .int .i64 ry0, .int .i64 rx1, .int .i64 ry1]) (w' := w') rfl rfl (fun c h => by cases h) (fun _ => trivial) ?_ ⟨z, by exact many_put3 (HOK.out _) (by rw [HVL.out]; rfl) hL, by simp only [upd, y1, n5, n6, hL, Nat.reduceBEq, cond_true, cond_false]; exact hph⟩
      go_simp
    · skip
      have n5 : L 5 = false := not_yet hL fun h => shut_at hs 5 3 (by kernel_rfl) (h)
      have n6 : L 6 = false := not_yet hL fun h => shut_at hs 6 3 (by kernel_rfl) (h)
      try simp only [n5, n6, hL, cond_true, cond_false] at hph
      have hp : Below W6.heap.size W6 w' := hph
      have HM6k := HM6.out.keep hp
      have i0' : w'.cell? ⟨bm, 0, none⟩ = some (.int .i64 X) := blk_cell (show w'.heap[bm]? = _ from HM6k.b 0 _ rfl) 0
      have i1' : w'.cell? ⟨bm, 1, none⟩ = some (.int .i64 Y) := blk_cell (show w'.heap[bm]? = _ from HM6k.b 0 _ rfl) 1
      have i2' : w'.cell? ⟨bm, 2, none⟩ = some (.int .i64 OX) := blk_cell (show w'.heap[bm]? = _ from HM6k.b 0 _ rfl) 2
      have i3' : w'.cell? ⟨bm, 3, none⟩ = some (.int .i64 OY) := blk_cell (show w'.heap[bm]? = _ from HM6k.b 0 _ rfl) 3
      have i4' : w'.cell? ⟨bm, 4, none⟩ = some (.slice A2 N C2) := blk_cell (show w'.heap[bm]? = _ from HM6k.b 0 _ rfl) 4
      have e5 : (many gg_ L (VL z))[5]?.getD undef = .pointer (some ⟨bm, 0, none⟩) := many_out3 hgN (HOK.out z) (by rw [HVL.out]; rfl) hF5
      refine opIn_run (v := .agg #[.int .i64 X, .int .i64 Y, .int .i64 OX, .int .i64 OY, .slice A2 N C2]) (w' := w') rfl rfl (fun c h => by cases h) (fun _ => trivial) ?_ ⟨z, by exact many_put3 (HOK.out _) (by rw [HVL.out]; rfl) hL, by simp only [upd, n5, n6, hL, Nat.reduceBEq, cond_true, cond_false]; exact hph⟩
      go_simp
    · skip
      have n5 : L 5 = false := not_yet hL fun h => shut_at hs 5 4 (by kernel_rfl) (h)
      have n6 : L 6 = false := not_yet hL fun h => shut_at hs 6 4 (by kernel_rfl) (h)
      try simp only [n5, n6, hL, cond_true, cond_false] at hph
      have hp : Below W6.heap.size W6 w' := hph
      have HM6k := HM6.out.keep hp
      have j0' : w'.cell? ⟨bm + 1, 0, none⟩ = some (.int .i64 TX) := blk_cell (HM6k.b 1 _ rfl) 0
      have j1' : w'.cell? ⟨bm + 1, 1, none⟩ = some (.int .i64 TY) := blk_cell (HM6k.b 1 _ rfl) 1
      have j2' : w'.cell? ⟨bm + 1, 2, none⟩ = some (.int .i64 (LV : Int)) := blk_cell (HM6k.b 1 _ rfl) 2
      have j3' : w'.cell? ⟨bm + 1, 3, none⟩ = some (.int .i64 (BW : Int)) := blk_cell (HM6k.b 1 _ rfl) 3
      have j4' : w'.cell? ⟨bm + 1, 4, none⟩ = some (.int .i64 (BH : Int)) := blk_cell (HM6k.b 1 _ rfl) 4
      have j5' : w'.cell? ⟨bm + 1, 5, none⟩ = some (.int .i64 (PR : Int)) := blk_cell (HM6k.b 1 _ rfl) 5
      have j6' : w'.cell? ⟨bm + 1, 6, none⟩ = some (.int .i64 ST) := blk_cell (HM6k.b 1 _ rfl) 6
      have j7' : w'.cell? ⟨bm + 1, 7, none⟩ = some (.int .i64 (o : Int)) := blk_cell (HM6k.b 1 _ rfl) 7
      have j8' : w'.cell? ⟨bm + 1, 8, none⟩ = some (.int .i64 (LY : Int)) := blk_cell (HM6k.b 1 _ rfl) 8
      have j9' : w'.cell? ⟨bm + 1, 9, none⟩ = some (.bool RC) := blk_cell (HM6k.b 1 _ rfl) 9
      have j10' : w'.cell? ⟨bm + 1, 10, none⟩ = some (.bool SO) := blk_cell (HM6k.b 1 _ rfl) 10
      have j11' : w'.cell? ⟨bm + 1, 11, none⟩ = some (.bool EP) := blk_cell (HM6k.b 1 _ rfl) 11
      have e6 : (many gg_ L (VL z))[6]?.getD undef = .pointer (some ⟨bm + 1, 0, none⟩) := many_out3 hgN (HOK.out z) (by rw [HVL.out]; rfl) hF6
      refine opIn_run (v := .agg #[.int .i64 TX, .int .i64 TY, .int .i64 (LV : Int), .int .i64 (BW : Int), .int .i64 (BH : Int), .int .i64 (PR : Int), .int .i64 ST, .int .i64 (o : Int), .int .i64 (LY : Int), .bool RC, .bool SO, .bool EP]) (w' := w') rfl rfl (fun c h => by cases h) (fun _ => trivial) ?_ ⟨z, by exact many_put3 (HOK.out _) (by rw [HVL.out]; rfl) hL, by simp only [upd, n5, n6, hL, Nat.reduceBEq, cond_true, cond_false]; exact hph⟩
      go_simp
    · skip
      have y2 : L 2 = true := up_at hu 2 (by kernel_rfl)
      have y3 : L 3 = true := up_at hu 3 (by kernel_rfl)
      have y4 : L 4 = true := up_at hu 4 (by kernel_rfl)
      have n6 : L 6 = false := not_yet hL fun h => shut_at hs 6 5 (by kernel_rfl) (h)
      try simp only [y2, y3, y4, n6, hL, cond_true, cond_false] at hph
      have e27 : (many gg_ L (VL z))[27]?.getD undef = .agg #[.int .i64 rx0, .int .i64 ry0, .int .i64 rx1, .int .i64 ry1] := many_eval3 hgN (HOK.out z) (by rw [HVL.out]; rfl) y2
      have e28 : (many gg_ L (VL z))[28]?.getD undef = .agg #[.int .i64 X, .int .i64 Y, .int .i64 OX, .int .i64 OY, .slice A2 N C2] := many_eval3 hgN (HOK.out z) (by rw [HVL.out]; rfl) y3
      have e29 : (many gg_ L (VL z))[29]?.getD undef = .agg #[.int .i64 TX, .int .i64 TY, .int .i64 (LV : Int), .int .i64 (BW : Int), .int .i64 (BH : Int), .int .i64 (PR : Int), .int .i64 ST, .int .i64 (o : Int), .int .i64 (LY : Int), .bool RC, .bool SO, .bool EP] := many_eval3 hgN (HOK.out z) (by rw [HVL.out]; rfl) y4
      refine opIn_call (f := 13) (args := #[.agg #[.int .i64 rx0, .int .i64 ry0, .int .i64 rx1, .int .i64 ry1], .agg #[.int .i64 X, .int .i64 Y, .int .i64 OX, .int .i64 OY, .slice A2 N C2], .agg #[.int .i64 TX, .int .i64 TY, .int .i64 (LV : Int), .int .i64 (BW : Int), .int .i64 (BH : Int), .int .i64 (PR : Int), .int .i64 ST, .int .i64 (o : Int), .int .i64 (LY : Int), .bool RC, .bool SO, .bool EP]]) (w' := w') rfl rfl (fun c h => by cases h) (fun _ => trivial) rfl (by go_simp) ((callsIn_wide.2 (LC.out w' hph)).mono ?_)
      rintro e w2 ⟨M_, A_, m_, c_, rfl, rfl, hm_, hOL_, hK_, hb⟩
      exact ⟨_, rfl, (A_, M_, c_), by rw [show many gg_ L (VL z) = many gg_ L (VL (A_, M_, c_)) from by rw [HVL.out]; simp only [many, y2, y3, y4, n6, hL, cond_false, cond_true]]; exact many_put3 (HOK.out _) (by rw [HVL.out]; rfl) hL, by simp only [upd, y2, y3, y4, n6, hL, Nat.reduceBEq, cond_true, cond_false]; exact ⟨hph.trans (hb.mono hph.size), hm_, hOL_, hK_⟩⟩
    · skip
      have y0 : L 0 = true := up_at hu 0 (by kernel_rfl)
      have y1 : L 1 = true := up_at hu 1 (by kernel_rfl)
      have y2 : L 2 = true := up_at hu 2 (by kernel_rfl)
      have y3 : L 3 = true := up_at hu 3 (by kernel_rfl)
      have y4 : L 4 = true := up_at hu 4 (by kernel_rfl)
      have y5 : L 5 = true := up_at hu 5 (by kernel_rfl)
      try simp only [y0, y1, y2, y3, y4, y5, hL, cond_true, cond_false] at hph
      have e30 : (many gg_ L (VL z))[30]?.getD undef = .slice z.1 z.2.1.length z.2.2 := many_eval3 hgN (HOK.out z) (by rw [HVL.out]; rfl) y5
      refine opIn_run (v := .slice z.1 z.2.1.length z.2.2) (w' := w') rfl rfl (fun c h => by cases h) (fun _ => trivial) ?_ ⟨z, by exact many_put3 (HOK.out _) (by rw [HVL.out]; rfl) hL, by simp only [upd, y0, y1, y2, y3, y4, y5, hL, Nat.reduceBEq, cond_true, cond_false]; exact hph⟩
      go_simp
  case fin =>
    intro L z w' hall hph
    have l5 := hall 5 (by decide)
    simp only [l5, cond_true] at hph
    clear l5
    rw [HVL.out]
    dsimp only [manyL, List.set_cons_zero, List.set_cons_succ]
    clear hall HVL HOK HVI
    obtain ⟨KA, M, KC⟩ := z
    simp only at hph
    obtain ⟨hbl, hM13, hOL, hKR⟩ := hph
    have HMW := Lib.hid (HM6.out.keep hbl)
    obtain ⟨W7, hW7⟩ : ∃ W, W = w' := ⟨_, rfl⟩
    subst hW7
    have HOL := Lib.hid hOL
    have HKR := Lib.hid hKR
    obtain ⟨m, hm⟩ : ∃ m, M.length = m := ⟨_, rfl⟩
    rw [hm] at hM13 ⊢
    have HML := Lib.hid hm
    clear hbl hOL hKR hm LC HT HM6 TL
    go_wp2_with fail
    go_loopg [9] m (fun g v wr => ∃ k : Nat, k + g = m + 1 ∧ 1 ≤ k ∧ v = .int .i64 (k : Int) ∧ Hid (Below W7.heap.size W7 wr))
    case atStart => exact ⟨1, by omega, by omega, rfl, Lib.hid (Below.refl _ _)⟩
    case round =>
     obtain ⟨k, hkg, hk1, rfl, HBa⟩ := hrel
     obtain ⟨wa, hwa⟩ : ∃ wa, wa = wr := ⟨wr, rfl⟩
     subst hwa
     by_cases hkm : k < m
     · obtain ⟨g0, rfl⟩ : ∃ g0, gk = g0 + 1 := ⟨gk - 1, by omega⟩
       obtain ⟨j, hjk⟩ : ∃ j, k = j + 1 := ⟨k - 1, by omega⟩
       have hkj : (k : Int) - 1 = (j : Int) := by omega
       obtain ⟨a, ha⟩ : ∃ a, M[j]? = some a := ⟨_, List.getElem?_eq_getElem (by rw [HML.out]; omega)⟩
       obtain ⟨b, hb⟩ : ∃ b, M[k]? = some b := ⟨_, List.getElem?_eq_getElem (by rw [HML.out]; omega)⟩
       obtain ⟨kg, ko, hKA, hkgl, u0, u1, u2, u3⟩ := HKR.out j a ha
       obtain ⟨kg', ko', hKA', hkgl', v0, v1, v2, v3⟩ := HKR.out k b hb
       rw [hKA] at hKA'
       injection hKA' with hKA'
       injection hKA' with hKA' hKA''
       subst hKA' hKA''
       have hfst := HOL.out.first ha (by rw [← hjk]; exact hb)
       have hlay := HOL.out.layers ha (by rw [← hjk]; exact hb)
       have haly : 0 ≤ a.ly ∧ a.ly < 1000 := by
         obtain ⟨l, c, r, q, hl, _, _, _, rfl⟩ := (HOL.out.mem a).1 (List.mem_of_getElem? ha)
         show 0 ≤ ((l : Nat) : Int) ∧ ((l : Nat) : Int) < 1000
         omega
       obtain ⟨aL, aR, aC, aP, aD, aA⟩ := a
       obtain ⟨bL, bR, bC, bP, bD, bA⟩ := b
       simp only at hfst hlay haly u0 u1 u2 u3 v0 v1 v2 v3
       have HU : Hid (kg < W7.heap.size ∧ (W7.cell? ⟨kg, ko + j * 4, none⟩ = some (.int .i64 aL) ∧ W7.cell? ⟨kg, ko + j * 4 + 1, none⟩ = some (.int .i64 aR) ∧ W7.cell? ⟨kg, ko + j * 4 + 2, none⟩ = some (.int .i64 aC) ∧ W7.cell? ⟨kg, ko + j * 4 + 3, none⟩ = some (.int .i64 aP)) ∧ (W7.cell? ⟨kg, ko + k * 4, none⟩ = some (.int .i64 bL) ∧ W7.cell? ⟨kg, ko + k * 4 + 1, none⟩ = some (.int .i64 bR) ∧ W7.cell? ⟨kg, ko + k * 4 + 2, none⟩ = some (.int .i64 bC) ∧ W7.cell? ⟨kg, ko + k * 4 + 3, none⟩ = some (.int .i64 bP))) := Lib.hid ⟨hkgl, ⟨u0, u1, u2, u3⟩, v0, v1, v2, v3⟩
       have hkI : (k : Int) < (m : Int) := by omega
       have HFL := Lib.hid (show _ ∧ _ from ⟨hfst, hlay⟩)
       have HJK : Hid (k = j + 1 ∧ (k : Int) - 1 = (j : Int)) := Lib.hid ⟨hjk, hkj⟩
       clear hjk hkj hfst hlay hkgl hkgl' u0 u1 u2 u3 v0 v1 v2 v3
       subst hKA
       go_wp2_with fail
       obtain ⟨VL, hVL⟩ : ∃ VL : Nat × Nat → List (Nat × Nat × Value), VL = fun z => [(0, 37, .slice (some ⟨kg, ko, none⟩) m KC), (1, 38, .int .i64 (k : Int)), (2, 39, .int .i64 (j : Int)), (3, 40, .pointer (some ⟨kg, ko + j * 4, none⟩)), (4, 41, .agg #[.int .i64 aL, .int .i64 aR, .int .i64 aC, .int .i64 aP]), (5, 42, .slice (some ⟨kg, ko, none⟩) m KC), (6, 43, .int .i64 (k : Int)), (7, 44, .pointer (some ⟨kg, ko + k * 4, none⟩)), (8, 45, .agg #[.int .i64 bL, .int .i64 bR, .int .i64 bC, .int .i64 bP]), (9, 10, .pointer (some ⟨z.1, 0, none⟩)), (10, 11, .pointer (some ⟨z.2, 0, none⟩))] := ⟨_, rfl⟩
       have hok : ∀ z, manyOk 159 (VL z) := fun z => by rw [hVL]; exact okB_ok rfl
       have HVL := Lib.hid hVL
       have hvi : ∀ z, ∀ x ∈ VL z, x.1 < 13 := fun z => by rw [hVL]; exact ltB_ok rfl
       have HOK := Lib.hid hok
       have HVI := Lib.hid hvi
       clear hVL hok hvi
       refine (wpIn_wide (n := 9)).1 (regionIn_many (N := 159) (w := _) VL (fun L z w' => (Below wa.heap.size wa w' ∧ (L 9 = true → wa.heap.size ≤ z.1 ∧ w'.heap[z.1]? = some (.cells (bif L 11 then #[.int .i64 aL, .int .i64 aR, .int .i64 aC, .int .i64 aP] else #[.int .i64 0, .int .i64 0, .int .i64 0, .int .i64 0]) 42 (0, 0))) ∧ (L 10 = true → wa.heap.size ≤ z.2 ∧ w'.heap[z.2]? = some (.cells (bif L 12 then #[.int .i64 bL, .int .i64 bR, .int .i64 bC, .int .i64 bP] else #[.int .i64 0, .int .i64 0, .int .i64 0, .int .i64 0]) 42 (0, 0))) ∧ (L 9 = true → L 10 = true → z.1 ≠ z.2)) ∧ True) [(8, .slice (some ⟨kg, ko, none⟩) m KC), (9, .int .i64 (k : Int))] (by kernel_rfl) (by kernel_rfl) rfl (by simp only [List.forall_mem_cons, List.not_mem_nil, false_imp_iff, implies_true, and_true]; exact ⟨rfl, rfl⟩) HVI.out (0, 0) ?start ?step ?fin)
       case start => exact ⟨⟨(Below.refl _ _).drew, fun h => (by cases h), fun h => (by cases h), fun h => (by cases h)⟩, trivial⟩
       case step =>
         intro gg_ hgN hgF ii_ hii_ L z w' hph hs hu
         obtain ⟨hcm, hph⟩ := hph
         have hF8 := hgF (8, .slice (some ⟨kg, ko, none⟩) m KC) (by simp)
         have hF9 := hgF (9, .int .i64 (k : Int)) (by simp)
         have hL := hu.1
         have hii_ : ii_ < 13 := hii_
         clear hgF
         obtain rfl | rfl | rfl | rfl | rfl | rfl | rfl | rfl | rfl | rfl | rfl | rfl | rfl := (by omega : ii_ = 0 ∨ ii_ = 1 ∨ ii_ = 2 ∨ ii_ = 3 ∨ ii_ = 4 ∨ ii_ = 5 ∨ ii_ = 6 ∨ ii_ = 7 ∨ ii_ = 8 ∨ ii_ = 9 ∨ ii_ = 10 ∨ ii_ = 11 ∨ ii_ = 12)
         · skip
           have n11 : L 11 = false := not_yet hL fun h => shut_at hs 11 0 (by kernel_rfl) (h)
           have n12 : L 12 = false := not_yet hL fun h => shut_at hs 12 0 (by kernel_rfl) (h)
           have e8 : (many gg_ L (VL z))[8]?.getD undef = .slice (some ⟨kg, ko, none⟩) m KC := many_out3 hgN (HOK.out z) (by rw [HVL.out]; rfl) hF8
           refine opIn_run (v := .slice (some ⟨kg, ko, none⟩) m KC) (w' := w') rfl rfl (fun c h => by cases h) (fun _ => trivial) ?_ ⟨z, by exact many_put3 (HOK.out _) (by rw [HVL.out]; rfl) hL, hcm, hph⟩
           go_simp
         · skip
           have n11 : L 11 = false := not_yet hL fun h => shut_at hs 11 1 (by kernel_rfl) (h)
           have n12 : L 12 = false := not_yet hL fun h => shut_at hs 12 1 (by kernel_rfl) (h)
           have e9 : (many gg_ L (VL z))[9]?.getD undef = .int .i64 (k : Int) := many_out3 hgN (HOK.out z) (by rw [HVL.out]; rfl) hF9
           refine opIn_run (v := .int .i64 (k : Int)) (w' := w') rfl rfl (fun c h => by cases h) (fun _ => trivial) ?_ ⟨z, by exact many_put3 (HOK.out _) (by rw [HVL.out]; rfl) hL, hcm, hph⟩
           go_simp
         · skip
           have y1 : L 1 = true := up_at hu 1 (by kernel_rfl)
           have n11 : L 11 = false := not_yet hL fun h => shut_at hs 11 2 (by kernel_rfl) (h)
           have n12 : L 12 = false := not_yet hL fun h => shut_at hs 12 2 (by kernel_rfl) (h)
           have e38 : (many gg_ L (VL z))[38]?.getD undef = .int .i64 (k : Int) := many_eval3 hgN (HOK.out z) (by rw [HVL.out]; rfl) y1
           refine opIn_run (v := .int .i64 (j : Int)) (w' := w') rfl rfl (fun c h => by cases h) (fun _ => trivial) ?_ ⟨z, by exact many_put3 (HOK.out _) (by rw [HVL.out]; rfl) hL, hcm, trivial⟩
           go_simp
           rw [HJK.out.2]
           have hj2 : -9223372036854775808 ≤ (j : Int) ∧ (j : Int) ≤ 9223372036854775807 := by have := HJK.out.1; omega
           exact IntWalk.i64_in _ hj2
         · skip
           have y0 : L 0 = true := up_at hu 0 (by kernel_rfl)
           have y2 : L 2 = true := up_at hu 2 (by kernel_rfl)
           have n11 : L 11 = false := not_yet hL fun h => shut_at hs 11 3 (by kernel_rfl) (h)
           have n12 : L 12 = false := not_yet hL fun h => shut_at hs 12 3 (by kernel_rfl) (h)
           have e37 : (many gg_ L (VL z))[37]?.getD undef = .slice (some ⟨kg, ko, none⟩) m KC := many_eval3 hgN (HOK.out z) (by rw [HVL.out]; rfl) y0
           have e39 : (many gg_ L (VL z))[39]?.getD undef = .int .i64 (j : Int) := many_eval3 hgN (HOK.out z) (by rw [HVL.out]; rfl) y2
           refine opIn_run (v := .pointer (some ⟨kg, ko + j * 4, none⟩)) (w' := w') rfl rfl (fun c h => by cases h) (fun _ => trivial) ?_ ⟨z, by exact many_put3 (HOK.out _) (by rw [HVL.out]; rfl) hL, hcm, trivial⟩
           have hj2 : (j : Int) < (m : Int) := by have := HJK.out.1; omega
           have hj0 : ¬ (j : Int) < 0 := by omega
           go_simp
         · skip
           have y3 : L 3 = true := up_at hu 3 (by kernel_rfl)
           have n11 : L 11 = false := not_yet hL fun h => shut_at hs 11 4 (by kernel_rfl) (h)
           have n12 : L 12 = false := not_yet hL fun h => shut_at hs 12 4 (by kernel_rfl) (h)
           have hp := HBa.out.trans (hcm.1.mono HBa.out.size)
           have g0 := (hp.cell (p := ⟨kg, ko + j * 4, none⟩) HU.out.1).trans HU.out.2.1.1
           have g1 := (hp.cell (p := ⟨kg, ko + j * 4 + 1, none⟩) HU.out.1).trans HU.out.2.1.2.1
           have g2 := (hp.cell (p := ⟨kg, ko + j * 4 + 2, none⟩) HU.out.1).trans HU.out.2.1.2.2.1
           have g3 := (hp.cell (p := ⟨kg, ko + j * 4 + 3, none⟩) HU.out.1).trans HU.out.2.1.2.2.2
           have e40 : (many gg_ L (VL z))[40]?.getD undef = .pointer (some ⟨kg, ko + j * 4, none⟩) := many_eval3 hgN (HOK.out z) (by rw [HVL.out]; rfl) y3
           refine opIn_run (v := .agg #[.int .i64 aL, .int .i64 aR, .int .i64 aC, .int .i64 aP]) (w' := w') rfl rfl (fun c h => by cases h) (fun _ => trivial) ?_ ⟨z, by exact many_put3 (HOK.out _) (by rw [HVL.out]; rfl) hL, hcm, hph⟩
           go_simp
         · skip
           have n12 : L 12 = false := not_yet hL fun h => shut_at hs 12 5 (by kernel_rfl) (h)
           have e8 : (many gg_ L (VL z))[8]?.getD undef = .slice (some ⟨kg, ko, none⟩) m KC := many_out3 hgN (HOK.out z) (by rw [HVL.out]; rfl) hF8
           refine opIn_run (v := .slice (some ⟨kg, ko, none⟩) m KC) (w' := w') rfl rfl (fun c h => by cases h) (fun _ => trivial) ?_ ⟨z, by exact many_put3 (HOK.out _) (by rw [HVL.out]; rfl) hL, hcm, hph⟩
           go_simp
         · skip
           have n12 : L 12 = false := not_yet hL fun h => shut_at hs 12 6 (by kernel_rfl) (h)
           have e9 : (many gg_ L (VL z))[9]?.getD undef = .int .i64 (k : Int) := many_out3 hgN (HOK.out z) (by rw [HVL.out]; rfl) hF9
           refine opIn_run (v := .int .i64 (k : Int)) (w' := w') rfl rfl (fun c h => by cases h) (fun _ => trivial) ?_ ⟨z, by exact many_put3 (HOK.out _) (by rw [HVL.out]; rfl) hL, hcm, hph⟩
           go_simp
         · skip
           have y5 : L 5 = true := up_at hu 5 (by kernel_rfl)
           have y6 : L 6 = true := up_at hu 6 (by kernel_rfl)
           have n12 : L 12 = false := not_yet hL fun h => shut_at hs 12 7 (by kernel_rfl) (h)
           have e42 : (many gg_ L (VL z))[42]?.getD undef = .slice (some ⟨kg, ko, none⟩) m KC := many_eval3 hgN (HOK.out z) (by rw [HVL.out]; rfl) y5
           have e43 : (many gg_ L (VL z))[43]?.getD undef = .int .i64 (k : Int) := many_eval3 hgN (HOK.out z) (by rw [HVL.out]; rfl) y6
           refine opIn_run (v := .pointer (some ⟨kg, ko + k * 4, none⟩)) (w' := w') rfl rfl (fun c h => by cases h) (fun _ => trivial) ?_ ⟨z, by exact many_put3 (HOK.out _) (by rw [HVL.out]; rfl) hL, hcm, trivial⟩
           have hj0 : ¬ (k : Int) < 0 := by omega
           go_simp
         · skip
           have y7 : L 7 = true := up_at hu 7 (by kernel_rfl)
           have n12 : L 12 = false := not_yet hL fun h => shut_at hs 12 8 (by kernel_rfl) (h)
           have hp := HBa.out.trans (hcm.1.mono HBa.out.size)
           have g0 := (hp.cell (p := ⟨kg, ko + k * 4, none⟩) HU.out.1).trans HU.out.2.2.1
           have g1 := (hp.cell (p := ⟨kg, ko + k * 4 + 1, none⟩) HU.out.1).trans HU.out.2.2.2.1
           have g2 := (hp.cell (p := ⟨kg, ko + k * 4 + 2, none⟩) HU.out.1).trans HU.out.2.2.2.2.1
           have g3 := (hp.cell (p := ⟨kg, ko + k * 4 + 3, none⟩) HU.out.1).trans HU.out.2.2.2.2.2
           have e44 : (many gg_ L (VL z))[44]?.getD undef = .pointer (some ⟨kg, ko + k * 4, none⟩) := many_eval3 hgN (HOK.out z) (by rw [HVL.out]; rfl) y7
           refine opIn_run (v := .agg #[.int .i64 bL, .int .i64 bR, .int .i64 bC, .int .i64 bP]) (w' := w') rfl rfl (fun c h => by cases h) (fun _ => trivial) ?_ ⟨z, by exact many_put3 (HOK.out _) (by rw [HVL.out]; rfl) hL, hcm, hph⟩
           go_simp
         · skip
           have n11 : L 11 = false := not_yet hL fun h => shut_at hs 11 9 (by kernel_rfl) (h)
           have n12 : L 12 = false := not_yet hL fun h => shut_at hs 12 9 (by kernel_rfl) (h)
           refine opIn_run (v := (.pointer (some ⟨w'.heap.size, 0, none⟩))) (w' := w'.alloc (.cells #[.int .i64 0, .int .i64 0, .int .i64 0, .int .i64 0] 42)) rfl rfl (fun c h => by cases h) (fun _ => trivial) ?_ ⟨(w'.heap.size, z.2), by rw [show many gg_ L (VL z) = many gg_ L (VL (w'.heap.size, z.2)) from by rw [HVL.out]; simp only [many, n11, n12, hL, cond_false, cond_true]]; exact many_put3 (HOK.out _) (by rw [HVL.out]; rfl) hL, ⟨hcm.1.alloc hcm.1.size _, fun _ => ⟨hcm.1.size, by simp only [upd, n11]; exact World.alloc_heap_new w' _⟩, fun h => ⟨(hcm.2.2.1 h).1, (Below.heap_alloc _ _ _ (Array.getElem?_eq_some_iff.1 (hcm.2.2.1 h).2).1).trans (hcm.2.2.1 h).2⟩, fun _ h => Nat.ne_of_gt (Array.getElem?_eq_some_iff.1 (hcm.2.2.1 h).2).1⟩, trivial⟩
           go_simp
         · skip
           have n11 : L 11 = false := not_yet hL fun h => shut_at hs 11 10 (by kernel_rfl) (h)
           have n12 : L 12 = false := not_yet hL fun h => shut_at hs 12 10 (by kernel_rfl) (h)
           refine opIn_run (v := (.pointer (some ⟨w'.heap.size, 0, none⟩))) (w' := w'.alloc (.cells #[.int .i64 0, .int .i64 0, .int .i64 0, .int .i64 0] 42)) rfl rfl (fun c h => by cases h) (fun _ => trivial) ?_ ⟨(z.1, w'.heap.size), by rw [show many gg_ L (VL z) = many gg_ L (VL (z.1, w'.heap.size)) from by rw [HVL.out]; simp only [many, n11, n12, hL, cond_false, cond_true]]; exact many_put3 (HOK.out _) (by rw [HVL.out]; rfl) hL, ⟨hcm.1.alloc hcm.1.size _, fun h => ⟨(hcm.2.1 h).1, (Below.heap_alloc _ _ _ (Array.getElem?_eq_some_iff.1 (hcm.2.1 h).2).1).trans (hcm.2.1 h).2⟩, fun _ => ⟨hcm.1.size, by simp only [upd, n12]; exact World.alloc_heap_new w' _⟩, fun h _ => Nat.ne_of_lt (Array.getElem?_eq_some_iff.1 (hcm.2.1 h).2).1⟩, trivial⟩
           go_simp
         · skip
           have y0 : L 0 = true := up_at hu 0 (by kernel_rfl)
           have y1 : L 1 = true := up_at hu 1 (by kernel_rfl)
           have y2 : L 2 = true := up_at hu 2 (by kernel_rfl)
           have y3 : L 3 = true := up_at hu 3 (by kernel_rfl)
           have y4 : L 4 = true := up_at hu 4 (by kernel_rfl)
           have y9 : L 9 = true := up_at hu 9 (by kernel_rfl)
           have y10 : L 10 = true := up_at hu 10 (by kernel_rfl)
           have n12 : L 12 = false := not_yet hL fun h => shut_at hs 12 11 (by kernel_rfl) (h)
           have e10 : (many gg_ L (VL z))[10]?.getD undef = .pointer (some ⟨z.1, 0, none⟩) := many_eval3 hgN (HOK.out z) (by rw [HVL.out]; rfl) y9
           have e41 : (many gg_ L (VL z))[41]?.getD undef = .agg #[.int .i64 aL, .int .i64 aR, .int .i64 aC, .int .i64 aP] := many_eval3 hgN (HOK.out z) (by rw [HVL.out]; rfl) y4
           refine opIn_skip (w' := w'.setRow z.1 #[.int .i64 aL, .int .i64 aR, .int .i64 aC, .int .i64 aP]) rfl rfl (fun c h => by cases h) (fun _ => trivial) ?_ ⟨z, by exact many_none 11 _ (by rw [HVL.out]; simp), ⟨below_setRow hcm.1 (hcm.2.1 y9).1 _, fun _ => ⟨(hcm.2.1 y9).1, by simp only [upd_self, cond_true]; exact setRow_heap _ _ _ _ _ _ (hcm.2.1 y9).2⟩, fun h => ⟨(hcm.2.2.1 h).1, (setRow_ne _ _ _ _ (fun e => hcm.2.2.2 y9 h e.symm)).trans (hcm.2.2.1 h).2⟩, hcm.2.2.2⟩, trivial⟩
           exact run_store_many e10 e41 (hcm.2.1 y9).2 (by kernel_rfl) (by cases L 11 <;> rfl) (by kernel_rfl)
         · skip
           have y0 : L 0 = true := up_at hu 0 (by kernel_rfl)
           have y1 : L 1 = true := up_at hu 1 (by kernel_rfl)
           have y2 : L 2 = true := up_at hu 2 (by kernel_rfl)
           have y3 : L 3 = true := up_at hu 3 (by kernel_rfl)
           have y4 : L 4 = true := up_at hu 4 (by kernel_rfl)
           have y5 : L 5 = true := up_at hu 5 (by kernel_rfl)
           have y6 : L 6 = true := up_at hu 6 (by kernel_rfl)
           have y7 : L 7 = true := up_at hu 7 (by kernel_rfl)
           have y8 : L 8 = true := up_at hu 8 (by kernel_rfl)
           have y9 : L 9 = true := up_at hu 9 (by kernel_rfl)
           have y10 : L 10 = true := up_at hu 10 (by kernel_rfl)
           have y11 : L 11 = true := up_at hu 11 (by kernel_rfl)
           have e11 : (many gg_ L (VL z))[11]?.getD undef = .pointer (some ⟨z.2, 0, none⟩) := many_eval3 hgN (HOK.out z) (by rw [HVL.out]; rfl) y10
           have e45 : (many gg_ L (VL z))[45]?.getD undef = .agg #[.int .i64 bL, .int .i64 bR, .int .i64 bC, .int .i64 bP] := many_eval3 hgN (HOK.out z) (by rw [HVL.out]; rfl) y8
           refine opIn_skip (w' := w'.setRow z.2 #[.int .i64 bL, .int .i64 bR, .int .i64 bC, .int .i64 bP]) rfl rfl (fun c h => by cases h) (fun _ => trivial) ?_ ⟨z, by exact many_none 12 _ (by rw [HVL.out]; simp), ⟨below_setRow hcm.1 (hcm.2.2.1 y10).1 _, fun h => ⟨(hcm.2.1 h).1, (setRow_ne _ _ _ _ (fun e => hcm.2.2.2 h y10 e)).trans (hcm.2.1 h).2⟩, fun _ => ⟨(hcm.2.2.1 y10).1, by simp only [upd_self, cond_true]; exact setRow_heap _ _ _ _ _ _ (hcm.2.2.1 y10).2⟩, hcm.2.2.2⟩, trivial⟩
           exact run_store_many e11 e45 (hcm.2.2.1 y10).2 (by kernel_rfl) (by cases L 12 <;> rfl) (by kernel_rfl)
       case fin =>
         intro L z w' hall hph
         obtain ⟨hcm, hph⟩ := hph
         have hk9 := hcm.2.1 (hall 9 (by decide))
         have hk10 := hcm.2.2.1 (hall 10 (by decide))
         rw [hall 11 (by decide)] at hk9
         rw [hall 12 (by decide)] at hk10
         have hne := hcm.2.2.2 (hall 9 (by decide)) (hall 10 (by decide))
         simp only [cond_true] at hk9 hk10
         rw [HVL.out]
         dsimp only [manyL, List.set_cons_zero, List.set_cons_succ]
         clear hall HVL HOK HVI
         obtain ⟨pa, pb⟩ := z
         simp only at hk9 hk10 hne hcm
         obtain ⟨W8, hW8⟩ : ∃ W, W = w' := ⟨_, rfl⟩
         subst hW8
         have HB8 := Lib.hid (HBa.out.trans (hcm.1.mono HBa.out.size))
         have HM8 := HMW.out.keep HB8.out
         have j7' : W8.cell? ⟨bm + 1, 7, none⟩ = some (.int .i64 (o : Int)) := blk_cell (HM8.b 1 _ rfl) 7
         have a0' : W8.cell? ⟨pa, 0, none⟩ = some (.int .i64 aL) := blk_cell hk9.2 0
         have a1' : W8.cell? ⟨pa, 1, none⟩ = some (.int .i64 aR) := blk_cell hk9.2 1
         have a2' : W8.cell? ⟨pa, 2, none⟩ = some (.int .i64 aC) := blk_cell hk9.2 2
         have a3' : W8.cell? ⟨pa, 3, none⟩ = some (.int .i64 aP) := blk_cell hk9.2 3
         have b0' : W8.cell? ⟨pb, 0, none⟩ = some (.int .i64 bL) := blk_cell hk10.2 0
         have b1' : W8.cell? ⟨pb, 1, none⟩ = some (.int .i64 bR) := blk_cell hk10.2 1
         have b2' : W8.cell? ⟨pb, 2, none⟩ = some (.int .i64 bC) := blk_cell hk10.2 2
         have b3' : W8.cell? ⟨pb, 3, none⟩ = some (.int .i64 bP) := blk_cell hk10.2 3
         clear hk9 hk10 hne hcm HM8 hph HU HBa
         obtain ⟨ka, hka⟩ : ∃ v : Value, .agg #[.int .i64 aL, .int .i64 aR, .int .i64 aC, .int .i64 aP] = v := ⟨_, rfl⟩
         obtain ⟨kb, hkb⟩ : ∃ v : Value, .agg #[.int .i64 bL, .int .i64 bR, .int .i64 bC, .int .i64 bP] = v := ⟨_, rfl⟩
         rw [hka, hkb]
         clear hka hkb
         go_upto_block 2 with fail
         go_cut [] from 48 to 131 (fun wx => wx = W8)
         case first =>
          obtain ⟨⟨f0, f1, f2, f4⟩, _⟩ := HFL.out
          rcases (by omega : o = 0 ∨ o = 1 ∨ o = 2 ∨ o = 3 ∨ o = 4) with rfl | rfl | rfl | rfl | rfl
          · obtain ⟨e1, e2⟩ := f0 rfl
            clear f0 f1 f2 f4
            have n1 : ¬ bL < aL := by omega
            by_cases h1 : bL = aL
            · obtain ⟨e3, e4⟩ := e2 h1
              have n2 : ¬ bR < aR := by omega
              by_cases h2 : bR = aR
              · have e5 := e4 h2
                have n3 : ¬ bC < aC := by omega
                clear e1 e2 e3 e4 e5
                go_wp2_with fail
                go_meet
                exact rfl
              · clear e1 e2 e3 e4
                go_wp2_with fail
                go_meet
                exact rfl
            · clear e1 e2
              go_wp2_with fail
              go_meet
              exact rfl
          · obtain ⟨e1, e2⟩ := f1 rfl
            clear f0 f1 f2 f4
            have n1 : ¬ bR < aR := by omega
            by_cases h1 : bR = aR
            · obtain ⟨e3, e4⟩ := e2 h1
              have n2 : ¬ bL < aL := by omega
              by_cases h2 : bL = aL
              · have e5 := e4 h2
                have n3 : ¬ bC < aC := by omega
                clear e1 e2 e3 e4 e5
                go_wp2_with fail
                go_meet
                exact rfl
              · clear e1 e2 e3 e4
                go_wp2_with fail
                go_meet
                exact rfl
            · clear e1 e2
              go_wp2_with fail
              go_meet
              exact rfl
          · have e1 := f2 rfl
            clear f0 f1 f2 f4
            have n1 : ¬ bR < aR := by omega
            clear e1
            go_wp2_with fail
            go_meet
            exact rfl
          · clear f0 f1 f2 f4
            go_wp2_with fail
            go_meet
            exact rfl
          · have e1 := f4 (by omega) (by omega)
            clear f0 f1 f2 f4
            have n1 : ¬ bC < aC := by omega
            clear e1
            go_wp2_with fail
            go_meet
            exact rfl
         case rest =>
          subst hcut
          have hlay := HFL.out.2
          have hw1 : wrap64 (aL + 1) = aL + 1 := w64_in (by omega)
          by_cases h1 : aC = bC
          · by_cases h2 : aR = bR
            · by_cases h3 : aP = bP
              · have h4 := hlay h1 h2 h3
                clear hlay
                go_wp2_with fail
                go_roundg g0
                case measure => omega
                case rel => exact ⟨k + 1, by omega, by omega, by go_num, HB8⟩
              · clear hlay
                go_wp2_with fail
                go_roundg g0
                case measure => omega
                case rel => exact ⟨k + 1, by omega, by omega, by go_num, HB8⟩
            · clear hlay
              go_wp2_with fail
              go_roundg g0
              case measure => omega
              case rel => exact ⟨k + 1, by omega, by omega, by go_num, HB8⟩
          · clear hlay
            go_wp2_with fail
            go_roundg g0
            case measure => omega
            case rel => exact ⟨k + 1, by omega, by omega, by go_num, HB8⟩
     · have hkI : ¬ (k : Int) < (m : Int) := by omega
       have HBz : Hid (Below B0 w wa) := Lib.hid (HB2.out.trans ((HMW.out.bel.mono (by have := HBM.out; have := HB2.out.size; have := HBE.out; omega)).trans (HBa.out.mono (by have := HBM.out; have := HB2.out.size; have := HBE.out; have := HMW.out.bel.size; omega))))
       go_wp2
       go_ret
       exact ⟨rfl, by rw [HBE.out]; exact HBz.out⟩
end Go.Proofs.Ytejoedanhonpkaa
