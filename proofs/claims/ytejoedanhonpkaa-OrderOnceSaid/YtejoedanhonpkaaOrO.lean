/- Packets in order: OrderOnce walked. -/
import Derived.Test.YtejoedanhonpkaaOrO2
set_option linter.unusedVariables false
set_option linter.unusedSimpArgs false
namespace Go.Proofs.Ytejoedanhonpkaa
open Go.RowKit
set_option maxRecDepth 100000
set_option maxHeartbeats 16000000 in
theorem walk_orderOnce (f : FN) (A0 : Option Addr) (len0 cap0 : Nat) (z0 : List Int) (a1 : Int) (w : World) (w0 : IsRow .i64 w A0 len0 cap0 z0) (s0 : -9223372036854775808 ≤ f.sb ∧ f.sb ≤ 9223372036854775807) (w1 : (Lit.int .i64 a1).wf = true) :
    Calls Try.prog 4 #[.agg (f.arr A0 len0 cap0), .int .i64 a1] w fun e w' => e = .returned (.bool true) ∧ Below w.heap.size w w' := by
  have MK := Lib.hid (fun u hu => make_any f A0 len0 cap0 z0 16 u (by omega) hu s0)
  obtain ⟨fc, hfc⟩ : ∃ fc, f.arr A0 len0 cap0 = fc := ⟨_, rfl⟩
  have hfs : fc.size = 21 := by rw [← hfc]; rfl
  rw [hfc] at MK ⊢
  have HFS := Lib.hid hfs
  clear hfc hfs
  have HOK := mkPN_ok f 16 (by omega)
  obtain ⟨M, hM⟩ : ∃ M, mkPN f 16 = M := ⟨_, rfl⟩
  obtain ⟨N, hN⟩ : ∃ N, mkN f = N := ⟨_, rfl⟩
  have hNb : 1 ≤ N ∧ N ≤ 4 := by
    have := within_rng f.nc 4 (by omega)
    rw [← hN]
    unfold mkN
    omega
  obtain ⟨DP, hDP⟩ : ∃ D, mkDP f = D := ⟨_, rfl⟩
  have hDPb : 1 ≤ DP ∧ DP ≤ 10 := by
    have := within_rng f.dp 10 (by omega)
    rw [← hDP]
    unfold mkDP
    omega
  rw [hM, hN, hDP] at MK
  rw [hM] at HOK
  clear hM hN hDP
  obtain ⟨X, Y, OX, OY, TX, TY, LV, BW, BH, PR, ST, OD, LY, RC, SO, EP⟩ := M
  obtain ⟨o1, o2, o3, o4, o5, o6, o7, o8, o9, o10, o11, o12, o13⟩ := HOK
  simp only at o1 o2 o3 o4 o5 o6 o7 o8 o9 o10 o11 o12 o13
  clear w1
  obtain ⟨o, ho⟩ : ∃ o : Nat, a1 % 5 = (o : Int) := ⟨(a1 % 5).toNat, by omega⟩
  have ho5 : o < 5 := by omega
  have HO := Lib.hid ho
  clear ho
  go_enter Try.func4, Try.ntmps4
  go_wp2_with fail
  obtain ⟨B0, hB0⟩ : ∃ B, w.heap.size = B := ⟨_, rfl⟩
  obtain ⟨Wf, hWf⟩ : ∃ Wf, w.alloc (Obj.cells fc 24) = Wf := ⟨_, rfl⟩
  have HF0 : Hid (MkW w B0 [(fc, 24)] Wf) := Lib.hid (by
    have h0 : MkW w B0 [] w := ⟨fun i c e => by simp at e, Below.refl _ _, by simp; omega⟩
    have h1 := h0.more (by simp; omega) fc 24
    rw [← hWf]; exact h1)
  rw [hWf, hB0]
  have HBE := Lib.hid hB0
  clear hWf hB0
  refine (known16 _).mono ?_
  rintro e w1 ⟨rfl, hb⟩
  have HF1 := Lib.hid (HF0.out.keep hb)
  clear hb HF0
  have MK1 := MK.out w1 (IsRow.below w0 (by rw [HBE.out]; exact HF1.out.bel))
  go_wp2_with (refine wpList_load_row rfl 24 _ rfl B0 rfl 24 fc (0, 0) _ (show w1.heap[B0]? = _ from HF1.out.b 0 _ rfl) Try.underlying24 rfl (by rw [HFS.out]; kernel_rfl) ?_)
  refine MK1.mono ?_
  rintro e w2 ⟨A2, C2, cs, rfl, hcl, hCR, hKY, hb, hfx⟩
  try simp only at hfx
  try simp only at hKY
  have HB2 : Hid (Below B0 w w2) := Lib.hid (HF1.out.bel.trans (hb.mono (by have := HF1.out.sz; simp at this; omega)))
  have HCR : Hid (CRow B0 w2 (.slice A2 N C2) cs) := Lib.hid (by
    have h1 := HF1.out.sz
    simp at h1
    exact ⟨own_low hCR.own (by omega), fun c hc => (hCR.dat c hc).low (by omega)⟩)
  have HKY : Hid (∀ (i : Nat) (c : Cp), cs[i]? = some c → (1 ≤ c.dx ∧ c.dx ≤ 4) ∧ (1 ≤ c.dy ∧ c.dy ≤ 4)) := Lib.hid (fun i c hc => by have h1 := hKY i c hc; have h2 := cpK_bd (sb := f.sb) (DP := DP) i hDPb; obtain ⟨_, _, h3, h4, _⟩ := h1; rw [h3, h4]; omega)
  have HCL := Lib.hid hcl
  obtain ⟨hTX, hTY, hCT⟩ := hfx
  obtain ⟨rs, hrs1, hrs2, TLx⟩ := tilesO X Y OX OY TX TY A2 N C2 (by omega) (by omega) (by omega) (by omega) hCT
  have HRS := Lib.hid hrs2
  have TL := Lib.hid TLx
  clear MK MK1 hb hCR hKY hcl hCT HF1 w0 s0 hrs2 TLx
  go_wp2_with fail
  obtain ⟨bm, hbm⟩ : ∃ bm, w2.heap.size = bm := ⟨_, rfl⟩
  obtain ⟨W3, hW3⟩ : ∃ W3, (w2.alloc (Obj.cells #[.int .i64 X, .int .i64 Y, .int .i64 OX, .int .i64 OY, .slice A2 N C2] 28)).alloc (Obj.cells #[.int .i64 TX, .int .i64 TY, .int .i64 (LV : Int), .int .i64 (BW : Int), .int .i64 (BH : Int), .int .i64 (PR : Int), .int .i64 ST, .int .i64 OD, .int .i64 (LY : Int), .bool RC, .bool SO, .bool EP] 30) = W3 := ⟨_, rfl⟩
  have HM3 : Hid (MkW w2 bm [(#[.int .i64 X, .int .i64 Y, .int .i64 OX, .int .i64 OY, .slice A2 N C2], 28), (#[.int .i64 TX, .int .i64 TY, .int .i64 (LV : Int), .int .i64 (BW : Int), .int .i64 (BH : Int), .int .i64 (PR : Int), .int .i64 ST, .int .i64 OD, .int .i64 (LY : Int), .bool RC, .bool SO, .bool EP], 30)] W3) := Lib.hid (by
    have h0 : MkW w2 bm [] w2 := ⟨fun i c e => by simp at e, Below.refl _ _, by simp; omega⟩
    have h1 := (h0.more (by simp; omega) #[.int .i64 X, .int .i64 Y, .int .i64 OX, .int .i64 OY, .slice A2 N C2] 28).more (by simp; omega) #[.int .i64 TX, .int .i64 TY, .int .i64 (LV : Int), .int .i64 (BW : Int), .int .i64 (BH : Int), .int .i64 (PR : Int), .int .i64 ST, .int .i64 OD, .int .i64 (LY : Int), .bool RC, .bool SO, .bool EP] 30
    rw [← hW3]; exact h1)
  rw [hW3, hbm]
  have HBM := Lib.hid hbm
  clear hW3 hbm
  refine (within16 a1 5 _ (by omega) (by omega)).mono ?_
  rintro e w4 ⟨rfl, rfl⟩
  rw [HO.out]
  have c7 : W3.cell? ⟨bm + 1, 7, none⟩ = some (.int .i64 OD) := blk_cell (HM3.out.b 1 _ rfl) 7
  have z7 : W3.frozen? ⟨bm + 1, 7, none⟩ = false := HM3.out.fro (i := 1) rfl 7
  obtain ⟨W5, hW5⟩ : ∃ W5, World.setCell W3 { block := bm + 1, off := 7 } (Value.int IntKind.i64 (o : Int)) = W5 := ⟨_, rfl⟩
  have HM5 : Hid (MkW w2 bm [(#[.int .i64 X, .int .i64 Y, .int .i64 OX, .int .i64 OY, .slice A2 N C2], 28), (#[.int .i64 TX, .int .i64 TY, .int .i64 (LV : Int), .int .i64 (BW : Int), .int .i64 (BH : Int), .int .i64 (PR : Int), .int .i64 ST, .int .i64 (o : Int), .int .i64 (LY : Int), .bool RC, .bool SO, .bool EP], 30)] W5) := Lib.hid (by rw [← hW5]; exact HM3.out.set (i := 1) rfl rfl 7 _)
  have i0' : W5.cell? ⟨bm, 0, none⟩ = some (.int .i64 X) := blk_cell (show W5.heap[bm]? = _ from HM5.out.b 0 _ rfl) 0
  have i1' : W5.cell? ⟨bm, 1, none⟩ = some (.int .i64 Y) := blk_cell (show W5.heap[bm]? = _ from HM5.out.b 0 _ rfl) 1
  have i2' : W5.cell? ⟨bm, 2, none⟩ = some (.int .i64 OX) := blk_cell (show W5.heap[bm]? = _ from HM5.out.b 0 _ rfl) 2
  have i3' : W5.cell? ⟨bm, 3, none⟩ = some (.int .i64 OY) := blk_cell (show W5.heap[bm]? = _ from HM5.out.b 0 _ rfl) 3
  have i4' : W5.cell? ⟨bm, 4, none⟩ = some (.slice A2 N C2) := blk_cell (show W5.heap[bm]? = _ from HM5.out.b 0 _ rfl) 4
  have j0' : W5.cell? ⟨bm + 1, 0, none⟩ = some (.int .i64 TX) := blk_cell (HM5.out.b 1 _ rfl) 0
  have j1' : W5.cell? ⟨bm + 1, 1, none⟩ = some (.int .i64 TY) := blk_cell (HM5.out.b 1 _ rfl) 1
  have j2' : W5.cell? ⟨bm + 1, 2, none⟩ = some (.int .i64 (LV : Int)) := blk_cell (HM5.out.b 1 _ rfl) 2
  have j3' : W5.cell? ⟨bm + 1, 3, none⟩ = some (.int .i64 (BW : Int)) := blk_cell (HM5.out.b 1 _ rfl) 3
  have j4' : W5.cell? ⟨bm + 1, 4, none⟩ = some (.int .i64 (BH : Int)) := blk_cell (HM5.out.b 1 _ rfl) 4
  have j5' : W5.cell? ⟨bm + 1, 5, none⟩ = some (.int .i64 (PR : Int)) := blk_cell (HM5.out.b 1 _ rfl) 5
  have j6' : W5.cell? ⟨bm + 1, 6, none⟩ = some (.int .i64 ST) := blk_cell (HM5.out.b 1 _ rfl) 6
  have j7' : W5.cell? ⟨bm + 1, 7, none⟩ = some (.int .i64 (o : Int)) := blk_cell (HM5.out.b 1 _ rfl) 7
  have j8' : W5.cell? ⟨bm + 1, 8, none⟩ = some (.int .i64 (LY : Int)) := blk_cell (HM5.out.b 1 _ rfl) 8
  have j9' : W5.cell? ⟨bm + 1, 9, none⟩ = some (.bool RC) := blk_cell (HM5.out.b 1 _ rfl) 9
  have j10' : W5.cell? ⟨bm + 1, 10, none⟩ = some (.bool SO) := blk_cell (HM5.out.b 1 _ rfl) 10
  have j11' : W5.cell? ⟨bm + 1, 11, none⟩ = some (.bool EP) := blk_cell (HM5.out.b 1 _ rfl) 11
  go_wp2_with fail
  clear HM3 hW5 c7 z7 i0' i1' i2' i3' i4' j0' j1' j2' j3' j4' j5' j6' j7' j8' j9' j10' j11'
  refine (TL.out _ _ _ _ _ _ _ _ _ _ _).mono ?_
  rintro e W6 ⟨TA, TC, rfl, hRT, hb⟩
  have HM6 := Lib.hid (HM5.out.keep hb)
  have HRT := Lib.hid hRT
  clear hb hRT HM5
  obtain ⟨tn, htn⟩ : ∃ n, rs.length = n := ⟨_, rfl⟩
  rw [htn] at hrs1 HRT ⊢
  have HTN := Lib.hid htn
  clear htn
  go_wp2_with fail
  go_loopg [8] tn (fun g v wr => ∃ i : Nat, i + g = tn ∧ v = .int .i64 (i : Int) ∧ Hid (Below W6.heap.size W6 wr))
  case atStart => exact ⟨0, by omega, rfl, Lib.hid (Below.refl _ _)⟩
  case round =>
   obtain ⟨i, hig, rfl, HBa⟩ := hrel
   obtain ⟨wa, hwa⟩ : ∃ wa, wa = wr := ⟨wr, rfl⟩
   subst hwa
   by_cases hit : i < tn
   · obtain ⟨g0, rfl⟩ : ∃ g0, gk = g0 + 1 := ⟨gk - 1, by omega⟩
     have hiI : (i : Int) < (tn : Int) := by omega
     obtain ⟨r0, hr0⟩ : ∃ r, rs[i]? = some r := ⟨_, List.getElem?_eq_getElem (by rw [HTN.out]; exact hit)⟩
     have HRI := Lib.hid (HRS.out i r0 hr0)
     obtain ⟨rx0, ry0, rx1, ry1⟩ := r0
     obtain ⟨TA', TC', hTA, hTcell⟩ := HRT.out
     injection hTA with hTA1 hTA2 hTA3
     subst hTA1 hTA3
     obtain ⟨tg, tq, hTA4, htg, t0, t1, t2, t3⟩ := hTcell i _ hr0
     subst hTA4
     have HT : Hid (tg < W6.heap.size ∧ W6.cell? ⟨tg, tq + i * 4, none⟩ = some (.int .i64 rx0) ∧ W6.cell? ⟨tg, tq + i * 4 + 1, none⟩ = some (.int .i64 ry0) ∧ W6.cell? ⟨tg, tq + i * 4 + 2, none⟩ = some (.int .i64 rx1) ∧ W6.cell? ⟨tg, tq + i * 4 + 3, none⟩ = some (.int .i64 ry1)) := Lib.hid ⟨htg, t0, t1, t2, t3⟩
     clear hTcell hTA2 htg t0 t1 t2 t3 hr0
     have LC : Hid (∀ u, Below W6.heap.size W6 u → Calls Try.prog 13 #[.agg #[.int .i64 rx0, .int .i64 ry0, .int .i64 rx1, .int .i64 ry1], .agg #[.int .i64 X, .int .i64 Y, .int .i64 OX, .int .i64 OY, .slice A2 N C2], .agg #[.int .i64 TX, .int .i64 TY, .int .i64 (LV : Int), .int .i64 (BW : Int), .int .i64 (BH : Int), .int .i64 (PR : Int), .int .i64 ST, .int .i64 (o : Int), .int .i64 (LY : Int), .bool RC, .bool SO, .bool EP]] u fun e w' => ∃ (M : List Pk) (A : Option Addr) (m c : Nat), e = .returned (.slice A m c) ∧ M.length = m ∧ m ≤ 13000000 ∧ OL (geo (rx0, ry0, rx1, ry1) (cs.map fun c => (c.dx, c.dy)) LV PR) LY o M ∧ KeyR w' A M ∧ Below u.heap.size u w') := Lib.hid (fun u hu =>
       listP_any (lo := B0) o ho5 (rx0, ry0, rx1, ry1) X Y OX OY A2 N C2 cs TX TY BW BH ST RC SO EP LV PR LY u HRI.out.1 HRI.out.2 HKY.out (by rw [HCL.out]; omega) (by rw [HCL.out]; omega) HCL.out (by omega) (by omega) (by omega) ((HCR.out.below ((HM6.out.bel.mono (by rw [HBM.out]; omega)).trans (hu.mono HM6.out.bel.size)))))
     go_wp2_with fail
     obtain ⟨VL, hVL⟩ : ∃ VL : Option Addr × List Pk × Nat → List (Nat × Nat × Value), VL = fun z => [(0, 38, .slice (some ⟨tg, tq, none⟩) tn TC), (1, 39, .int .i64 (i : Int)), (2, 40, .pointer (some ⟨tg, tq + i * 4, none⟩)), (3, 41, .agg #[.int .i64 rx0, .int .i64 ry0, .int .i64 rx1, .int .i64 ry1]), (4, 42, .agg #[.int .i64 X, .int .i64 Y, .int .i64 OX, .int .i64 OY, .slice A2 N C2]), (5, 43, .agg #[.int .i64 TX, .int .i64 TY, .int .i64 (LV : Int), .int .i64 (BW : Int), .int .i64 (BH : Int), .int .i64 (PR : Int), .int .i64 ST, .int .i64 (o : Int), .int .i64 (LY : Int), .bool RC, .bool SO, .bool EP]), (6, 44, .slice z.1 z.2.1.length z.2.2), (7, 9, .slice z.1 z.2.1.length z.2.2)] := ⟨_, rfl⟩
     have hok : ∀ z, manyOk 172 (VL z) := fun z => by rw [hVL]; exact okB_ok rfl
     have HVL := Lib.hid hVL
     have hvi : ∀ z, ∀ x ∈ VL z, x.1 < 8 := fun z => by rw [hVL]; exact ltB_ok rfl
     have HOK := Lib.hid hok
     have HVI := Lib.hid hvi
     clear hVL hok hvi
     refine (wpIn_wide (n := 9)).1 (regionIn_many (N := 172) (w := _) VL (fun L z w' => (bif L 6 then (Below W6.heap.size W6 w' ∧ z.2.1.length ≤ 13000000 ∧ OL (geo (rx0, ry0, rx1, ry1) (cs.map fun c => (c.dx, c.dy)) LV PR) LY o z.2.1 ∧ KeyR w' z.1 z.2.1) else Below W6.heap.size W6 w')) [(5, .pointer (some ⟨bm, 0, none⟩)), (6, .pointer (some ⟨bm + 1, 0, none⟩)), (7, .slice (some ⟨tg, tq, none⟩) tn TC), (8, .int .i64 (i : Int))] (by kernel_rfl) (by kernel_rfl) rfl (by simp only [List.forall_mem_cons, List.not_mem_nil, false_imp_iff, implies_true, and_true]; exact ⟨rfl, rfl, rfl, rfl⟩) HVI.out (none, [], 0) ?start ?step ?fin)
     case start => exact HBa.out.drew
     case step =>
       intro gg_ hgN hgF ii_ hii_ L z w' hph hs hu
       have hF5 := hgF (5, .pointer (some ⟨bm, 0, none⟩)) (by simp)
       have hF6 := hgF (6, .pointer (some ⟨bm + 1, 0, none⟩)) (by simp)
       have hF7 := hgF (7, .slice (some ⟨tg, tq, none⟩) tn TC) (by simp)
       have hF8 := hgF (8, .int .i64 (i : Int)) (by simp)
       have hL := hu.1
       have hii_ : ii_ < 8 := hii_
       clear hgF
       obtain rfl | rfl | rfl | rfl | rfl | rfl | rfl | rfl := (by omega : ii_ = 0 ∨ ii_ = 1 ∨ ii_ = 2 ∨ ii_ = 3 ∨ ii_ = 4 ∨ ii_ = 5 ∨ ii_ = 6 ∨ ii_ = 7)
       · skip
         have n6 : L 6 = false := not_yet hL fun h => shut_at hs 2 0 (by kernel_rfl) (shut_at hs 3 2 (by kernel_rfl) (shut_at hs 6 3 (by kernel_rfl) (h)))
         have n7 : L 7 = false := not_yet hL fun h => shut_at hs 7 0 (by kernel_rfl) (h)
         try simp only [n6, n7, hL, cond_true, cond_false] at hph
         have e7 : (many gg_ L (VL z))[7]?.getD undef = .slice (some ⟨tg, tq, none⟩) tn TC := many_out3 hgN (HOK.out z) (by rw [HVL.out]; rfl) hF7
         refine opIn_run (v := .slice (some ⟨tg, tq, none⟩) tn TC) (w' := w') rfl rfl (fun c h => by cases h) (fun _ => trivial) ?_ ⟨z, by exact many_put3 (HOK.out _) (by rw [HVL.out]; rfl) hL, by simp only [upd, n6, n7, hL, Nat.reduceBEq, cond_true, cond_false]; exact hph⟩
         go_simp
       · skip
         have n6 : L 6 = false := not_yet hL fun h => shut_at hs 2 1 (by kernel_rfl) (shut_at hs 3 2 (by kernel_rfl) (shut_at hs 6 3 (by kernel_rfl) (h)))
         have n7 : L 7 = false := not_yet hL fun h => shut_at hs 7 1 (by kernel_rfl) (h)
         try simp only [n6, n7, hL, cond_true, cond_false] at hph
         have e8 : (many gg_ L (VL z))[8]?.getD undef = .int .i64 (i : Int) := many_out3 hgN (HOK.out z) (by rw [HVL.out]; rfl) hF8
         refine opIn_run (v := .int .i64 (i : Int)) (w' := w') rfl rfl (fun c h => by cases h) (fun _ => trivial) ?_ ⟨z, by exact many_put3 (HOK.out _) (by rw [HVL.out]; rfl) hL, by simp only [upd, n6, n7, hL, Nat.reduceBEq, cond_true, cond_false]; exact hph⟩
         go_simp
       · skip
         have y0 : L 0 = true := up_at hu 0 (by kernel_rfl)
         have y1 : L 1 = true := up_at hu 1 (by kernel_rfl)
         have n6 : L 6 = false := not_yet hL fun h => shut_at hs 3 2 (by kernel_rfl) (shut_at hs 6 3 (by kernel_rfl) (h))
         have n7 : L 7 = false := not_yet hL fun h => shut_at hs 7 2 (by kernel_rfl) (h)
         try simp only [y0, y1, n6, n7, hL, cond_true, cond_false] at hph
         have e38 : (many gg_ L (VL z))[38]?.getD undef = .slice (some ⟨tg, tq, none⟩) tn TC := many_eval3 hgN (HOK.out z) (by rw [HVL.out]; rfl) y0
         have e39 : (many gg_ L (VL z))[39]?.getD undef = .int .i64 (i : Int) := many_eval3 hgN (HOK.out z) (by rw [HVL.out]; rfl) y1
         refine opIn_run (v := .pointer (some ⟨tg, tq + i * 4, none⟩)) (w' := w') rfl rfl (fun c h => by cases h) (fun _ => trivial) ?_ ⟨z, by exact many_put3 (HOK.out _) (by rw [HVL.out]; rfl) hL, by simp only [upd, y0, y1, n6, n7, hL, Nat.reduceBEq, cond_true, cond_false]; exact hph⟩
         have hj0 : ¬ (i : Int) < 0 := by omega
         go_simp
       · skip
         have y2 : L 2 = true := up_at hu 2 (by kernel_rfl)
         have n6 : L 6 = false := not_yet hL fun h => shut_at hs 6 3 (by kernel_rfl) (h)
         have n7 : L 7 = false := not_yet hL fun h => shut_at hs 7 3 (by kernel_rfl) (h)
         try simp only [y2, n6, n7, hL, cond_true, cond_false] at hph
         have g0 := (hph.cell (p := ⟨tg, tq + i * 4, none⟩) HT.out.1).trans HT.out.2.1
         have g1 := (hph.cell (p := ⟨tg, tq + i * 4 + 1, none⟩) HT.out.1).trans HT.out.2.2.1
         have g2 := (hph.cell (p := ⟨tg, tq + i * 4 + 2, none⟩) HT.out.1).trans HT.out.2.2.2.1
         have g3 := (hph.cell (p := ⟨tg, tq + i * 4 + 3, none⟩) HT.out.1).trans HT.out.2.2.2.2
         have e40 : (many gg_ L (VL z))[40]?.getD undef = .pointer (some ⟨tg, tq + i * 4, none⟩) := many_eval3 hgN (HOK.out z) (by rw [HVL.out]; rfl) y2
         refine opIn_run (v := .agg #[.int .i64 rx0, .int .i64 ry0, .int .i64 rx1, .int .i64 ry1]) (w' := w') rfl rfl (fun c h => by cases h) (fun _ => trivial) ?_ ⟨z, by exact many_put3 (HOK.out _) (by rw [HVL.out]; rfl) hL, by simp only [upd, y2, n6, n7, hL, Nat.reduceBEq, cond_true, cond_false]; exact hph⟩
         go_simp
       · skip
         have n6 : L 6 = false := not_yet hL fun h => shut_at hs 6 4 (by kernel_rfl) (h)
         have n7 : L 7 = false := not_yet hL fun h => shut_at hs 7 4 (by kernel_rfl) (h)
         try simp only [n6, n7, hL, cond_true, cond_false] at hph
         have HM6k := HM6.out.keep hph
         have i0' : w'.cell? ⟨bm, 0, none⟩ = some (.int .i64 X) := blk_cell (show w'.heap[bm]? = _ from HM6k.b 0 _ rfl) 0
         have i1' : w'.cell? ⟨bm, 1, none⟩ = some (.int .i64 Y) := blk_cell (show w'.heap[bm]? = _ from HM6k.b 0 _ rfl) 1
         have i2' : w'.cell? ⟨bm, 2, none⟩ = some (.int .i64 OX) := blk_cell (show w'.heap[bm]? = _ from HM6k.b 0 _ rfl) 2
         have i3' : w'.cell? ⟨bm, 3, none⟩ = some (.int .i64 OY) := blk_cell (show w'.heap[bm]? = _ from HM6k.b 0 _ rfl) 3
         have i4' : w'.cell? ⟨bm, 4, none⟩ = some (.slice A2 N C2) := blk_cell (show w'.heap[bm]? = _ from HM6k.b 0 _ rfl) 4
         have e5 : (many gg_ L (VL z))[5]?.getD undef = .pointer (some ⟨bm, 0, none⟩) := many_out3 hgN (HOK.out z) (by rw [HVL.out]; rfl) hF5
         refine opIn_run (v := .agg #[.int .i64 X, .int .i64 Y, .int .i64 OX, .int .i64 OY, .slice A2 N C2]) (w' := w') rfl rfl (fun c h => by cases h) (fun _ => trivial) ?_ ⟨z, by exact many_put3 (HOK.out _) (by rw [HVL.out]; rfl) hL, by simp only [upd, n6, n7, hL, Nat.reduceBEq, cond_true, cond_false]; exact hph⟩
         go_simp
       · skip
         have n6 : L 6 = false := not_yet hL fun h => shut_at hs 6 5 (by kernel_rfl) (h)
         have n7 : L 7 = false := not_yet hL fun h => shut_at hs 7 5 (by kernel_rfl) (h)
         try simp only [n6, n7, hL, cond_true, cond_false] at hph
         have HM6k := HM6.out.keep hph
         have j0' : w'.cell? ⟨bm + 1, 0, none⟩ = some (.int .i64 TX) := blk_cell (HM6k.b 1 _ rfl) 0
         have j1' : w'.cell? ⟨bm + 1, 1, none⟩ = some (.int .i64 TY) := blk_cell (HM6k.b 1 _ rfl) 1
         have j2' : w'.cell? ⟨bm + 1, 2, none⟩ = some (.int .i64 (LV : Int)) := blk_cell (HM6k.b 1 _ rfl) 2
         have j3' : w'.cell? ⟨bm + 1, 3, none⟩ = some (.int .i64 (BW : Int)) := blk_cell (HM6k.b 1 _ rfl) 3
         have j4' : w'.cell? ⟨bm + 1, 4, none⟩ = some (.int .i64 (BH : Int)) := blk_cell (HM6k.b 1 _ rfl) 4
         have j5' : w'.cell? ⟨bm + 1, 5, none⟩ = some (.int .i64 (PR : Int)) := blk_cell (HM6k.b 1 _ rfl) 5
         have j6' : w'.cell? ⟨bm + 1, 6, none⟩ = some (.int .i64 ST) := blk_cell (HM6k.b 1 _ rfl) 6
         have j7' : w'.cell? ⟨bm + 1, 7, none⟩ = some (.int .i64 (o : Int)) := blk_cell (HM6k.b 1 _ rfl) 7
         have j8' : w'.cell? ⟨bm + 1, 8, none⟩ = some (.int .i64 (LY : Int)) := blk_cell (HM6k.b 1 _ rfl) 8
         have j9' : w'.cell? ⟨bm + 1, 9, none⟩ = some (.bool RC) := blk_cell (HM6k.b 1 _ rfl) 9
         have j10' : w'.cell? ⟨bm + 1, 10, none⟩ = some (.bool SO) := blk_cell (HM6k.b 1 _ rfl) 10
         have j11' : w'.cell? ⟨bm + 1, 11, none⟩ = some (.bool EP) := blk_cell (HM6k.b 1 _ rfl) 11
         have e6 : (many gg_ L (VL z))[6]?.getD undef = .pointer (some ⟨bm + 1, 0, none⟩) := many_out3 hgN (HOK.out z) (by rw [HVL.out]; rfl) hF6
         refine opIn_run (v := .agg #[.int .i64 TX, .int .i64 TY, .int .i64 (LV : Int), .int .i64 (BW : Int), .int .i64 (BH : Int), .int .i64 (PR : Int), .int .i64 ST, .int .i64 (o : Int), .int .i64 (LY : Int), .bool RC, .bool SO, .bool EP]) (w' := w') rfl rfl (fun c h => by cases h) (fun _ => trivial) ?_ ⟨z, by exact many_put3 (HOK.out _) (by rw [HVL.out]; rfl) hL, by simp only [upd, n6, n7, hL, Nat.reduceBEq, cond_true, cond_false]; exact hph⟩
         go_simp
       · skip
         have y3 : L 3 = true := up_at hu 3 (by kernel_rfl)
         have y4 : L 4 = true := up_at hu 4 (by kernel_rfl)
         have y5 : L 5 = true := up_at hu 5 (by kernel_rfl)
         have n7 : L 7 = false := not_yet hL fun h => shut_at hs 7 6 (by kernel_rfl) (h)
         try simp only [y3, y4, y5, n7, hL, cond_true, cond_false] at hph
         have e41 : (many gg_ L (VL z))[41]?.getD undef = .agg #[.int .i64 rx0, .int .i64 ry0, .int .i64 rx1, .int .i64 ry1] := many_eval3 hgN (HOK.out z) (by rw [HVL.out]; rfl) y3
         have e42 : (many gg_ L (VL z))[42]?.getD undef = .agg #[.int .i64 X, .int .i64 Y, .int .i64 OX, .int .i64 OY, .slice A2 N C2] := many_eval3 hgN (HOK.out z) (by rw [HVL.out]; rfl) y4
         have e43 : (many gg_ L (VL z))[43]?.getD undef = .agg #[.int .i64 TX, .int .i64 TY, .int .i64 (LV : Int), .int .i64 (BW : Int), .int .i64 (BH : Int), .int .i64 (PR : Int), .int .i64 ST, .int .i64 (o : Int), .int .i64 (LY : Int), .bool RC, .bool SO, .bool EP] := many_eval3 hgN (HOK.out z) (by rw [HVL.out]; rfl) y5
         refine opIn_call (f := 13) (args := #[.agg #[.int .i64 rx0, .int .i64 ry0, .int .i64 rx1, .int .i64 ry1], .agg #[.int .i64 X, .int .i64 Y, .int .i64 OX, .int .i64 OY, .slice A2 N C2], .agg #[.int .i64 TX, .int .i64 TY, .int .i64 (LV : Int), .int .i64 (BW : Int), .int .i64 (BH : Int), .int .i64 (PR : Int), .int .i64 ST, .int .i64 (o : Int), .int .i64 (LY : Int), .bool RC, .bool SO, .bool EP]]) (w' := w') rfl rfl (fun c h => by cases h) (fun _ => trivial) rfl (by go_simp) ((callsIn_wide.2 (LC.out w' hph)).mono ?_)
         rintro e w2 ⟨M_, A_, m_, c_, rfl, rfl, hm_, hOL_, hK_, hb⟩
         exact ⟨_, rfl, (A_, M_, c_), by rw [show many gg_ L (VL z) = many gg_ L (VL (A_, M_, c_)) from by rw [HVL.out]; simp only [many, y3, y4, y5, n7, hL, cond_false, cond_true]]; exact many_put3 (HOK.out _) (by rw [HVL.out]; rfl) hL, by simp only [upd, y3, y4, y5, n7, hL, Nat.reduceBEq, cond_true, cond_false]; exact ⟨hph.trans (hb.mono hph.size), hm_, hOL_, hK_⟩⟩
       · skip
         have y0 : L 0 = true := up_at hu 0 (by kernel_rfl)
         have y1 : L 1 = true := up_at hu 1 (by kernel_rfl)
         have y2 : L 2 = true := up_at hu 2 (by kernel_rfl)
         have y3 : L 3 = true := up_at hu 3 (by kernel_rfl)
         have y4 : L 4 = true := up_at hu 4 (by kernel_rfl)
         have y5 : L 5 = true := up_at hu 5 (by kernel_rfl)
         have y6 : L 6 = true := up_at hu 6 (by kernel_rfl)
         try simp only [y0, y1, y2, y3, y4, y5, y6, hL, cond_true, cond_false] at hph
         have e44 : (many gg_ L (VL z))[44]?.getD undef = .slice z.1 z.2.1.length z.2.2 := many_eval3 hgN (HOK.out z) (by rw [HVL.out]; rfl) y6
         refine opIn_run (v := .slice z.1 z.2.1.length z.2.2) (w' := w') rfl rfl (fun c h => by cases h) (fun _ => trivial) ?_ ⟨z, by exact many_put3 (HOK.out _) (by rw [HVL.out]; rfl) hL, by simp only [upd, y0, y1, y2, y3, y4, y5, y6, hL, Nat.reduceBEq, cond_true, cond_false]; exact hph⟩
         go_simp
     case fin =>
       intro L z w' hall hph
       have l6 := hall 6 (by decide)
       simp only [l6, cond_true] at hph
       clear l6
       rw [HVL.out]
       dsimp only [manyL, List.set_cons_zero, List.set_cons_succ]
       clear hall HVL HOK HVI
       obtain ⟨KA, M, KC⟩ := z
       simp only at hph
       obtain ⟨hbl, hM13, hOL, hKR⟩ := hph
       obtain ⟨W7, hW7⟩ : ∃ W, W = w' := ⟨_, rfl⟩
       subst hW7
       have HM7 := Lib.hid (HM6.out.keep hbl)
       have HB7 := Lib.hid hbl
       have HOL := Lib.hid hOL
       have HKR := Lib.hid hKR
       obtain ⟨m, hm⟩ : ∃ m, M.length = m := ⟨_, rfl⟩
       rw [hm] at hM13 ⊢
       have HML := Lib.hid hm
       clear hbl hOL hKR hm LC HBa
       go_wp2_with fail
       obtain ⟨G, hG⟩ : ∃ G, geo (rx0, ry0, rx1, ry1) (cs.map fun c => (c.dx, c.dy)) LV PR = G := ⟨_, rfl⟩
       rw [hG] at HOL
       have HGe := Lib.hid hG
       have HG : Hid (G.nc = N ∧ G.lv = LV ∧ m = cntC G N * LY) := Lib.hid (by
         have h1 : G.nc = N := by rw [← hG]; show (cs.map fun c => (c.dx, c.dy)).length = N; rw [List.length_map]; exact HCL.out
         refine ⟨h1, by rw [← hG]; rfl, ?_⟩
         have h := HOL.out.length
         rw [HML.out, cntC_all, h1] at h
         exact h)
       clear hG
       go_loopg [10, 11] N (fun g a v wr => ∃ c : Nat, c + g = N ∧ a = .int .i64 ((cntC G c * LY : Nat) : Int) ∧ v = .int .i64 (c : Int) ∧ Hid (Below W6.heap.size W6 wr ∧ Below W7.heap.size W7 wr))
       case atStart => exact ⟨0, by omega, by simp [cntC], rfl, Lib.hid ⟨HB7.out, Below.refl _ _⟩⟩
       case round =>
        obtain ⟨c, hcg, rfl, rfl, HBcc⟩ := hrel
        obtain ⟨wc, hwc⟩ : ∃ wa, wa = wr := ⟨wr, rfl⟩
        subst hwc
        have HBc := Lib.hid HBcc.out.1
        have HMc := Lib.hid (HM6.out.keep HBc.out)
        have i4' : wc.cell? ⟨bm, 4, none⟩ = some (.slice A2 N C2) := blk_cell (show wc.heap[bm]? = _ from HMc.out.b 0 _ rfl) 4
        obtain ⟨sc, hsc⟩ : ∃ n, cntC G c * LY = n := ⟨_, rfl⟩
        rw [hsc]
        have HSC := Lib.hid hsc
        clear hsc
        by_cases hcN : c < N
        · obtain ⟨g1, rfl⟩ : ∃ g0, gk = g0 + 1 := ⟨gk - 1, by omega⟩
          have hcI : (c : Int) < (N : Int) := by omega
          have hc0 : ¬ (c : Int) < 0 := by omega
          obtain ⟨x, hx⟩ : ∃ x, cs[c]? = some x := ⟨_, List.getElem?_eq_getElem (by rw [HCL.out]; exact hcN)⟩
          have hdx := HKY.out c x hx
          have hda : dAt (cs.map fun c => (c.dx, c.dy)) c = (x.dx, x.dy) := by simp [dAt, List.getD, hx]
          have hBw2 : Below w2.heap.size w2 W6 := HM6.out.bel.mono (by rw [HBM.out]; omega)
          obtain ⟨cg, cap, hV, hg, hgl, _, _, _, _, u2, u3, _⟩ := CRow.cells HCR.out hx
          rw [HCL.out] at hV
          injection hV with hA hn hC
          subst hA hC
          have HX : Hid (cg < W6.heap.size ∧ W6.cell? ⟨cg, c * 5 + 2, none⟩ = some (.int .i64 x.dx) ∧ W6.cell? ⟨cg, c * 5 + 3, none⟩ = some (.int .i64 x.dy)) := Lib.hid ⟨Nat.lt_of_lt_of_le hgl hBw2.size, (hBw2.cell (p := ⟨cg, _, none⟩) hgl).trans u2, (hBw2.cell (p := ⟨cg, _, none⟩) hgl).trans u3⟩
          obtain ⟨dx, hdxe⟩ : ∃ d, x.dx = d := ⟨_, rfl⟩
          obtain ⟨dy, hdye⟩ : ∃ d, x.dy = d := ⟨_, rfl⟩
          rw [hdxe, hdye] at HX hdx hda
          have HDA := Lib.hid hda
          have P0 := ptF_in (t := (rx0, ry0, rx1, ry1)) (d := (dx, dy)) HRI.out.1 (by simp only; omega) (by simp only; omega)
          have PO' := ptF_ord (t := (rx0, ry0, rx1, ry1)) (d := (dx, dy)) HRI.out.2 (by simp only; omega) (by simp only; omega)
          have hPf : ptF (rx0, ry0, rx1, ry1) (dx, dy) = (ceilF rx0 dx, ceilF ry0 dy, ceilF rx1 dx, ceilF ry1 dy) := rfl
          have hri := HRI.out.1
          have PT1 : Hid (∀ u, Calls Try.prog 16 #[.agg #[.int .i64 rx0, .int .i64 ry0, .int .i64 rx1, .int .i64 ry1], .int .i64 dx, .int .i64 dy] u fun e w' => e = .returned (.agg #[.int .i64 (ceilF rx0 dx), .int .i64 (ceilF ry0 dy), .int .i64 (ceilF rx1 dx), .int .i64 (ceilF ry1 dy)]) ∧ Below u.heap.size u w') := Lib.hid (fun u => rpart_any rx0 ry0 rx1 ry1 dx dy u (by omega) (by omega) (by have := hri.1; simp only at this; omega) (by have := hri.2.1; simp only at this; omega) (by have := hri.2.2.1; simp only at this; omega) (by have := hri.2.2.2; simp only at this; omega))
          obtain ⟨z0, hz0⟩ : ∃ z, ceilF rx0 dx = z := ⟨_, rfl⟩
          obtain ⟨z1, hz1⟩ : ∃ z, ceilF ry0 dy = z := ⟨_, rfl⟩
          obtain ⟨z2, hz2⟩ : ∃ z, ceilF rx1 dx = z := ⟨_, rfl⟩
          obtain ⟨z3, hz3⟩ : ∃ z, ceilF ry1 dy = z := ⟨_, rfl⟩
          rw [hz0, hz1, hz2, hz3] at PT1 hPf
          rw [hPf] at P0 PO'
          have HPF := Lib.hid (show _ ∧ _ ∧ _ from ⟨hPf, P0, PO'⟩)
          clear hx hdxe hdye hda hBw2 hg hgl hn u2 u3 hz0 hz1 hz2 hz3 hPf P0 PO' hri
          go_wp2_with fail
          obtain ⟨VLq, hVL⟩ : ∃ VL : Nat → List (Nat × Nat × Value), VL = fun z => [(0, 52, .slice (some ⟨tg, tq, none⟩) tn TC), (1, 53, .int .i64 (i : Int)), (2, 54, .pointer (some ⟨tg, tq + i * 4, none⟩)), (3, 55, .agg #[.int .i64 rx0, .int .i64 ry0, .int .i64 rx1, .int .i64 ry1]), (4, 56, .pointer (some ⟨bm, 4, none⟩)), (5, 57, .slice (some ⟨cg, 0, none⟩) N C2), (6, 58, .int .i64 (c : Int)), (7, 59, .pointer (some ⟨cg, c * 5, none⟩)), (8, 60, .pointer (some ⟨cg, c * 5 + 2, none⟩)), (9, 61, .int .i64 dx), (10, 62, .pointer (some ⟨bm, 4, none⟩)), (11, 63, .slice (some ⟨cg, 0, none⟩) N C2), (12, 64, .int .i64 (c : Int)), (13, 65, .pointer (some ⟨cg, c * 5, none⟩)), (14, 66, .pointer (some ⟨cg, c * 5 + 3, none⟩)), (15, 67, .int .i64 dy), (16, 68, .agg #[.int .i64 z0, .int .i64 z1, .int .i64 z2, .int .i64 z3]), (17, 12, .pointer (some ⟨z, 0, none⟩))] := ⟨_, rfl⟩
          have hok : ∀ z, manyOk 172 (VLq z) := fun z => by rw [hVL]; exact okB_ok rfl
          have HVLq := Lib.hid hVL
          have hvi : ∀ z, ∀ x ∈ VLq z, x.1 < 19 := fun z => by rw [hVL]; exact ltB_ok rfl
          have HOKq := Lib.hid hok
          have HVIq := Lib.hid hvi
          clear hVL hok hvi
          refine (wpIn_wide (n := 9)).1 (regionIn_many (N := 172) (w := _) VLq (fun L z w' => (Below wc.heap.size wc w' ∧ (L 17 = true → wc.heap.size ≤ z ∧ w'.heap[z]? = some (.cells (bif L 18 then #[.int .i64 z0, .int .i64 z1, .int .i64 z2, .int .i64 z3] else #[.int .i64 0, .int .i64 0, .int .i64 0, .int .i64 0]) 38 (0, 0)))) ∧ True) [(5, .pointer (some ⟨bm, 0, none⟩)), (7, .slice (some ⟨tg, tq, none⟩) tn TC), (8, .int .i64 (i : Int)), (11, .int .i64 (c : Int))] (by kernel_rfl) (by kernel_rfl) rfl (by simp only [List.forall_mem_cons, List.not_mem_nil, false_imp_iff, implies_true, and_true]; exact ⟨rfl, rfl, rfl, rfl⟩) HVIq.out 0 ?startq ?stepq ?finq)
          case startq => exact ⟨⟨(Below.refl _ _).drew, fun h => (by cases h)⟩, trivial⟩
          case stepq =>
            intro gg_ hgN hgF ii_ hii_ L z w' hph hs hu
            obtain ⟨hcm, hph⟩ := hph
            have hF5 := hgF (5, .pointer (some ⟨bm, 0, none⟩)) (by simp)
            have hF7 := hgF (7, .slice (some ⟨tg, tq, none⟩) tn TC) (by simp)
            have hF8 := hgF (8, .int .i64 (i : Int)) (by simp)
            have hF11 := hgF (11, .int .i64 (c : Int)) (by simp)
            have hL := hu.1
            have hii_ : ii_ < 19 := hii_
            clear hgF
            obtain rfl | rfl | rfl | rfl | rfl | rfl | rfl | rfl | rfl | rfl | rfl | rfl | rfl | rfl | rfl | rfl | rfl | rfl | rfl := (by omega : ii_ = 0 ∨ ii_ = 1 ∨ ii_ = 2 ∨ ii_ = 3 ∨ ii_ = 4 ∨ ii_ = 5 ∨ ii_ = 6 ∨ ii_ = 7 ∨ ii_ = 8 ∨ ii_ = 9 ∨ ii_ = 10 ∨ ii_ = 11 ∨ ii_ = 12 ∨ ii_ = 13 ∨ ii_ = 14 ∨ ii_ = 15 ∨ ii_ = 16 ∨ ii_ = 17 ∨ ii_ = 18)
            · skip
              have n18 : L 18 = false := not_yet hL fun h => shut_at hs 18 0 (by kernel_rfl) (h)
              have e7 : (many gg_ L (VLq z))[7]?.getD undef = .slice (some ⟨tg, tq, none⟩) tn TC := many_out3 hgN (HOKq.out z) (by rw [HVLq.out]; rfl) hF7
              refine opIn_run (v := .slice (some ⟨tg, tq, none⟩) tn TC) (w' := w') rfl rfl (fun c h => by cases h) (fun _ => trivial) ?_ ⟨z, by exact many_put3 (HOKq.out _) (by rw [HVLq.out]; rfl) hL, hcm, hph⟩
              go_simp
            · skip
              have n18 : L 18 = false := not_yet hL fun h => shut_at hs 18 1 (by kernel_rfl) (h)
              have e8 : (many gg_ L (VLq z))[8]?.getD undef = .int .i64 (i : Int) := many_out3 hgN (HOKq.out z) (by rw [HVLq.out]; rfl) hF8
              refine opIn_run (v := .int .i64 (i : Int)) (w' := w') rfl rfl (fun c h => by cases h) (fun _ => trivial) ?_ ⟨z, by exact many_put3 (HOKq.out _) (by rw [HVLq.out]; rfl) hL, hcm, hph⟩
              go_simp
            · skip
              have y0 : L 0 = true := up_at hu 0 (by kernel_rfl)
              have y1 : L 1 = true := up_at hu 1 (by kernel_rfl)
              have n18 : L 18 = false := not_yet hL fun h => shut_at hs 18 2 (by kernel_rfl) (h)
              have e52 : (many gg_ L (VLq z))[52]?.getD undef = .slice (some ⟨tg, tq, none⟩) tn TC := many_eval3 hgN (HOKq.out z) (by rw [HVLq.out]; rfl) y0
              have e53 : (many gg_ L (VLq z))[53]?.getD undef = .int .i64 (i : Int) := many_eval3 hgN (HOKq.out z) (by rw [HVLq.out]; rfl) y1
              refine opIn_run (v := .pointer (some ⟨tg, tq + i * 4, none⟩)) (w' := w') rfl rfl (fun c h => by cases h) (fun _ => trivial) ?_ ⟨z, by exact many_put3 (HOKq.out _) (by rw [HVLq.out]; rfl) hL, hcm, trivial⟩
              have hj0 : ¬ (i : Int) < 0 := by omega
              go_simp
            · skip
              have y2 : L 2 = true := up_at hu 2 (by kernel_rfl)
              have n18 : L 18 = false := not_yet hL fun h => shut_at hs 18 3 (by kernel_rfl) (h)
              have hh := HBc.out.trans (hcm.1.mono HBc.out.size)
              have g0 := (hh.cell (p := ⟨tg, tq + i * 4, none⟩) HT.out.1).trans HT.out.2.1
              have g1 := (hh.cell (p := ⟨tg, tq + i * 4 + 1, none⟩) HT.out.1).trans HT.out.2.2.1
              have g2 := (hh.cell (p := ⟨tg, tq + i * 4 + 2, none⟩) HT.out.1).trans HT.out.2.2.2.1
              have g3 := (hh.cell (p := ⟨tg, tq + i * 4 + 3, none⟩) HT.out.1).trans HT.out.2.2.2.2
              have e54 : (many gg_ L (VLq z))[54]?.getD undef = .pointer (some ⟨tg, tq + i * 4, none⟩) := many_eval3 hgN (HOKq.out z) (by rw [HVLq.out]; rfl) y2
              refine opIn_run (v := .agg #[.int .i64 rx0, .int .i64 ry0, .int .i64 rx1, .int .i64 ry1]) (w' := w') rfl rfl (fun c h => by cases h) (fun _ => trivial) ?_ ⟨z, by exact many_put3 (HOKq.out _) (by rw [HVLq.out]; rfl) hL, hcm, hph⟩
              go_simp
            · skip
              have n18 : L 18 = false := not_yet hL fun h => shut_at hs 18 4 (by kernel_rfl) (h)
              have e5 : (many gg_ L (VLq z))[5]?.getD undef = .pointer (some ⟨bm, 0, none⟩) := many_out3 hgN (HOKq.out z) (by rw [HVLq.out]; rfl) hF5
              refine opIn_run (v := .pointer (some ⟨bm, 4, none⟩)) (w' := w') rfl rfl (fun c h => by cases h) (fun _ => trivial) ?_ ⟨z, by exact many_put3 (HOKq.out _) (by rw [HVLq.out]; rfl) hL, hcm, hph⟩
              go_simp
            · skip
              have y4 : L 4 = true := up_at hu 4 (by kernel_rfl)
              have n18 : L 18 = false := not_yet hL fun h => shut_at hs 18 5 (by kernel_rfl) (h)
              have hcell : w'.cell? ⟨bm, 4, none⟩ = some (.slice (some ⟨cg, 0, none⟩) N C2) := blk_cell (show w'.heap[bm]? = _ from (HM6.out.keep (HBc.out.trans (hcm.1.mono HBc.out.size))).b 0 _ rfl) 4
              have e56 : (many gg_ L (VLq z))[56]?.getD undef = .pointer (some ⟨bm, 4, none⟩) := many_eval3 hgN (HOKq.out z) (by rw [HVLq.out]; rfl) y4
              refine opIn_run (v := .slice (some ⟨cg, 0, none⟩) N C2) (w' := w') rfl rfl (fun c h => by cases h) (fun _ => trivial) ?_ ⟨z, by exact many_put3 (HOKq.out _) (by rw [HVLq.out]; rfl) hL, hcm, hph⟩
              go_simp
            · skip
              have n18 : L 18 = false := not_yet hL fun h => shut_at hs 18 6 (by kernel_rfl) (h)
              have e11 : (many gg_ L (VLq z))[11]?.getD undef = .int .i64 (c : Int) := many_out3 hgN (HOKq.out z) (by rw [HVLq.out]; rfl) hF11
              refine opIn_run (v := .int .i64 (c : Int)) (w' := w') rfl rfl (fun c h => by cases h) (fun _ => trivial) ?_ ⟨z, by exact many_put3 (HOKq.out _) (by rw [HVLq.out]; rfl) hL, hcm, hph⟩
              go_simp
            · skip
              have y5 : L 5 = true := up_at hu 5 (by kernel_rfl)
              have y6 : L 6 = true := up_at hu 6 (by kernel_rfl)
              have n18 : L 18 = false := not_yet hL fun h => shut_at hs 18 7 (by kernel_rfl) (h)
              have e57 : (many gg_ L (VLq z))[57]?.getD undef = .slice (some ⟨cg, 0, none⟩) N C2 := many_eval3 hgN (HOKq.out z) (by rw [HVLq.out]; rfl) y5
              have e58 : (many gg_ L (VLq z))[58]?.getD undef = .int .i64 (c : Int) := many_eval3 hgN (HOKq.out z) (by rw [HVLq.out]; rfl) y6
              refine opIn_run (v := .pointer (some ⟨cg, c * 5, none⟩)) (w' := w') rfl rfl (fun c h => by cases h) (fun _ => trivial) ?_ ⟨z, by exact many_put3 (HOKq.out _) (by rw [HVLq.out]; rfl) hL, hcm, hph⟩
              go_simp
            · skip
              have y7 : L 7 = true := up_at hu 7 (by kernel_rfl)
              have n18 : L 18 = false := not_yet hL fun h => shut_at hs 18 8 (by kernel_rfl) (h)
              have e59 : (many gg_ L (VLq z))[59]?.getD undef = .pointer (some ⟨cg, c * 5, none⟩) := many_eval3 hgN (HOKq.out z) (by rw [HVLq.out]; rfl) y7
              refine opIn_run (v := .pointer (some ⟨cg, c * 5 + 2, none⟩)) (w' := w') rfl rfl (fun c h => by cases h) (fun _ => trivial) ?_ ⟨z, by exact many_put3 (HOKq.out _) (by rw [HVLq.out]; rfl) hL, hcm, hph⟩
              go_simp
            · skip
              have y8 : L 8 = true := up_at hu 8 (by kernel_rfl)
              have n18 : L 18 = false := not_yet hL fun h => shut_at hs 18 9 (by kernel_rfl) (h)
              have hcell : w'.cell? ⟨cg, c * 5 + 2, none⟩ = some (.int .i64 dx) := ((HBc.out.trans (hcm.1.mono HBc.out.size)).cell (p := ⟨cg, c * 5 + 2, none⟩) HX.out.1).trans HX.out.2.1
              have e60 : (many gg_ L (VLq z))[60]?.getD undef = .pointer (some ⟨cg, c * 5 + 2, none⟩) := many_eval3 hgN (HOKq.out z) (by rw [HVLq.out]; rfl) y8
              refine opIn_run (v := .int .i64 dx) (w' := w') rfl rfl (fun c h => by cases h) (fun _ => trivial) ?_ ⟨z, by exact many_put3 (HOKq.out _) (by rw [HVLq.out]; rfl) hL, hcm, hph⟩
              go_simp
            · skip
              have n18 : L 18 = false := not_yet hL fun h => shut_at hs 18 10 (by kernel_rfl) (h)
              have e5 : (many gg_ L (VLq z))[5]?.getD undef = .pointer (some ⟨bm, 0, none⟩) := many_out3 hgN (HOKq.out z) (by rw [HVLq.out]; rfl) hF5
              refine opIn_run (v := .pointer (some ⟨bm, 4, none⟩)) (w' := w') rfl rfl (fun c h => by cases h) (fun _ => trivial) ?_ ⟨z, by exact many_put3 (HOKq.out _) (by rw [HVLq.out]; rfl) hL, hcm, hph⟩
              go_simp
            · skip
              have y10 : L 10 = true := up_at hu 10 (by kernel_rfl)
              have n18 : L 18 = false := not_yet hL fun h => shut_at hs 18 11 (by kernel_rfl) (h)
              have hcell : w'.cell? ⟨bm, 4, none⟩ = some (.slice (some ⟨cg, 0, none⟩) N C2) := blk_cell (show w'.heap[bm]? = _ from (HM6.out.keep (HBc.out.trans (hcm.1.mono HBc.out.size))).b 0 _ rfl) 4
              have e62 : (many gg_ L (VLq z))[62]?.getD undef = .pointer (some ⟨bm, 4, none⟩) := many_eval3 hgN (HOKq.out z) (by rw [HVLq.out]; rfl) y10
              refine opIn_run (v := .slice (some ⟨cg, 0, none⟩) N C2) (w' := w') rfl rfl (fun c h => by cases h) (fun _ => trivial) ?_ ⟨z, by exact many_put3 (HOKq.out _) (by rw [HVLq.out]; rfl) hL, hcm, hph⟩
              go_simp
            · skip
              have n18 : L 18 = false := not_yet hL fun h => shut_at hs 18 12 (by kernel_rfl) (h)
              have e11 : (many gg_ L (VLq z))[11]?.getD undef = .int .i64 (c : Int) := many_out3 hgN (HOKq.out z) (by rw [HVLq.out]; rfl) hF11
              refine opIn_run (v := .int .i64 (c : Int)) (w' := w') rfl rfl (fun c h => by cases h) (fun _ => trivial) ?_ ⟨z, by exact many_put3 (HOKq.out _) (by rw [HVLq.out]; rfl) hL, hcm, hph⟩
              go_simp
            · skip
              have y11 : L 11 = true := up_at hu 11 (by kernel_rfl)
              have y12 : L 12 = true := up_at hu 12 (by kernel_rfl)
              have n18 : L 18 = false := not_yet hL fun h => shut_at hs 18 13 (by kernel_rfl) (h)
              have e63 : (many gg_ L (VLq z))[63]?.getD undef = .slice (some ⟨cg, 0, none⟩) N C2 := many_eval3 hgN (HOKq.out z) (by rw [HVLq.out]; rfl) y11
              have e64 : (many gg_ L (VLq z))[64]?.getD undef = .int .i64 (c : Int) := many_eval3 hgN (HOKq.out z) (by rw [HVLq.out]; rfl) y12
              refine opIn_run (v := .pointer (some ⟨cg, c * 5, none⟩)) (w' := w') rfl rfl (fun c h => by cases h) (fun _ => trivial) ?_ ⟨z, by exact many_put3 (HOKq.out _) (by rw [HVLq.out]; rfl) hL, hcm, hph⟩
              go_simp
            · skip
              have y13 : L 13 = true := up_at hu 13 (by kernel_rfl)
              have n18 : L 18 = false := not_yet hL fun h => shut_at hs 18 14 (by kernel_rfl) (h)
              have e65 : (many gg_ L (VLq z))[65]?.getD undef = .pointer (some ⟨cg, c * 5, none⟩) := many_eval3 hgN (HOKq.out z) (by rw [HVLq.out]; rfl) y13
              refine opIn_run (v := .pointer (some ⟨cg, c * 5 + 3, none⟩)) (w' := w') rfl rfl (fun c h => by cases h) (fun _ => trivial) ?_ ⟨z, by exact many_put3 (HOKq.out _) (by rw [HVLq.out]; rfl) hL, hcm, hph⟩
              go_simp
            · skip
              have y14 : L 14 = true := up_at hu 14 (by kernel_rfl)
              have n18 : L 18 = false := not_yet hL fun h => shut_at hs 18 15 (by kernel_rfl) (h)
              have hcell : w'.cell? ⟨cg, c * 5 + 3, none⟩ = some (.int .i64 dy) := ((HBc.out.trans (hcm.1.mono HBc.out.size)).cell (p := ⟨cg, c * 5 + 3, none⟩) HX.out.1).trans HX.out.2.2
              have e66 : (many gg_ L (VLq z))[66]?.getD undef = .pointer (some ⟨cg, c * 5 + 3, none⟩) := many_eval3 hgN (HOKq.out z) (by rw [HVLq.out]; rfl) y14
              refine opIn_run (v := .int .i64 dy) (w' := w') rfl rfl (fun c h => by cases h) (fun _ => trivial) ?_ ⟨z, by exact many_put3 (HOKq.out _) (by rw [HVLq.out]; rfl) hL, hcm, hph⟩
              go_simp
            · skip
              have y3 : L 3 = true := up_at hu 3 (by kernel_rfl)
              have y9 : L 9 = true := up_at hu 9 (by kernel_rfl)
              have y15 : L 15 = true := up_at hu 15 (by kernel_rfl)
              have n18 : L 18 = false := not_yet hL fun h => shut_at hs 18 16 (by kernel_rfl) (h)
              have e55 : (many gg_ L (VLq z))[55]?.getD undef = .agg #[.int .i64 rx0, .int .i64 ry0, .int .i64 rx1, .int .i64 ry1] := many_eval3 hgN (HOKq.out z) (by rw [HVLq.out]; rfl) y3
              have e61 : (many gg_ L (VLq z))[61]?.getD undef = .int .i64 dx := many_eval3 hgN (HOKq.out z) (by rw [HVLq.out]; rfl) y9
              have e67 : (many gg_ L (VLq z))[67]?.getD undef = .int .i64 dy := many_eval3 hgN (HOKq.out z) (by rw [HVLq.out]; rfl) y15
              refine opIn_call (f := 16) (args := #[.agg #[.int .i64 rx0, .int .i64 ry0, .int .i64 rx1, .int .i64 ry1], .int .i64 dx, .int .i64 dy]) (w' := w') rfl rfl (fun c h => by cases h) (fun _ => trivial) rfl (by go_simp) ((callsIn_wide.2 (PT1.out w')).mono ?_)
              rintro e w2 ⟨rfl, hb⟩
              exact ⟨_, rfl, z, by exact many_put3 (HOKq.out _) (by rw [HVLq.out]; rfl) hL, ⟨hcm.1.trans (hb.mono hcm.1.size), fun h => ⟨(hcm.2 h).1, (hb.block _ (Array.getElem?_eq_some_iff.1 (hcm.2 h).2).1).trans (hcm.2 h).2⟩⟩, trivial⟩
            · skip
              have n18 : L 18 = false := not_yet hL fun h => shut_at hs 18 17 (by kernel_rfl) (h)
              refine opIn_run (v := (.pointer (some ⟨w'.heap.size, 0, none⟩))) (w' := w'.alloc (.cells #[.int .i64 0, .int .i64 0, .int .i64 0, .int .i64 0] 38)) rfl rfl (fun c h => by cases h) (fun _ => trivial) ?_ ⟨w'.heap.size, by rw [show many gg_ L (VLq z) = many gg_ L (VLq w'.heap.size) from by rw [HVLq.out]; simp only [many, n18, hL, cond_false, cond_true]]; exact many_put3 (HOKq.out _) (by rw [HVLq.out]; rfl) hL, ⟨hcm.1.alloc hcm.1.size _, fun _ => ⟨hcm.1.size, by simp only [upd, n18]; exact World.alloc_heap_new w' _⟩⟩, trivial⟩
              go_simp
            · skip
              have y0 : L 0 = true := up_at hu 0 (by kernel_rfl)
              have y1 : L 1 = true := up_at hu 1 (by kernel_rfl)
              have y2 : L 2 = true := up_at hu 2 (by kernel_rfl)
              have y3 : L 3 = true := up_at hu 3 (by kernel_rfl)
              have y4 : L 4 = true := up_at hu 4 (by kernel_rfl)
              have y5 : L 5 = true := up_at hu 5 (by kernel_rfl)
              have y6 : L 6 = true := up_at hu 6 (by kernel_rfl)
              have y7 : L 7 = true := up_at hu 7 (by kernel_rfl)
              have y8 : L 8 = true := up_at hu 8 (by kernel_rfl)
              have y9 : L 9 = true := up_at hu 9 (by kernel_rfl)
              have y10 : L 10 = true := up_at hu 10 (by kernel_rfl)
              have y11 : L 11 = true := up_at hu 11 (by kernel_rfl)
              have y12 : L 12 = true := up_at hu 12 (by kernel_rfl)
              have y13 : L 13 = true := up_at hu 13 (by kernel_rfl)
              have y14 : L 14 = true := up_at hu 14 (by kernel_rfl)
              have y15 : L 15 = true := up_at hu 15 (by kernel_rfl)
              have y16 : L 16 = true := up_at hu 16 (by kernel_rfl)
              have y17 : L 17 = true := up_at hu 17 (by kernel_rfl)
              have e12 : (many gg_ L (VLq z))[12]?.getD undef = .pointer (some ⟨z, 0, none⟩) := many_eval3 hgN (HOKq.out z) (by rw [HVLq.out]; rfl) y17
              have e68 : (many gg_ L (VLq z))[68]?.getD undef = .agg #[.int .i64 z0, .int .i64 z1, .int .i64 z2, .int .i64 z3] := many_eval3 hgN (HOKq.out z) (by rw [HVLq.out]; rfl) y16
              refine opIn_skip (w' := w'.setRow z #[.int .i64 z0, .int .i64 z1, .int .i64 z2, .int .i64 z3]) rfl rfl (fun c h => by cases h) (fun _ => trivial) ?_ ⟨z, by exact many_none 18 _ (by rw [HVLq.out]; simp), ⟨below_setRow hcm.1 (hcm.2 y17).1 _, fun _ => ⟨(hcm.2 y17).1, by simp only [upd_self, cond_true]; exact setRow_heap _ _ _ _ _ _ (hcm.2 y17).2⟩⟩, trivial⟩
              exact run_store_many e12 e68 (hcm.2 y17).2 (by kernel_rfl) (by cases L 18 <;> rfl) (by kernel_rfl)
          case finq =>
            intro L z w' hall hph
            obtain ⟨hcm, hph⟩ := hph
            have hk := hcm.2 (hall 17 (by decide))
            rw [hall 18 (by decide)] at hk
            simp only [cond_true] at hk
            rw [HVLq.out]
            dsimp only [manyL, List.set_cons_zero, List.set_cons_succ]
            clear hall HVLq HOKq HVIq
            obtain ⟨q10, hq10⟩ : ∃ q, q = z := ⟨z, rfl⟩
            subst hq10
            obtain ⟨Wb, hWb⟩ : ∃ W, W = w' := ⟨_, rfl⟩
            subst hWb
            have HBb : Hid (Below W6.heap.size W6 Wb ∧ Below W7.heap.size W7 Wb ∧ q10 < Wb.heap.size ∧ Wb.heap[q10]? = some (.cells #[.int .i64 z0, .int .i64 z1, .int .i64 z2, .int .i64 z3] 38 (0, 0))) := Lib.hid ⟨HBc.out.trans (hcm.1.mono HBc.out.size), HBcc.out.2.trans (hcm.1.mono HBcc.out.2.size), (Array.getElem?_eq_some_iff.1 hk.2).1, hk.2⟩
            clear hk hcm hph HMc HBc HBcc PT1 HX i4'
            have hwhr : ∀ r, G.wh c r = (pcF (overN (z0, z1, z2, z3) ((2 ^ (LV - r) : Nat) : Int)) ((2 ^ PR : Nat) : Int)).1.toNat * (pcF (overN (z0, z1, z2, z3) ((2 ^ (LV - r) : Nat) : Int)) ((2 ^ PR : Nat) : Int)).2.toNat := fun r => by
              rw [← HGe.out]
              show wdF _ _ LV PR c r * htF _ _ LV PR c r = _
              unfold wdF htF rsF
              rw [HDA.out, HPF.out.1]
            have hx1 : cntC G (c + 1) * LY = sc + cntR G c (LV + 1) * LY := by rw [cntC_succ, HG.out.2.1, Nat.add_mul, HSC.out]
            have hs13 : sc + cntR G c (LV + 1) * LY ≤ 13000000 := by
              rw [← hx1]
              refine Nat.le_trans (Nat.mul_le_mul_right _ (cntC_mono G (show c + 1 ≤ N by omega))) ?_
              rw [← HG.out.2.2]
              exact hM13
            have HX1 := Lib.hid hx1
            have HMb := HM6.out.keep HBb.out.1
            have HPb : Hid (bm + 1 < Wb.heap.size ∧ Wb.cell? ⟨bm + 1, 2, none⟩ = some (.int .i64 (LV : Int)) ∧ Wb.cell? ⟨bm + 1, 5, none⟩ = some (.int .i64 (PR : Int)) ∧ Wb.cell? ⟨bm + 1, 8, none⟩ = some (.int .i64 (LY : Int))) := Lib.hid ⟨by have := HMb.sz; simp at this; omega, blk_cell (HMb.b 1 _ rfl) 2, blk_cell (HMb.b 1 _ rfl) 5, blk_cell (HMb.b 1 _ rfl) 8⟩
            have HKb : Hid (M.length = m ∧ KeyR Wb KA M) := Lib.hid ⟨HML.out, HKR.out.below HBb.out.2.1⟩
            have HOb := Lib.hid (show _ ∧ _ from ⟨HOL.out, hwhr⟩)
            have HZb := Lib.hid (show _ ∧ _ from ⟨HPF.out.2.1, HPF.out.2.2⟩)
            have HQb := Lib.hid HBb.out.2.2.2
            have hPRb : 1 ≤ PR ∧ PR ≤ 15 := by omega
            have hLVb : LV ≤ 5 := by omega
            have hLYb : LY ≤ 8 := by omega
            clear hx1 HMb hwhr
            go_upto_block 4 with fail
            refine wp_code (c' := blkOf Try.f4 4) (by kernel_rfl) (once_res (bm + 1) q10 m KC LV PR LY c o sc KA G M z0 z1 z2 z3 Wb HPb HKb HQb HOb HZb hs13 hLVb hPRb hM13 hLYb ?_)
            intro v4 v14 v15 v16 v17 v18 v69 v70 v71 v72 v73 v74 v75 v76 v77 v78 v79 v80 v81 v82 v83 v84 v85 v86 v87 v88 v89 v90 v91 v92 v93 v94 v95 v96 v97 v98 v99 v100 v101 v102 v103 v104 v105 v106 v107 v108 v109 v110 v111 v112 v113 v114 v115 v116 v117 v118 v119 v120 v121 v122 v123 v124 v125 v126 v127 v128 v129 v130 v131 v132 v133 v134 v135 v136 v137 v138 v139 v140 v141 v142 v143 v144 v145 v146 v147 v148 v149 v150 v151 v152 v153 v154 v155 v156 v157 v158 v159 v160 v161 v162 v163 v164 v165 v166 v167 W' H2
            have HBf : Hid (Below W6.heap.size W6 W' ∧ Below W7.heap.size W7 W') := Lib.hid ⟨HBb.out.1.trans (H2.out.mono HBb.out.1.size), HBb.out.2.1.trans (H2.out.mono HBb.out.2.1.size)⟩
            clear H2 HPb HKb HOb HZb HQb HBb
            go_wp2_with fail
            go_roundg g1
            case measure => omega
            case rel => exact ⟨c + 1, by omega, by rw [HX1.out], by go_num, HBf⟩
        · obtain rfl : N = c := by omega
          have hcI : ¬ (N : Int) < (N : Int) := by omega
          have hsm : sc = m := by rw [← HSC.out, HG.out.2.2]
          have HBd := Lib.hid HBcc.out.1
          subst hsm
          go_wp2_with fail
          go_roundg g0
          case measure => omega
          case rel => exact ⟨i + 1, by omega, by go_num, HBd⟩
   · obtain rfl : tn = i := by omega
     have hiI : ¬ (tn : Int) < (tn : Int) := by omega
     have HBz : Hid (Below B0 w wa) := Lib.hid (HB2.out.trans ((HM6.out.bel.mono (by have := HBM.out; have := HB2.out.size; have := HBE.out; omega)).trans (HBa.out.mono (by have := HBM.out; have := HB2.out.size; have := HBE.out; have := HM6.out.bel.size; omega))))
     go_wp2
     go_ret
     exact ⟨rfl, by rw [HBE.out]; exact HBz.out⟩
end Go.Proofs.Ytejoedanhonpkaa
