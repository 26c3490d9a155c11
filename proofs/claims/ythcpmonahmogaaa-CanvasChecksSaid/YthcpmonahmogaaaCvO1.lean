/- canvas: Blocks by its contract. -/
import Derived.Test.YthcpmonahmogaaaCvO0
import Derived.Test.YthcpmonahmogaaaCvM9
import Derived.Deep.CutRange
import Derived.Deep.CutBlock
import Derived.Deep.LoopGhost
set_option linter.unusedVariables false
set_option linter.unusedSimpArgs false
namespace Go.Proofs.Ythcpmonahmogaaa
open Go.RowKit
set_option maxRecDepth 100000
set_option maxHeartbeats 16000000 in
theorem blocks_walk (b0 b1 b2 b3 z0 z1 z2 z3 : Int) (tx ty lv st od ly : Int) (rct sop eph : Bool) (bw bh pr r k : Nat) (BWI BHI PRI RI KI : Int) (HNI : Hid (BWI = (bw : Int) ∧ BHI = (bh : Int) ∧ PRI = (pr : Int) ∧ RI = (r : Int) ∧ KI = (k : Int))) (w : World)
    (hb0 : 0 ≤ b0 ∧ b0 ≤ b2 ∧ b2 ≤ 255) (hb1 : 0 ≤ b1 ∧ b1 ≤ b3 ∧ b3 ≤ 255) (hz0 : 0 ≤ z0 ∧ z0 ≤ z2 ∧ z2 ≤ 255) (hz1 : 0 ≤ z1 ∧ z1 ≤ z3 ∧ z3 ≤ 255) (hpr : 1 ≤ PRI ∧ PRI ≤ 15) (hbw : 2 ≤ BWI ∧ BWI ≤ 6) (hbh : 2 ≤ BHI ∧ BHI ≤ 6) (hk : 0 ≤ KI ∧ KI ≤ 100000) (hr : 0 ≤ RI ∧ RI ≤ 100)
    (CW RH : Int) (cw rh : Nat) (HPC : Hid (pcF (z0, z1, z2, z3) ((2 ^ pr : Nat) : Int) = (CW, RH))) (HCW : Hid (CW = (cw : Int) ∧ RH = (rh : Int))) (hcw : 0 ≤ CW ∧ CW ≤ 255) (hrh : 0 ≤ RH ∧ RH ≤ 255) (R : List Rc4 × Int) (HR : Hid (blkF (b0, b1, b2, b3) (z0, z1, z2, z3) pr bw bh r k = R)) :
    Calls Try.prog 30 #[.agg #[.int .i64 b0, .int .i64 b1, .int .i64 b2, .int .i64 b3], .agg #[.int .i64 z0, .int .i64 z1, .int .i64 z2, .int .i64 z3], .agg #[.int .i64 tx, .int .i64 ty, .int .i64 lv, .int .i64 BWI, .int .i64 BHI, .int .i64 PRI, .int .i64 st, .int .i64 od, .int .i64 ly, .bool rct, .bool sop, .bool eph], .int .i64 RI, .int .i64 KI] w fun e w' => ∃ A c, e = .returned (.tuple #[.slice A R.1.length c, .int .i64 R.2]) ∧ RcL w' w'.heap.size (.slice A R.1.length c) R.1 ∧ Below w.heap.size w w' := by
  have NB := Lib.hid (fun u => near_any b0 b1 b2 b3 u (by omega) (by omega))
  have NZ := Lib.hid (fun u => near_any z0 z1 z2 z3 u (by omega) (by omega))
  have hct : cutsB BWI BHI PRI = true := by unfold cutsB inB; simp; omega
  have CK := Lib.hid (fun u => cuts_any tx ty lv BWI BHI PRI st od ly rct sop eph u)
  rw [hct] at CK
  have PC := Lib.hid (fun u => prec_any (z0, z1, z2, z3) pr u ⟨by simp only; omega, by simp only; omega, by simp only; omega, by simp only; omega⟩ (by have := HNI.out; omega))
  rw [HPC.out, ← HNI.out.2.2.1] at PC
  unfold rA at PC
  simp only at PC
  have HCT := Lib.hid hct
  clear hct
  go_enter Try.func30, Try.ntmps30
  go_upto_region 1 with fail
  obtain ⟨B, hBe⟩ : ∃ B, w.heap.size = B := ⟨_, rfl⟩
  obtain ⟨V1, hV1⟩ : ∃ V1, ((w.alloc (Obj.cells #[.int .i64 b0, .int .i64 b1, .int .i64 b2, .int .i64 b3] 48)).alloc (Obj.cells #[.int .i64 z0, .int .i64 z1, .int .i64 z2, .int .i64 z3] 48)).alloc (Obj.cells #[.int .i64 tx, .int .i64 ty, .int .i64 lv, .int .i64 BWI, .int .i64 BHI, .int .i64 PRI, .int .i64 st, .int .i64 od, .int .i64 ly, .bool rct, .bool sop, .bool eph] 26) = V1 := ⟨_, rfl⟩
  have HM0 : Hid (MkW w B [(#[.int .i64 b0, .int .i64 b1, .int .i64 b2, .int .i64 b3], 48), (#[.int .i64 z0, .int .i64 z1, .int .i64 z2, .int .i64 z3], 48), (#[.int .i64 tx, .int .i64 ty, .int .i64 lv, .int .i64 BWI, .int .i64 BHI, .int .i64 PRI, .int .i64 st, .int .i64 od, .int .i64 ly, .bool rct, .bool sop, .bool eph], 26)] V1) := Lib.hid (by
    have h0 : MkW w B [] w := ⟨fun i c e => by simp at e, Below.refl _ _, by simp; omega⟩
    have h1 := ((h0.more (by simp; omega) #[.int .i64 b0, .int .i64 b1, .int .i64 b2, .int .i64 b3] 48).more (by simp; omega) #[.int .i64 z0, .int .i64 z1, .int .i64 z2, .int .i64 z3] 48).more (by simp; omega) #[.int .i64 tx, .int .i64 ty, .int .i64 lv, .int .i64 BWI, .int .i64 BHI, .int .i64 PRI, .int .i64 st, .int .i64 od, .int .i64 ly, .bool rct, .bool sop, .bool eph] 26
    rw [← hV1]; exact h1)
  rw [hV1, hBe]
  have HBE := Lib.hid hBe
  clear hV1 hBe
  obtain ⟨x0', x1', x2', x3'⟩ := rc_cells (show V1.heap[B]? = _ from HM0.out.b 0 _ rfl)
  go_wp2_with fail
  refine (NB.out _).mono ?_
  rintro e w2 ⟨rfl, hb⟩
  have HM1 := Lib.hid (HM0.out.keep hb)
  clear hb x0' x1' x2' x3' HM0 NB
  obtain ⟨x0', x1', x2', x3'⟩ := rc_cells (HM1.out.b 1 _ rfl)
  go_wp2_with fail
  refine (NZ.out _).mono ?_
  rintro e w3 ⟨rfl, hb⟩
  have HM2 := Lib.hid (HM1.out.keep hb)
  clear hb x0' x1' x2' x3' HM1 NZ
  obtain ⟨g0, g1, g2, g3, g4, g5, g6, g7, g8, g9, g10, g11⟩ := par_cells (HM2.out.b 2 _ rfl)
  go_wp2_with fail
  refine (CK.out _).mono ?_
  rintro e w4 ⟨rfl, hb⟩
  have HM3 := Lib.hid (HM2.out.keep hb)
  clear hb g0 g1 g2 g3 g4 g5 g6 g7 g8 g9 g10 g11 HM2 CK
  obtain ⟨x0', x1', x2', x3'⟩ := rc_cells (HM3.out.b 1 _ rfl)
  have g5 : w4.cell? ⟨B + 2, 5, none⟩ = some (.int .i64 PRI) := blk_cell (HM3.out.b 2 _ rfl) 5
  go_wp2_with fail
  refine (PC.out _).mono ?_
  rintro e w5 ⟨rfl, hb⟩
  have HM4 := Lib.hid (HM3.out.keep hb)
  clear hb x0' x1' x2' x3' g5 HM3 PC
  have hmul : cw * rh ≤ 255 * 255 := Nat.mul_le_mul (by have := HCW.out; omega) (by have := HCW.out; omega)
  obtain ⟨T, hT⟩ : ∃ T, cw * rh = T := ⟨_, rfl⟩
  have s2 : CW * RH = (T : Int) := by rw [HCW.out.1, HCW.out.2, ← Int.natCast_mul, hT]
  have s1 : wrap64 (CW * RH) = (T : Int) := by rw [s2]; exact w64_in (by omega)
  have k0 : ¬ KI < 0 := by omega
  rw [hT] at hmul
  have HT := Lib.hid hT
  clear hT
  by_cases hkT : (T : Int) ≤ KI
  · have t1 := hkT
    have hR : R = ([], 0) := by
      rw [← HR.out]
      unfold blkF
      rw [if_pos (Or.inl (by rw [HPC.out]; simp only; rw [s2]; have := HNI.out.2.2.2.2; omega))]
    subst hR
    clear s2
    go_wp2
    go_ret2
    exact ⟨none, 0, rfl, ⟨none, 0, rfl, fun i c e => by simp at e⟩, by rw [HBE.out]; exact HM4.out.bel⟩
  · have t1 := hkT
    have hcw1 : 1 ≤ cw := by
      rcases Nat.eq_zero_or_pos cw with h | h
      · exfalso; have := HT.out; rw [h] at this; simp at this; omega
      · exact h
    have HS2 := Lib.hid s2
    clear s2
    have hki : k < T := by have := HNI.out.2.2.2.2; omega
    obtain ⟨m, hm⟩ : ∃ m, k % cw = m := ⟨_, rfl⟩
    obtain ⟨d, hd⟩ : ∃ d, k / cw = d := ⟨_, rfl⟩
    have hml : m < cw := by rw [← hm]; exact Nat.mod_lt _ hcw1
    have hdl : d < rh := by rw [← hd]; exact Nat.div_lt_of_lt_mul (by have := HT.out; omega)
    have hmI : (m : Int) ≤ 255 ∧ (d : Int) ≤ 255 := by have := HCW.out; omega
    obtain ⟨N, hN⟩ : ∃ N : Int, ((2 ^ pr : Nat) : Int) = N := ⟨_, rfl⟩
    have hNb := pow16 pr (by have := HNI.out; omega)
    rw [hN] at hNb
    obtain ⟨i0, hi0⟩ : ∃ i, z0 / N = i := ⟨_, rfl⟩
    obtain ⟨j0, hj0⟩ : ∃ i, z1 / N = i := ⟨_, rfl⟩
    have hi0b : 0 ≤ i0 ∧ i0 ≤ 255 := by
      have h1 : 0 ≤ z0 / N := Int.ediv_nonneg (by omega) (by omega)
      have h2 : z0 / N ≤ z0 := Int.ediv_le_self _ (by omega)
      omega
    have hj0b : 0 ≤ j0 ∧ j0 ≤ 255 := by
      have h1 : 0 ≤ z1 / N := Int.ediv_nonneg (by omega) (by omega)
      have h2 : z1 / N ≤ z1 := Int.ediv_le_self _ (by omega)
      omega
    have hp2 : (2 : Int) ^ PRI.toNat = N := by rw [← hN, HNI.out.2.2.1, Int.toNat_natCast]; simp
    have HV : Hid (z0 / 2 ^ PRI.toNat = i0 ∧ z1 / 2 ^ PRI.toNat = j0 ∧ KI.tmod CW = (m : Int) ∧ KI.tdiv CW = (d : Int)) := Lib.hid (by
      have hn := HNI.out
      have hc := HCW.out
      refine ⟨by rw [hp2, hi0], by rw [hp2, hj0], ?_, ?_⟩
      · rw [hn.2.2.2.2, hc.1, Int.tmod_eq_emod_of_nonneg (by omega), ← hm]; rfl
      · rw [hn.2.2.2.2, hc.1, Int.tdiv_eq_ediv_of_nonneg (by omega), ← hd]; rfl)
    obtain ⟨I, hI⟩ : ∃ I, i0 + (m : Int) = I := ⟨_, rfl⟩
    obtain ⟨J, hJ⟩ : ∃ J, j0 + (d : Int) = J := ⟨_, rfl⟩
    have hIb : 0 ≤ I ∧ I ≤ 510 := by omega
    have hJb : 0 ≤ J ∧ J ≤ 510 := by omega
    have HS : Hid (IntKind.i64.wrap i0 = i0 ∧ IntKind.i64.wrap j0 = j0 ∧ IntKind.i64.wrap (m : Int) = (m : Int) ∧ IntKind.i64.wrap (d : Int) = (d : Int) ∧ IntKind.i64.wrap (i0 + (m : Int)) = I ∧ IntKind.i64.wrap (j0 + (d : Int)) = J) := Lib.hid ⟨IntWalk.i64_in _ (by omega), IntWalk.i64_in _ (by omega), IntWalk.i64_in _ (by omega), IntWalk.i64_in _ (by omega), by rw [hI]; exact IntWalk.i64_in _ (by omega), by rw [hJ]; exact IntWalk.i64_in _ (by omega)⟩
    have HIJ : Hid (z0 / ((2 ^ pr : Nat) : Int) + ((k % cw : Nat) : Int) = I ∧ z1 / ((2 ^ pr : Nat) : Int) + ((k / cw : Nat) : Int) = J) := Lib.hid (by rw [hN, hi0, hj0, hm, hd]; exact ⟨hI, hJ⟩)
    have hc0 : ¬ CW = 0 := by have := HCW.out; omega
    have hc1 : 1 ≤ CW := by have := HCW.out; omega
    clear hi0 hj0 hm hd hp2 hI hJ hN hml hdl hki
    go_upto_region 6 with fail
    go_cut [14, 15] from 50 to 67 (fun a b wx => a = .int .i64 I ∧ b = .int .i64 J ∧ Hid (MkW w B [(#[.int .i64 b0, .int .i64 b1, .int .i64 b2, .int .i64 b3], 48), (#[.int .i64 z0, .int .i64 z1, .int .i64 z2, .int .i64 z3], 48), (#[.int .i64 tx, .int .i64 ty, .int .i64 lv, .int .i64 BWI, .int .i64 BHI, .int .i64 PRI, .int .i64 st, .int .i64 od, .int .i64 ly, .bool rct, .bool sop, .bool eph], 26)] wx))
    case first =>
      obtain ⟨VL, hVL⟩ : ∃ VL : Unit → List (Nat × Nat × Value), VL = fun z => [(0, 50, .pointer (some ⟨B + 1, 0, none⟩)), (1, 51, .int .i64 z0), (2, 52, .pointer (some ⟨B + 2, 5, none⟩)), (3, 53, .int .i64 PRI), (4, 54, .int .i64 i0), (5, 55, .int .i64 KI), (6, 56, .int .i64 CW), (7, 57, .int .i64 (m : Int)), (8, 58, .int .i64 I), (9, 59, .pointer (some ⟨B + 1, 1, none⟩)), (10, 60, .int .i64 z1), (11, 61, .pointer (some ⟨B + 2, 5, none⟩)), (12, 62, .int .i64 PRI), (13, 63, .int .i64 j0), (14, 64, .int .i64 KI), (15, 65, .int .i64 CW), (16, 66, .int .i64 (d : Int)), (17, 67, .int .i64 J), (18, 14, .int .i64 I), (19, 15, .int .i64 J)] := ⟨_, rfl⟩
      have hok : ∀ z, manyOk 117 (VL z) := fun z => by rw [hVL]; exact ⟨by simp, by simp, by simp⟩
      have HVL := Lib.hid hVL
      have hvi : ∀ z, ∀ x ∈ VL z, x.1 < 20 := fun z => by rw [hVL]; simp
      have HOK := Lib.hid hok
      have HVI := Lib.hid hvi
      clear hVL hok hvi
      refine (wpIn_wide (n := 9)).1 (regionIn_many (N := 117) (w := _) VL (fun L z w' => MkW w B [(#[.int .i64 b0, .int .i64 b1, .int .i64 b2, .int .i64 b3], 48), (#[.int .i64 z0, .int .i64 z1, .int .i64 z2, .int .i64 z3], 48), (#[.int .i64 tx, .int .i64 ty, .int .i64 lv, .int .i64 BWI, .int .i64 BHI, .int .i64 PRI, .int .i64 st, .int .i64 od, .int .i64 ly, .bool rct, .bool sop, .bool eph], 26)] w') [(4, .int .i64 KI), (6, .pointer (some ⟨B + 1, 0, none⟩)), (7, .pointer (some ⟨B + 2, 0, none⟩)), (12, .int .i64 CW)] (by kernel_rfl) (by kernel_rfl) rfl (by simp only [List.forall_mem_cons, List.not_mem_nil, false_imp_iff, implies_true, and_true]; exact ⟨rfl, rfl, rfl, rfl⟩) HVI.out () ?start ?step ?fin)
      case start => exact HM4.out.drew
      case step =>
        intro gg_ hgN hgF ii_ hii_ L z w' hph hs hu
        have hF4 := hgF (4, .int .i64 KI) (by simp)
        have hF6 := hgF (6, .pointer (some ⟨B + 1, 0, none⟩)) (by simp)
        have hF7 := hgF (7, .pointer (some ⟨B + 2, 0, none⟩)) (by simp)
        have hF12 := hgF (12, .int .i64 CW) (by simp)
        have hL := hu.1
        have hii_ : ii_ < 20 := hii_
        clear hgF
        obtain rfl | rfl | rfl | rfl | rfl | rfl | rfl | rfl | rfl | rfl | rfl | rfl | rfl | rfl | rfl | rfl | rfl | rfl | rfl | rfl := (by omega : ii_ = 0 ∨ ii_ = 1 ∨ ii_ = 2 ∨ ii_ = 3 ∨ ii_ = 4 ∨ ii_ = 5 ∨ ii_ = 6 ∨ ii_ = 7 ∨ ii_ = 8 ∨ ii_ = 9 ∨ ii_ = 10 ∨ ii_ = 11 ∨ ii_ = 12 ∨ ii_ = 13 ∨ ii_ = 14 ∨ ii_ = 15 ∨ ii_ = 16 ∨ ii_ = 17 ∨ ii_ = 18 ∨ ii_ = 19)
        · skip
          have e6 : (many gg_ L (VL z))[6]?.getD undef = .pointer (some ⟨B + 1, 0, none⟩) := many_out hgN (HOK.out z).1 (by rw [HVL.out]; rfl) hF6
          refine opIn_run (v := .pointer (some ⟨B + 1, 0, none⟩)) (w' := w') rfl rfl (fun c h => by cases h) (fun _ => trivial) ?_ ⟨z, by exact many_put (HOK.out _) 0 50 _ (by rw [HVL.out]; simp) hL, hph⟩
          go_simp
        · skip
          have y0 : L 0 = true := up_at hu 0 (by kernel_rfl)
          have hcell : w'.cell? ⟨B + 1, 0, none⟩ = some (.int .i64 z0) := blk_cell (hph.b 1 _ rfl) 0
          have e50 : (many gg_ L (VL z))[50]?.getD undef = .pointer (some ⟨B + 1, 0, none⟩) := many_eval hgN (HOK.out z).1 (by rw [HVL.out]; simp [lookM, y0])
          refine opIn_run (v := .int .i64 z0) (w' := w') rfl rfl (fun c h => by cases h) (fun _ => trivial) ?_ ⟨z, by exact many_put (HOK.out _) 1 51 _ (by rw [HVL.out]; simp) hL, hph⟩
          go_simp
        · skip
          have e7 : (many gg_ L (VL z))[7]?.getD undef = .pointer (some ⟨B + 2, 0, none⟩) := many_out hgN (HOK.out z).1 (by rw [HVL.out]; rfl) hF7
          refine opIn_run (v := .pointer (some ⟨B + 2, 5, none⟩)) (w' := w') rfl rfl (fun c h => by cases h) (fun _ => trivial) ?_ ⟨z, by exact many_put (HOK.out _) 2 52 _ (by rw [HVL.out]; simp) hL, hph⟩
          go_simp
        · skip
          have y2 : L 2 = true := up_at hu 2 (by kernel_rfl)
          have hcell : w'.cell? ⟨B + 2, 5, none⟩ = some (.int .i64 PRI) := blk_cell (hph.b 2 _ rfl) 5
          have e52 : (many gg_ L (VL z))[52]?.getD undef = .pointer (some ⟨B + 2, 5, none⟩) := many_eval hgN (HOK.out z).1 (by rw [HVL.out]; simp [lookM, y2])
          refine opIn_run (v := .int .i64 PRI) (w' := w') rfl rfl (fun c h => by cases h) (fun _ => trivial) ?_ ⟨z, by exact many_put (HOK.out _) 3 53 _ (by rw [HVL.out]; simp) hL, hph⟩
          go_simp
        · skip
          have y1 : L 1 = true := up_at hu 1 (by kernel_rfl)
          have y3 : L 3 = true := up_at hu 3 (by kernel_rfl)
          have q1 := HV.out.1
          have q2 := HS.out.1
          have e51 : (many gg_ L (VL z))[51]?.getD undef = .int .i64 z0 := many_eval hgN (HOK.out z).1 (by rw [HVL.out]; simp [lookM, y1])
          have e53 : (many gg_ L (VL z))[53]?.getD undef = .int .i64 PRI := many_eval hgN (HOK.out z).1 (by rw [HVL.out]; simp [lookM, y3])
          refine opIn_run (v := .int .i64 i0) (w' := w') rfl rfl (fun c h => by cases h) (fun _ => trivial) ?_ ⟨z, by exact many_put (HOK.out _) 4 54 _ (by rw [HVL.out]; simp) hL, hph⟩
          go_simp
        · skip
          have e4 : (many gg_ L (VL z))[4]?.getD undef = .int .i64 KI := many_out hgN (HOK.out z).1 (by rw [HVL.out]; rfl) hF4
          refine opIn_run (v := .int .i64 KI) (w' := w') rfl rfl (fun c h => by cases h) (fun _ => trivial) ?_ ⟨z, by exact many_put (HOK.out _) 5 55 _ (by rw [HVL.out]; simp) hL, hph⟩
          go_simp
        · skip
          have e12 : (many gg_ L (VL z))[12]?.getD undef = .int .i64 CW := many_out hgN (HOK.out z).1 (by rw [HVL.out]; rfl) hF12
          refine opIn_run (v := .int .i64 CW) (w' := w') rfl rfl (fun c h => by cases h) (fun _ => trivial) ?_ ⟨z, by exact many_put (HOK.out _) 6 56 _ (by rw [HVL.out]; simp) hL, hph⟩
          go_simp
        · skip
          have y5 : L 5 = true := up_at hu 5 (by kernel_rfl)
          have y6 : L 6 = true := up_at hu 6 (by kernel_rfl)
          have q1 := HV.out.2.2.1
          have q2 := HS.out.2.2.1
          have e55 : (many gg_ L (VL z))[55]?.getD undef = .int .i64 KI := many_eval hgN (HOK.out z).1 (by rw [HVL.out]; simp [lookM, y5])
          have e56 : (many gg_ L (VL z))[56]?.getD undef = .int .i64 CW := many_eval hgN (HOK.out z).1 (by rw [HVL.out]; simp [lookM, y6])
          refine opIn_run (v := .int .i64 (m : Int)) (w' := w') rfl rfl (fun c h => by cases h) (fun _ => trivial) ?_ ⟨z, by exact many_put (HOK.out _) 7 57 _ (by rw [HVL.out]; simp) hL, hph⟩
          go_simp
        · skip
          have y4 : L 4 = true := up_at hu 4 (by kernel_rfl)
          have y7 : L 7 = true := up_at hu 7 (by kernel_rfl)
          have q1 := HS.out.2.2.2.2.1
          have e54 : (many gg_ L (VL z))[54]?.getD undef = .int .i64 i0 := many_eval hgN (HOK.out z).1 (by rw [HVL.out]; simp [lookM, y4])
          have e57 : (many gg_ L (VL z))[57]?.getD undef = .int .i64 (m : Int) := many_eval hgN (HOK.out z).1 (by rw [HVL.out]; simp [lookM, y7])
          refine opIn_run (v := .int .i64 I) (w' := w') rfl rfl (fun c h => by cases h) (fun _ => trivial) ?_ ⟨z, by exact many_put (HOK.out _) 8 58 _ (by rw [HVL.out]; simp) hL, hph⟩
          go_simp
        · skip
          have e6 : (many gg_ L (VL z))[6]?.getD undef = .pointer (some ⟨B + 1, 0, none⟩) := many_out hgN (HOK.out z).1 (by rw [HVL.out]; rfl) hF6
          refine opIn_run (v := .pointer (some ⟨B + 1, 1, none⟩)) (w' := w') rfl rfl (fun c h => by cases h) (fun _ => trivial) ?_ ⟨z, by exact many_put (HOK.out _) 9 59 _ (by rw [HVL.out]; simp) hL, hph⟩
          go_simp
        · skip
          have y9 : L 9 = true := up_at hu 9 (by kernel_rfl)
          have hcell : w'.cell? ⟨B + 1, 1, none⟩ = some (.int .i64 z1) := blk_cell (hph.b 1 _ rfl) 1
          have e59 : (many gg_ L (VL z))[59]?.getD undef = .pointer (some ⟨B + 1, 1, none⟩) := many_eval hgN (HOK.out z).1 (by rw [HVL.out]; simp [lookM, y9])
          refine opIn_run (v := .int .i64 z1) (w' := w') rfl rfl (fun c h => by cases h) (fun _ => trivial) ?_ ⟨z, by exact many_put (HOK.out _) 10 60 _ (by rw [HVL.out]; simp) hL, hph⟩
          go_simp
        · skip
          have e7 : (many gg_ L (VL z))[7]?.getD undef = .pointer (some ⟨B + 2, 0, none⟩) := many_out hgN (HOK.out z).1 (by rw [HVL.out]; rfl) hF7
          refine opIn_run (v := .pointer (some ⟨B + 2, 5, none⟩)) (w' := w') rfl rfl (fun c h => by cases h) (fun _ => trivial) ?_ ⟨z, by exact many_put (HOK.out _) 11 61 _ (by rw [HVL.out]; simp) hL, hph⟩
          go_simp
        · skip
          have y11 : L 11 = true := up_at hu 11 (by kernel_rfl)
          have hcell : w'.cell? ⟨B + 2, 5, none⟩ = some (.int .i64 PRI) := blk_cell (hph.b 2 _ rfl) 5
          have e61 : (many gg_ L (VL z))[61]?.getD undef = .pointer (some ⟨B + 2, 5, none⟩) := many_eval hgN (HOK.out z).1 (by rw [HVL.out]; simp [lookM, y11])
          refine opIn_run (v := .int .i64 PRI) (w' := w') rfl rfl (fun c h => by cases h) (fun _ => trivial) ?_ ⟨z, by exact many_put (HOK.out _) 12 62 _ (by rw [HVL.out]; simp) hL, hph⟩
          go_simp
        · skip
          have y10 : L 10 = true := up_at hu 10 (by kernel_rfl)
          have y12 : L 12 = true := up_at hu 12 (by kernel_rfl)
          have q1 := HV.out.2.1
          have q2 := HS.out.2.1
          have e60 : (many gg_ L (VL z))[60]?.getD undef = .int .i64 z1 := many_eval hgN (HOK.out z).1 (by rw [HVL.out]; simp [lookM, y10])
          have e62 : (many gg_ L (VL z))[62]?.getD undef = .int .i64 PRI := many_eval hgN (HOK.out z).1 (by rw [HVL.out]; simp [lookM, y12])
          refine opIn_run (v := .int .i64 j0) (w' := w') rfl rfl (fun c h => by cases h) (fun _ => trivial) ?_ ⟨z, by exact many_put (HOK.out _) 13 63 _ (by rw [HVL.out]; simp) hL, hph⟩
          go_simp
        · skip
          have e4 : (many gg_ L (VL z))[4]?.getD undef = .int .i64 KI := many_out hgN (HOK.out z).1 (by rw [HVL.out]; rfl) hF4
          refine opIn_run (v := .int .i64 KI) (w' := w') rfl rfl (fun c h => by cases h) (fun _ => trivial) ?_ ⟨z, by exact many_put (HOK.out _) 14 64 _ (by rw [HVL.out]; simp) hL, hph⟩
          go_simp
        · skip
          have e12 : (many gg_ L (VL z))[12]?.getD undef = .int .i64 CW := many_out hgN (HOK.out z).1 (by rw [HVL.out]; rfl) hF12
          refine opIn_run (v := .int .i64 CW) (w' := w') rfl rfl (fun c h => by cases h) (fun _ => trivial) ?_ ⟨z, by exact many_put (HOK.out _) 15 65 _ (by rw [HVL.out]; simp) hL, hph⟩
          go_simp
        · skip
          have y14 : L 14 = true := up_at hu 14 (by kernel_rfl)
          have y15 : L 15 = true := up_at hu 15 (by kernel_rfl)
          have q1 := HV.out.2.2.2
          have q2 := HS.out.2.2.2.1
          have e64 : (many gg_ L (VL z))[64]?.getD undef = .int .i64 KI := many_eval hgN (HOK.out z).1 (by rw [HVL.out]; simp [lookM, y14])
          have e65 : (many gg_ L (VL z))[65]?.getD undef = .int .i64 CW := many_eval hgN (HOK.out z).1 (by rw [HVL.out]; simp [lookM, y15])
          refine opIn_run (v := .int .i64 (d : Int)) (w' := w') rfl rfl (fun c h => by cases h) (fun _ => trivial) ?_ ⟨z, by exact many_put (HOK.out _) 16 66 _ (by rw [HVL.out]; simp) hL, hph⟩
          go_simp
        · skip
          have y13 : L 13 = true := up_at hu 13 (by kernel_rfl)
          have y16 : L 16 = true := up_at hu 16 (by kernel_rfl)
          have q1 := HS.out.2.2.2.2.2
          have e63 : (many gg_ L (VL z))[63]?.getD undef = .int .i64 j0 := many_eval hgN (HOK.out z).1 (by rw [HVL.out]; simp [lookM, y13])
          have e66 : (many gg_ L (VL z))[66]?.getD undef = .int .i64 (d : Int) := many_eval hgN (HOK.out z).1 (by rw [HVL.out]; simp [lookM, y16])
          refine opIn_run (v := .int .i64 J) (w' := w') rfl rfl (fun c h => by cases h) (fun _ => trivial) ?_ ⟨z, by exact many_put (HOK.out _) 17 67 _ (by rw [HVL.out]; simp) hL, hph⟩
          go_simp
        · skip
          have y0 : L 0 = true := up_at hu 0 (by kernel_rfl)
          have y1 : L 1 = true := up_at hu 1 (by kernel_rfl)
          have y2 : L 2 = true := up_at hu 2 (by kernel_rfl)
          have y3 : L 3 = true := up_at hu 3 (by kernel_rfl)
          have y4 : L 4 = true := up_at hu 4 (by kernel_rfl)
          have y5 : L 5 = true := up_at hu 5 (by kernel_rfl)
          have y6 : L 6 = true := up_at hu 6 (by kernel_rfl)
          have y7 : L 7 = true := up_at hu 7 (by kernel_rfl)
          have y8 : L 8 = true := up_at hu 8 (by kernel_rfl)
          have e58 : (many gg_ L (VL z))[58]?.getD undef = .int .i64 I := many_eval hgN (HOK.out z).1 (by rw [HVL.out]; simp [lookM, y8])
          refine opIn_run (v := .int .i64 I) (w' := w') rfl rfl (fun c h => by cases h) (fun _ => trivial) ?_ ⟨z, by exact many_put (HOK.out _) 18 14 _ (by rw [HVL.out]; simp) hL, hph⟩
          go_simp
        · skip
          have y0 : L 0 = true := up_at hu 0 (by kernel_rfl)
          have y1 : L 1 = true := up_at hu 1 (by kernel_rfl)
          have y2 : L 2 = true := up_at hu 2 (by kernel_rfl)
          have y3 : L 3 = true := up_at hu 3 (by kernel_rfl)
          have y4 : L 4 = true := up_at hu 4 (by kernel_rfl)
          have y5 : L 5 = true := up_at hu 5 (by kernel_rfl)
          have y6 : L 6 = true := up_at hu 6 (by kernel_rfl)
          have y7 : L 7 = true := up_at hu 7 (by kernel_rfl)
          have y8 : L 8 = true := up_at hu 8 (by kernel_rfl)
          have y9 : L 9 = true := up_at hu 9 (by kernel_rfl)
          have y10 : L 10 = true := up_at hu 10 (by kernel_rfl)
          have y11 : L 11 = true := up_at hu 11 (by kernel_rfl)
          have y12 : L 12 = true := up_at hu 12 (by kernel_rfl)
          have y13 : L 13 = true := up_at hu 13 (by kernel_rfl)
          have y14 : L 14 = true := up_at hu 14 (by kernel_rfl)
          have y15 : L 15 = true := up_at hu 15 (by kernel_rfl)
          have y16 : L 16 = true := up_at hu 16 (by kernel_rfl)
          have y17 : L 17 = true := up_at hu 17 (by kernel_rfl)
          have y18 : L 18 = true := up_at hu 18 (by kernel_rfl)
          have e67 : (many gg_ L (VL z))[67]?.getD undef = .int .i64 J := many_eval hgN (HOK.out z).1 (by rw [HVL.out]; simp [lookM, y17])
          refine opIn_run (v := .int .i64 J) (w' := w') rfl rfl (fun c h => by cases h) (fun _ => trivial) ?_ ⟨z, by exact many_put (HOK.out _) 19 15 _ (by rw [HVL.out]; simp) hL, hph⟩
          go_simp
      case fin =>
        intro L z w' hall hph
        rw [HVL.out]
        dsimp only [manyL, List.set_cons_zero, List.set_cons_succ]
        clear hall HVL HOK HVI
        have HP := Lib.hid hph
        clear hph
        go_wp2_with fail
        go_meet
        exact ⟨rfl, rfl, HP⟩
    case rest =>
      obtain ⟨rfl, rfl, HM5⟩ := hcut
      clear HM4 HV HS hc0 hc1 hi0b hj0b hmI t1 k0 hkT hmul s1
      obtain ⟨q, hq⟩ : ∃ q, qF pr r = q := ⟨_, rfl⟩
      have hqb : q ≤ pr := by rw [← hq]; unfold qF; split <;> omega
      obtain ⟨QI, hQI⟩ : ∃ QI : Int, QI = (q : Int) := ⟨_, rfl⟩
      have hQb : 0 ≤ QI ∧ QI ≤ 15 := by have := HNI.out; omega
      have cpr : wc.cell? ⟨B + 2, 5, none⟩ = some (.int .i64 PRI) := blk_cell (HM5.out.b 2 _ rfl) 5
      have HQ : Hid (qF pr r = q ∧ QI = (q : Int)) := Lib.hid ⟨hq, hQI⟩
      clear hq hQI hqb
      go_upto_if 71 with fail
      go_cut [16] from 70 to 73 (fun v wx => v = .int .i64 QI ∧ wx = wc)
      case first =>
        by_cases hr0 : RI = 0
        · have e1 : (RI != 0) = false := by simp [hr0]
          have HE : Hid (PRI = QI) := Lib.hid (by
            have h1 := HQ.out
            have h2 := HNI.out
            have h3 : r = 0 := by omega
            rw [h3] at h1
            unfold qF at h1
            rw [if_pos rfl] at h1
            omega)
          have HR0 := Lib.hid hr0
          clear hr0
          go_wp2_with fail
          go_meet
          exact ⟨by rw [HE.out], rfl⟩
        · have e1 : (RI != 0) = true := by simp [hr0]
          have HE : Hid (PRI - 1 = QI) := Lib.hid (by
            have h1 := HQ.out
            have h2 := HNI.out
            have h3 : ¬ r = 0 := by omega
            unfold qF at h1
            rw [if_neg h3] at h1
            omega)
          go_wp2_with fail
          go_meet
          exact ⟨by rw [HE.out], rfl⟩
      case rest =>
        obtain ⟨rfl, rfl⟩ := hcut
        clear cpr
        obtain ⟨n, hn⟩ : ∃ n : Int, ((2 ^ q : Nat) : Int) = n := ⟨_, rfl⟩
        have hnb := pow16 q (by have := HQ.out; omega)
        rw [hn] at hnb
        have hnn : (2 : Int) ^ QI.toNat = n := by rw [← hn, HQ.out.2, Int.toNat_natCast]; simp
        have mulb : ∀ a : Int, 0 ≤ a → a ≤ 511 → 0 ≤ a * n ∧ a * n ≤ 511 * 65536 := fun a h0 h1 => ⟨Int.mul_nonneg h0 (by omega), Int.mul_le_mul h1 (by omega) (by omega) (by omega)⟩
        obtain ⟨A0, hA0⟩ : ∃ A, I * n = A := ⟨_, rfl⟩
        obtain ⟨A1, hA1⟩ : ∃ A, J * n = A := ⟨_, rfl⟩
        obtain ⟨A2, hA2⟩ : ∃ A, (I + 1) * n = A := ⟨_, rfl⟩
        obtain ⟨A3, hA3⟩ : ∃ A, (J + 1) * n = A := ⟨_, rfl⟩
        have bA0 := mulb I (by omega) (by omega)
        have bA1 := mulb J (by omega) (by omega)
        have bA2 := mulb (I + 1) (by omega) (by omega)
        have bA3 := mulb (J + 1) (by omega) (by omega)
        rw [hA0] at bA0
        rw [hA1] at bA1
        rw [hA2] at bA2
        rw [hA3] at bA3
        have HA : Hid (IntKind.i64.wrap (I * 2 ^ QI.toNat) = A0 ∧ IntKind.i64.wrap (J * 2 ^ QI.toNat) = A1 ∧ IntKind.i64.wrap ((I + 1) * 2 ^ QI.toNat) = A2 ∧ IntKind.i64.wrap ((J + 1) * 2 ^ QI.toNat) = A3 ∧ IntKind.i64.wrap (I + 1) = I + 1 ∧ IntKind.i64.wrap (J + 1) = J + 1) := Lib.hid (by
          rw [hnn, hA0, hA1, hA2, hA3]
          exact ⟨IntWalk.i64_in _ (by omega), IntWalk.i64_in _ (by omega), IntWalk.i64_in _ (by omega), IntWalk.i64_in _ (by omega), IntWalk.i64_in _ (by omega), IntWalk.i64_in _ (by omega)⟩)
        obtain ⟨p0, hp0⟩ : ∃ p, maxJ b0 A0 = p := ⟨_, rfl⟩
        obtain ⟨p1, hp1⟩ : ∃ p, maxJ b1 A1 = p := ⟨_, rfl⟩
        obtain ⟨p2, hp2⟩ : ∃ p, minJ b2 A2 = p := ⟨_, rfl⟩
        obtain ⟨p3, hp3⟩ : ∃ p, minJ b3 A3 = p := ⟨_, rfl⟩
        have CR : Hid (∀ u, Calls Try.prog 59 #[.agg #[.int .i64 b0, .int .i64 b1, .int .i64 b2, .int .i64 b3], .agg #[.int .i64 A0, .int .i64 A1, .int .i64 A2, .int .i64 A3]] u fun e w' => e = .returned (.agg #[.int .i64 p0, .int .i64 p1, .int .i64 p2, .int .i64 p3]) ∧ Below u.heap.size u w') := Lib.hid fun u => by
          have := cross_any b0 b1 b2 b3 A0 A1 A2 A3 u
          rw [hp0, hp1, hp2, hp3] at this
          exact this
        have hpb : (0 ≤ p0 ∧ p0 ≤ 50000000) ∧ (0 ≤ p1 ∧ p1 ≤ 50000000) ∧ (0 ≤ p2 ∧ p2 ≤ 255) ∧ (0 ≤ p3 ∧ p3 ≤ 255) := by
          rw [← hp0, ← hp1, ← hp2, ← hp3]
          unfold maxJ minJ
          refine ⟨?_, ?_, ?_, ?_⟩ <;> split <;> omega
        have HPART : Hid (partF (b0, b1, b2, b3) (z0, z1, z2, z3) pr r k = (p0, p1, p2, p3)) := Lib.hid (by
          unfold partF
          dsimp only
          rw [HPC.out, HQ.out.1]
          dsimp only
          rw [show CW.toNat = cw by have := HCW.out; omega, HIJ.out.1, HIJ.out.2, hn, hA0, hA1, hA2, hA3, hp0, hp1, hp2, hp3])
        clear hn hnn mulb hA0 hA1 hA2 hA3 hp0 hp1 hp2 hp3
        go_upto_region 10 with fail
        go_cut [17] from 74 to 90 (fun v wx => ∃ bz, v = .pointer (some ⟨bz, 0, none⟩) ∧ Hid (MkW w B [(#[.int .i64 b0, .int .i64 b1, .int .i64 b2, .int .i64 b3], 48), (#[.int .i64 z0, .int .i64 z1, .int .i64 z2, .int .i64 z3], 48), (#[.int .i64 tx, .int .i64 ty, .int .i64 lv, .int .i64 BWI, .int .i64 BHI, .int .i64 PRI, .int .i64 st, .int .i64 od, .int .i64 ly, .bool rct, .bool sop, .bool eph], 26)] wx ∧ B + 3 ≤ bz ∧ wx.heap[bz]? = some (.cells #[.int .i64 p0, .int .i64 p1, .int .i64 p2, .int .i64 p3] 48 (0, 0))))
        case first =>
          obtain ⟨VL, hVL⟩ : ∃ VL : Nat → List (Nat × Nat × Value), VL = fun z => [(0, 74, .agg #[.int .i64 b0, .int .i64 b1, .int .i64 b2, .int .i64 b3]), (1, 75, .int .i64 I), (2, 76, .int .i64 QI), (3, 77, .int .i64 A0), (4, 78, .int .i64 J), (5, 79, .int .i64 QI), (6, 80, .int .i64 A1), (7, 81, .int .i64 I), (8, 82, .int .i64 (I + 1)), (9, 83, .int .i64 QI), (10, 84, .int .i64 A2), (11, 85, .int .i64 J), (12, 86, .int .i64 (J + 1)), (13, 87, .int .i64 QI), (14, 88, .int .i64 A3), (15, 89, .agg #[.int .i64 A0, .int .i64 A1, .int .i64 A2, .int .i64 A3]), (16, 90, .agg #[.int .i64 p0, .int .i64 p1, .int .i64 p2, .int .i64 p3]), (17, 17, .pointer (some ⟨z, 0, none⟩))] := ⟨_, rfl⟩
          have hok : ∀ z, manyOk 117 (VL z) := fun z => by rw [hVL]; exact ⟨by simp, by simp, by simp⟩
          have HVL := Lib.hid hVL
          have hvi : ∀ z, ∀ x ∈ VL z, x.1 < 19 := fun z => by rw [hVL]; simp
          have HOK := Lib.hid hok
          have HVI := Lib.hid hvi
          clear hVL hok hvi
          refine (wpIn_wide (n := 9)).1 (regionIn_many (N := 117) (w := _) VL (fun L z w' => (bif L 18 then (MkW w B [(#[.int .i64 b0, .int .i64 b1, .int .i64 b2, .int .i64 b3], 48), (#[.int .i64 z0, .int .i64 z1, .int .i64 z2, .int .i64 z3], 48), (#[.int .i64 tx, .int .i64 ty, .int .i64 lv, .int .i64 BWI, .int .i64 BHI, .int .i64 PRI, .int .i64 st, .int .i64 od, .int .i64 ly, .bool rct, .bool sop, .bool eph], 26)] w' ∧ B + 3 ≤ z ∧ w'.heap[z]? = some (.cells #[.int .i64 p0, .int .i64 p1, .int .i64 p2, .int .i64 p3] 48 (0, 0))) else (bif L 17 then (MkW w B [(#[.int .i64 b0, .int .i64 b1, .int .i64 b2, .int .i64 b3], 48), (#[.int .i64 z0, .int .i64 z1, .int .i64 z2, .int .i64 z3], 48), (#[.int .i64 tx, .int .i64 ty, .int .i64 lv, .int .i64 BWI, .int .i64 BHI, .int .i64 PRI, .int .i64 st, .int .i64 od, .int .i64 ly, .bool rct, .bool sop, .bool eph], 26)] w' ∧ B + 3 ≤ z ∧ w'.heap[z]? = some (.cells #[.int .i64 0, .int .i64 0, .int .i64 0, .int .i64 0] 48 (0, 0))) else MkW w B [(#[.int .i64 b0, .int .i64 b1, .int .i64 b2, .int .i64 b3], 48), (#[.int .i64 z0, .int .i64 z1, .int .i64 z2, .int .i64 z3], 48), (#[.int .i64 tx, .int .i64 ty, .int .i64 lv, .int .i64 BWI, .int .i64 BHI, .int .i64 PRI, .int .i64 st, .int .i64 od, .int .i64 ly, .bool rct, .bool sop, .bool eph], 26)] w'))) [(5, .pointer (some ⟨B, 0, none⟩)), (14, .int .i64 I), (15, .int .i64 J), (16, .int .i64 QI)] (by kernel_rfl) (by kernel_rfl) rfl (by simp only [List.forall_mem_cons, List.not_mem_nil, false_imp_iff, implies_true, and_true]; exact ⟨rfl, rfl, rfl, rfl⟩) HVI.out 0 ?start ?step ?fin)
          case start => exact HM5.out.drew
          case step =>
            intro gg_ hgN hgF ii_ hii_ L z w' hph hs hu
            have hF5 := hgF (5, .pointer (some ⟨B, 0, none⟩)) (by simp)
            have hF14 := hgF (14, .int .i64 I) (by simp)
            have hF15 := hgF (15, .int .i64 J) (by simp)
            have hF16 := hgF (16, .int .i64 QI) (by simp)
            have hL := hu.1
            have hii_ : ii_ < 19 := hii_
            clear hgF
            obtain rfl | rfl | rfl | rfl | rfl | rfl | rfl | rfl | rfl | rfl | rfl | rfl | rfl | rfl | rfl | rfl | rfl | rfl | rfl := (by omega : ii_ = 0 ∨ ii_ = 1 ∨ ii_ = 2 ∨ ii_ = 3 ∨ ii_ = 4 ∨ ii_ = 5 ∨ ii_ = 6 ∨ ii_ = 7 ∨ ii_ = 8 ∨ ii_ = 9 ∨ ii_ = 10 ∨ ii_ = 11 ∨ ii_ = 12 ∨ ii_ = 13 ∨ ii_ = 14 ∨ ii_ = 15 ∨ ii_ = 16 ∨ ii_ = 17 ∨ ii_ = 18)
            · skip
              have n18 : L 18 = false := not_yet hL fun h => shut_at hs 18 0 (by kernel_rfl) (h)
              try simp only [n18, hL, cond_true, cond_false] at hph
              obtain ⟨g0, g1, g2, g3⟩ := rc_cells (show w'.heap[B]? = some (.cells #[.int .i64 b0, .int .i64 b1, .int .i64 b2, .int .i64 b3] 48 (0, 0)) by revert hph; cases L 17 <;> (intro hph; first | exact hph.1.b 0 _ rfl | exact hph.b 0 _ rfl))
              have e5 : (many gg_ L (VL z))[5]?.getD undef = .pointer (some ⟨B, 0, none⟩) := many_out hgN (HOK.out z).1 (by rw [HVL.out]; rfl) hF5
              refine opIn_run (v := .agg #[.int .i64 b0, .int .i64 b1, .int .i64 b2, .int .i64 b3]) (w' := w') rfl rfl (fun c h => by cases h) (fun _ => trivial) ?_ ⟨z, by exact many_put (HOK.out _) 0 74 _ (by rw [HVL.out]; simp) hL, by simp only [upd, n18, hL, Nat.reduceBEq, cond_true, cond_false]; exact hph⟩
              go_simp
            · skip
              have n18 : L 18 = false := not_yet hL fun h => shut_at hs 18 1 (by kernel_rfl) (h)
              try simp only [n18, hL, cond_true, cond_false] at hph
              have e14 : (many gg_ L (VL z))[14]?.getD undef = .int .i64 I := many_out hgN (HOK.out z).1 (by rw [HVL.out]; rfl) hF14
              refine opIn_run (v := .int .i64 I) (w' := w') rfl rfl (fun c h => by cases h) (fun _ => trivial) ?_ ⟨z, by exact many_put (HOK.out _) 1 75 _ (by rw [HVL.out]; simp) hL, by simp only [upd, n18, hL, Nat.reduceBEq, cond_true, cond_false]; exact hph⟩
              go_simp
            · skip
              have n18 : L 18 = false := not_yet hL fun h => shut_at hs 18 2 (by kernel_rfl) (h)
              try simp only [n18, hL, cond_true, cond_false] at hph
              have e16 : (many gg_ L (VL z))[16]?.getD undef = .int .i64 QI := many_out hgN (HOK.out z).1 (by rw [HVL.out]; rfl) hF16
              refine opIn_run (v := .int .i64 QI) (w' := w') rfl rfl (fun c h => by cases h) (fun _ => trivial) ?_ ⟨z, by exact many_put (HOK.out _) 2 76 _ (by rw [HVL.out]; simp) hL, by simp only [upd, n18, hL, Nat.reduceBEq, cond_true, cond_false]; exact hph⟩
              go_simp
            · skip
              have y1 : L 1 = true := up_at hu 1 (by kernel_rfl)
              have y2 : L 2 = true := up_at hu 2 (by kernel_rfl)
              have n18 : L 18 = false := not_yet hL fun h => shut_at hs 18 3 (by kernel_rfl) (h)
              try simp only [y1, y2, n18, hL, cond_true, cond_false] at hph
              have q1 := HA.out.1
              have e75 : (many gg_ L (VL z))[75]?.getD undef = .int .i64 I := many_eval hgN (HOK.out z).1 (by rw [HVL.out]; simp [lookM, y1])
              have e76 : (many gg_ L (VL z))[76]?.getD undef = .int .i64 QI := many_eval hgN (HOK.out z).1 (by rw [HVL.out]; simp [lookM, y2])
              refine opIn_run (v := .int .i64 A0) (w' := w') rfl rfl (fun c h => by cases h) (fun _ => trivial) ?_ ⟨z, by exact many_put (HOK.out _) 3 77 _ (by rw [HVL.out]; simp) hL, by simp only [upd, y1, y2, n18, hL, Nat.reduceBEq, cond_true, cond_false]; exact hph⟩
              go_simp
            · skip
              have n18 : L 18 = false := not_yet hL fun h => shut_at hs 18 4 (by kernel_rfl) (h)
              try simp only [n18, hL, cond_true, cond_false] at hph
              have e15 : (many gg_ L (VL z))[15]?.getD undef = .int .i64 J := many_out hgN (HOK.out z).1 (by rw [HVL.out]; rfl) hF15
              refine opIn_run (v := .int .i64 J) (w' := w') rfl rfl (fun c h => by cases h) (fun _ => trivial) ?_ ⟨z, by exact many_put (HOK.out _) 4 78 _ (by rw [HVL.out]; simp) hL, by simp only [upd, n18, hL, Nat.reduceBEq, cond_true, cond_false]; exact hph⟩
              go_simp
            · skip
              have n18 : L 18 = false := not_yet hL fun h => shut_at hs 18 5 (by kernel_rfl) (h)
              try simp only [n18, hL, cond_true, cond_false] at hph
              have e16 : (many gg_ L (VL z))[16]?.getD undef = .int .i64 QI := many_out hgN (HOK.out z).1 (by rw [HVL.out]; rfl) hF16
              refine opIn_run (v := .int .i64 QI) (w' := w') rfl rfl (fun c h => by cases h) (fun _ => trivial) ?_ ⟨z, by exact many_put (HOK.out _) 5 79 _ (by rw [HVL.out]; simp) hL, by simp only [upd, n18, hL, Nat.reduceBEq, cond_true, cond_false]; exact hph⟩
              go_simp
            · skip
              have y4 : L 4 = true := up_at hu 4 (by kernel_rfl)
              have y5 : L 5 = true := up_at hu 5 (by kernel_rfl)
              have n18 : L 18 = false := not_yet hL fun h => shut_at hs 18 6 (by kernel_rfl) (h)
              try simp only [y4, y5, n18, hL, cond_true, cond_false] at hph
              have q1 := HA.out.2.1
              have e78 : (many gg_ L (VL z))[78]?.getD undef = .int .i64 J := many_eval hgN (HOK.out z).1 (by rw [HVL.out]; simp [lookM, y4])
              have e79 : (many gg_ L (VL z))[79]?.getD undef = .int .i64 QI := many_eval hgN (HOK.out z).1 (by rw [HVL.out]; simp [lookM, y5])
              refine opIn_run (v := .int .i64 A1) (w' := w') rfl rfl (fun c h => by cases h) (fun _ => trivial) ?_ ⟨z, by exact many_put (HOK.out _) 6 80 _ (by rw [HVL.out]; simp) hL, by simp only [upd, y4, y5, n18, hL, Nat.reduceBEq, cond_true, cond_false]; exact hph⟩
              go_simp
            · skip
              have n18 : L 18 = false := not_yet hL fun h => shut_at hs 18 7 (by kernel_rfl) (h)
              try simp only [n18, hL, cond_true, cond_false] at hph
              have e14 : (many gg_ L (VL z))[14]?.getD undef = .int .i64 I := many_out hgN (HOK.out z).1 (by rw [HVL.out]; rfl) hF14
              refine opIn_run (v := .int .i64 I) (w' := w') rfl rfl (fun c h => by cases h) (fun _ => trivial) ?_ ⟨z, by exact many_put (HOK.out _) 7 81 _ (by rw [HVL.out]; simp) hL, by simp only [upd, n18, hL, Nat.reduceBEq, cond_true, cond_false]; exact hph⟩
              go_simp
            · skip
              have y7 : L 7 = true := up_at hu 7 (by kernel_rfl)
              have n18 : L 18 = false := not_yet hL fun h => shut_at hs 18 8 (by kernel_rfl) (h)
              try simp only [y7, n18, hL, cond_true, cond_false] at hph
              have q1 := HA.out.2.2.2.2.1
              have e81 : (many gg_ L (VL z))[81]?.getD undef = .int .i64 I := many_eval hgN (HOK.out z).1 (by rw [HVL.out]; simp [lookM, y7])
              refine opIn_run (v := .int .i64 (I + 1)) (w' := w') rfl rfl (fun c h => by cases h) (fun _ => trivial) ?_ ⟨z, by exact many_put (HOK.out _) 8 82 _ (by rw [HVL.out]; simp) hL, by simp only [upd, y7, n18, hL, Nat.reduceBEq, cond_true, cond_false]; exact hph⟩
              go_simp
            · skip
              have n18 : L 18 = false := not_yet hL fun h => shut_at hs 18 9 (by kernel_rfl) (h)
              try simp only [n18, hL, cond_true, cond_false] at hph
              have e16 : (many gg_ L (VL z))[16]?.getD undef = .int .i64 QI := many_out hgN (HOK.out z).1 (by rw [HVL.out]; rfl) hF16
              refine opIn_run (v := .int .i64 QI) (w' := w') rfl rfl (fun c h => by cases h) (fun _ => trivial) ?_ ⟨z, by exact many_put (HOK.out _) 9 83 _ (by rw [HVL.out]; simp) hL, by simp only [upd, n18, hL, Nat.reduceBEq, cond_true, cond_false]; exact hph⟩
              go_simp
            · skip
              have y8 : L 8 = true := up_at hu 8 (by kernel_rfl)
              have y9 : L 9 = true := up_at hu 9 (by kernel_rfl)
              have n18 : L 18 = false := not_yet hL fun h => shut_at hs 18 10 (by kernel_rfl) (h)
              try simp only [y8, y9, n18, hL, cond_true, cond_false] at hph
              have q1 := HA.out.2.2.1
              have e82 : (many gg_ L (VL z))[82]?.getD undef = .int .i64 (I + 1) := many_eval hgN (HOK.out z).1 (by rw [HVL.out]; simp [lookM, y8])
              have e83 : (many gg_ L (VL z))[83]?.getD undef = .int .i64 QI := many_eval hgN (HOK.out z).1 (by rw [HVL.out]; simp [lookM, y9])
              refine opIn_run (v := .int .i64 A2) (w' := w') rfl rfl (fun c h => by cases h) (fun _ => trivial) ?_ ⟨z, by exact many_put (HOK.out _) 10 84 _ (by rw [HVL.out]; simp) hL, by simp only [upd, y8, y9, n18, hL, Nat.reduceBEq, cond_true, cond_false]; exact hph⟩
              go_simp
            · skip
              have n18 : L 18 = false := not_yet hL fun h => shut_at hs 18 11 (by kernel_rfl) (h)
              try simp only [n18, hL, cond_true, cond_false] at hph
              have e15 : (many gg_ L (VL z))[15]?.getD undef = .int .i64 J := many_out hgN (HOK.out z).1 (by rw [HVL.out]; rfl) hF15
              refine opIn_run (v := .int .i64 J) (w' := w') rfl rfl (fun c h => by cases h) (fun _ => trivial) ?_ ⟨z, by exact many_put (HOK.out _) 11 85 _ (by rw [HVL.out]; simp) hL, by simp only [upd, n18, hL, Nat.reduceBEq, cond_true, cond_false]; exact hph⟩
              go_simp
            · skip
              have y11 : L 11 = true := up_at hu 11 (by kernel_rfl)
              have n18 : L 18 = false := not_yet hL fun h => shut_at hs 18 12 (by kernel_rfl) (h)
              try simp only [y11, n18, hL, cond_true, cond_false] at hph
              have q1 := HA.out.2.2.2.2.2
              have e85 : (many gg_ L (VL z))[85]?.getD undef = .int .i64 J := many_eval hgN (HOK.out z).1 (by rw [HVL.out]; simp [lookM, y11])
              refine opIn_run (v := .int .i64 (J + 1)) (w' := w') rfl rfl (fun c h => by cases h) (fun _ => trivial) ?_ ⟨z, by exact many_put (HOK.out _) 12 86 _ (by rw [HVL.out]; simp) hL, by simp only [upd, y11, n18, hL, Nat.reduceBEq, cond_true, cond_false]; exact hph⟩
              go_simp
            · skip
              have n18 : L 18 = false := not_yet hL fun h => shut_at hs 18 13 (by kernel_rfl) (h)
              try simp only [n18, hL, cond_true, cond_false] at hph
              have e16 : (many gg_ L (VL z))[16]?.getD undef = .int .i64 QI := many_out hgN (HOK.out z).1 (by rw [HVL.out]; rfl) hF16
              refine opIn_run (v := .int .i64 QI) (w' := w') rfl rfl (fun c h => by cases h) (fun _ => trivial) ?_ ⟨z, by exact many_put (HOK.out _) 13 87 _ (by rw [HVL.out]; simp) hL, by simp only [upd, n18, hL, Nat.reduceBEq, cond_true, cond_false]; exact hph⟩
              go_simp
            · skip
              have y12 : L 12 = true := up_at hu 12 (by kernel_rfl)
              have y13 : L 13 = true := up_at hu 13 (by kernel_rfl)
              have n18 : L 18 = false := not_yet hL fun h => shut_at hs 18 14 (by kernel_rfl) (h)
              try simp only [y12, y13, n18, hL, cond_true, cond_false] at hph
              have q1 := HA.out.2.2.2.1
              have e86 : (many gg_ L (VL z))[86]?.getD undef = .int .i64 (J + 1) := many_eval hgN (HOK.out z).1 (by rw [HVL.out]; simp [lookM, y12])
              have e87 : (many gg_ L (VL z))[87]?.getD undef = .int .i64 QI := many_eval hgN (HOK.out z).1 (by rw [HVL.out]; simp [lookM, y13])
              refine opIn_run (v := .int .i64 A3) (w' := w') rfl rfl (fun c h => by cases h) (fun _ => trivial) ?_ ⟨z, by exact many_put (HOK.out _) 14 88 _ (by rw [HVL.out]; simp) hL, by simp only [upd, y12, y13, n18, hL, Nat.reduceBEq, cond_true, cond_false]; exact hph⟩
              go_simp
            · skip
              have y3 : L 3 = true := up_at hu 3 (by kernel_rfl)
              have y6 : L 6 = true := up_at hu 6 (by kernel_rfl)
              have y10 : L 10 = true := up_at hu 10 (by kernel_rfl)
              have y14 : L 14 = true := up_at hu 14 (by kernel_rfl)
              have n18 : L 18 = false := not_yet hL fun h => shut_at hs 18 15 (by kernel_rfl) (h)
              try simp only [y3, y6, y10, y14, n18, hL, cond_true, cond_false] at hph
              have e77 : (many gg_ L (VL z))[77]?.getD undef = .int .i64 A0 := many_eval hgN (HOK.out z).1 (by rw [HVL.out]; simp [lookM, y3])
              have e80 : (many gg_ L (VL z))[80]?.getD undef = .int .i64 A1 := many_eval hgN (HOK.out z).1 (by rw [HVL.out]; simp [lookM, y6])
              have e84 : (many gg_ L (VL z))[84]?.getD undef = .int .i64 A2 := many_eval hgN (HOK.out z).1 (by rw [HVL.out]; simp [lookM, y10])
              have e88 : (many gg_ L (VL z))[88]?.getD undef = .int .i64 A3 := many_eval hgN (HOK.out z).1 (by rw [HVL.out]; simp [lookM, y14])
              refine opIn_run (v := .agg #[.int .i64 A0, .int .i64 A1, .int .i64 A2, .int .i64 A3]) (w' := w') rfl rfl (fun c h => by cases h) (fun _ => trivial) ?_ ⟨z, by exact many_put (HOK.out _) 15 89 _ (by rw [HVL.out]; simp) hL, by simp only [upd, y3, y6, y10, y14, n18, hL, Nat.reduceBEq, cond_true, cond_false]; exact hph⟩
              go_simp
            · skip
              have y0 : L 0 = true := up_at hu 0 (by kernel_rfl)
              have y15 : L 15 = true := up_at hu 15 (by kernel_rfl)
              have n18 : L 18 = false := not_yet hL fun h => shut_at hs 18 16 (by kernel_rfl) (h)
              try simp only [y0, y15, n18, hL, cond_true, cond_false] at hph
              have e74 : (many gg_ L (VL z))[74]?.getD undef = .agg #[.int .i64 b0, .int .i64 b1, .int .i64 b2, .int .i64 b3] := many_eval hgN (HOK.out z).1 (by rw [HVL.out]; simp [lookM, y0])
              have e89 : (many gg_ L (VL z))[89]?.getD undef = .agg #[.int .i64 A0, .int .i64 A1, .int .i64 A2, .int .i64 A3] := many_eval hgN (HOK.out z).1 (by rw [HVL.out]; simp [lookM, y15])
              refine opIn_call (f := 59) (args := #[.agg #[.int .i64 b0, .int .i64 b1, .int .i64 b2, .int .i64 b3], .agg #[.int .i64 A0, .int .i64 A1, .int .i64 A2, .int .i64 A3]]) (w' := w') rfl rfl (fun c h => by cases h) (fun _ => trivial) rfl (by go_simp) ((callsIn_wide.2 (CR.out w')).mono ?_)
              rintro e w2 ⟨rfl, hb⟩
              exact ⟨_, rfl, z, by exact many_put (HOK.out _) 16 90 _ (by rw [HVL.out]; simp) hL, by simp only [upd, y0, y15, n18, hL, Nat.reduceBEq, cond_true, cond_false]; exact (by revert hph; cases L 17 <;> (intro hph; first | exact hph.keep hb | exact ⟨hph.1.keep hb, hph.2.1, (hb.block _ (Array.getElem?_eq_some_iff.1 hph.2.2).1).trans hph.2.2⟩))⟩
            · skip
              have n18 : L 18 = false := not_yet hL fun h => shut_at hs 18 17 (by kernel_rfl) (h)
              try simp only [n18, hL, cond_true, cond_false] at hph
              refine opIn_run (v := (.pointer (some ⟨w'.heap.size, 0, none⟩))) (w' := w'.alloc (.cells #[.int .i64 0, .int .i64 0, .int .i64 0, .int .i64 0] 48)) rfl rfl (fun c h => by cases h) (fun _ => trivial) ?_ ⟨w'.heap.size, by rw [show many gg_ L (VL z) = many gg_ L (VL w'.heap.size) from by rw [HVL.out]; simp only [many, n18, hL, cond_false, cond_true]]; exact many_put (HOK.out _) 17 17 _ (by rw [HVL.out]; simp) hL, by simp only [upd, n18, hL, Nat.reduceBEq, cond_true, cond_false]; exact ⟨hph.alloc _, hph.sz, World.alloc_heap_new w' _⟩⟩
              clear hph
              go_simp
            · skip
              have y0 : L 0 = true := up_at hu 0 (by kernel_rfl)
              have y1 : L 1 = true := up_at hu 1 (by kernel_rfl)
              have y2 : L 2 = true := up_at hu 2 (by kernel_rfl)
              have y3 : L 3 = true := up_at hu 3 (by kernel_rfl)
              have y4 : L 4 = true := up_at hu 4 (by kernel_rfl)
              have y5 : L 5 = true := up_at hu 5 (by kernel_rfl)
              have y6 : L 6 = true := up_at hu 6 (by kernel_rfl)
              have y7 : L 7 = true := up_at hu 7 (by kernel_rfl)
              have y8 : L 8 = true := up_at hu 8 (by kernel_rfl)
              have y9 : L 9 = true := up_at hu 9 (by kernel_rfl)
              have y10 : L 10 = true := up_at hu 10 (by kernel_rfl)
              have y11 : L 11 = true := up_at hu 11 (by kernel_rfl)
              have y12 : L 12 = true := up_at hu 12 (by kernel_rfl)
              have y13 : L 13 = true := up_at hu 13 (by kernel_rfl)
              have y14 : L 14 = true := up_at hu 14 (by kernel_rfl)
              have y15 : L 15 = true := up_at hu 15 (by kernel_rfl)
              have y16 : L 16 = true := up_at hu 16 (by kernel_rfl)
              have y17 : L 17 = true := up_at hu 17 (by kernel_rfl)
              try simp only [y0, y1, y2, y3, y4, y5, y6, y7, y8, y9, y10, y11, y12, y13, y14, y15, y16, y17, hL, cond_true, cond_false] at hph
              have e17 : (many gg_ L (VL z))[17]?.getD undef = .pointer (some ⟨z, 0, none⟩) := many_eval hgN (HOK.out z).1 (by rw [HVL.out]; simp [lookM, y17])
              have e90 : (many gg_ L (VL z))[90]?.getD undef = .agg #[.int .i64 p0, .int .i64 p1, .int .i64 p2, .int .i64 p3] := many_eval hgN (HOK.out z).1 (by rw [HVL.out]; simp [lookM, y16])
              refine opIn_skip (w' := w'.setRow z #[.int .i64 p0, .int .i64 p1, .int .i64 p2, .int .i64 p3]) rfl rfl (fun c h => by cases h) (fun _ => trivial) ?_ ⟨z, by exact many_none 18 _ (by rw [HVL.out]; simp), by simp only [upd, y0, y1, y2, y3, y4, y5, y6, y7, y8, y9, y10, y11, y12, y13, y14, y15, y16, y17, hL, Nat.reduceBEq, cond_true, cond_false]; exact ⟨hph.1.rowOther hph.2.1 _, hph.2.1, setRow_heap _ _ _ _ _ _ hph.2.2⟩⟩
              exact run_store_many e17 e90 hph.2.2 (by kernel_rfl) rfl (by kernel_rfl)
          case fin =>
            intro L z w' hall hph
            have l17 := hall 17 (by decide)
            have l18 := hall 18 (by decide)
            simp only [l17, l18, cond_true] at hph
            clear l17 l18
            rw [HVL.out]
            dsimp only [manyL, List.set_cons_zero, List.set_cons_succ]
            clear hall HVL HOK HVI
            have HP := Lib.hid hph
            clear hph
            go_wp2_with fail
            go_meet
            exact ⟨_, rfl, HP⟩
        case rest =>
          obtain ⟨bz, rfl, HM6⟩ := hcut
          clear HM5 CR HA
          obtain ⟨g0, g1, g2, g3⟩ := rc_cells HM6.out.2.2
          have EM := Lib.hid (fun u => empty_any p0 p1 p2 p3 u)
          go_wp2_with fail
          refine (EM.out _).mono ?_
          rintro e w6 ⟨rfl, hb⟩
          have HM7 : Hid (MkW w B [(#[.int .i64 b0, .int .i64 b1, .int .i64 b2, .int .i64 b3], 48), (#[.int .i64 z0, .int .i64 z1, .int .i64 z2, .int .i64 z3], 48), (#[.int .i64 tx, .int .i64 ty, .int .i64 lv, .int .i64 BWI, .int .i64 BHI, .int .i64 PRI, .int .i64 st, .int .i64 od, .int .i64 ly, .bool rct, .bool sop, .bool eph], 26)] w6 ∧ B + 3 ≤ bz ∧ w6.heap[bz]? = some (.cells #[.int .i64 p0, .int .i64 p1, .int .i64 p2, .int .i64 p3] 48 (0, 0))) := Lib.hid ⟨HM6.out.1.keep hb, HM6.out.2.1, (hb.block _ (Array.getElem?_eq_some_iff.1 HM6.out.2.2).1).trans HM6.out.2.2⟩
          clear hb g0 g1 g2 g3 HM6 EM
          by_cases he : p2 ≤ p0 ∨ p3 ≤ p1
          · have hde : decide (p2 ≤ p0 ∨ p3 ≤ p1) = true := by simpa using he
            have hR : R = ([], 0) := by
              rw [← HR.out]
              unfold blkF
              rw [if_pos (Or.inr (by rw [HPART.out]; unfold emptyB; simpa using he))]
            subst hR
            rw [hde]
            clear hde he
            go_wp2
            go_ret2
            exact ⟨none, 0, rfl, ⟨none, 0, rfl, fun i c e => by simp at e⟩, by rw [HBE.out]; exact HM7.out.1.bel⟩
          · have hde : decide (p2 ≤ p0 ∨ p3 ≤ p1) = false := by simpa using he
            have hpo : p0 < p2 ∧ p1 < p3 := by omega
            rw [hde]
            clear hde he
            obtain ⟨XI, hXI⟩ : ∃ X : Int, (if QI < BWI then QI else BWI) = X := ⟨_, rfl⟩
            obtain ⟨YI, hYI⟩ : ∃ X : Int, (if QI < BHI then QI else BHI) = X := ⟨_, rfl⟩
            have hXn : XI = ((min bw q : Nat) : Int) := by have := HQ.out; have := HNI.out; rw [← hXI]; split <;> omega
            have hYn : YI = ((min bh q : Nat) : Int) := by have := HQ.out; have := HNI.out; rw [← hYI]; split <;> omega
            have hXb : 0 ≤ XI ∧ XI ≤ 6 := by rw [← hXI]; split <;> omega
            have hYb : 0 ≤ YI ∧ YI ≤ 6 := by rw [← hYI]; split <;> omega
            obtain ⟨x, hx⟩ : ∃ x : Int, cellX bw q = x := ⟨_, rfl⟩
            obtain ⟨y, hy⟩ : ∃ y : Int, cellX bh q = y := ⟨_, rfl⟩
            have hxb : 1 ≤ x ∧ x ≤ 65536 := by rw [← hx]; exact pow16 _ (by omega)
            have hyb : 1 ≤ y ∧ y ≤ 65536 := by rw [← hy]; exact pow16 _ (by omega)
            have hx2 : (2 : Int) ^ XI.toNat = x := by rw [← hx, hXn, Int.toNat_natCast]; unfold cellX; simp
            have hy2 : (2 : Int) ^ YI.toNat = y := by rw [← hy, hYn, Int.toNat_natCast]; unfold cellX; simp
            have HC1 : Hid ((if QI < BWI then QI else BWI) = XI ∧ (if QI < BHI then QI else BHI) = YI ∧ IntKind.i64.wrap (2 ^ XI.toNat) = x ∧ IntKind.i64.wrap (2 ^ YI.toNat) = y) := Lib.hid ⟨hXI, hYI, by rw [hx2]; exact IntWalk.i64_in _ (by omega), by rw [hy2]; exact IntWalk.i64_in _ (by omega)⟩
            have HXY : Hid (cellX bw q = x ∧ cellX bh q = y) := Lib.hid ⟨hx, hy⟩
            clear hXI hYI hXn hYn hx hy hx2 hy2
            have hpn : (0 ≤ p0 ∧ p0 ≤ 255) ∧ (0 ≤ p1 ∧ p1 ≤ 255) := by omega
            have k1 : 0 ≤ p0 / x ∧ p0 / x ≤ p0 := ⟨Int.ediv_nonneg (by omega) (by omega), Int.ediv_le_self _ (by omega)⟩
            have k2 : 0 ≤ p1 / y ∧ p1 / y ≤ p1 := ⟨Int.ediv_nonneg (by omega) (by omega), Int.ediv_le_self _ (by omega)⟩
            have k3 := ceil_bd p2 x (by omega) hxb.1
            have k4 := ceil_bd p3 y (by omega) hyb.1
            have k5 : p0 / x ≤ ceilF p2 x := by
              have h1 : p0 / x ≤ p2 / x := Int.ediv_le_ediv (by omega) (by omega)
              have h2 : p2 / x ≤ ceilF p2 x := by unfold ceilF; split <;> omega
              omega
            have k6 : p1 / y ≤ ceilF p3 y := by
              have h1 : p1 / y ≤ p3 / y := Int.ediv_le_ediv (by omega) (by omega)
              have h2 : p3 / y ≤ ceilF p3 y := by unfold ceilF; split <;> omega
              omega
            obtain ⟨c0, hc0⟩ : ∃ c, p0 / x = c := ⟨_, rfl⟩
            obtain ⟨c1, hc1⟩ : ∃ c, p1 / y = c := ⟨_, rfl⟩
            obtain ⟨wd, hwd⟩ : ∃ wd : Nat, ceilF p2 x = c0 + (wd : Int) := ⟨(ceilF p2 x - c0).toNat, by omega⟩
            obtain ⟨ht, hht⟩ : ∃ ht : Nat, ceilF p3 y = c1 + (ht : Int) := ⟨(ceilF p3 y - c1).toNat, by omega⟩
            have hwb : wd ≤ 255 ∧ ht ≤ 255 := by omega
            have hcb : (0 ≤ c0 ∧ c0 ≤ 255) ∧ (0 ≤ c1 ∧ c1 ≤ 255) := by omega
            have LT : Hid (∀ u, Calls Try.prog 56 #[.agg #[.int .i64 p0, .int .i64 p1, .int .i64 p2, .int .i64 p3], .int .i64 x, .int .i64 y] u fun e w' => e = .returned (.agg #[.int .i64 c0, .int .i64 c1, .int .i64 (c0 + (wd : Int)), .int .i64 (c1 + (ht : Int))]) ∧ Below u.heap.size u w') := Lib.hid fun u => by
              have := lattice_any p0 p1 p2 p3 x y u (by omega) (by omega) (by omega) (by omega) (by omega) (by omega)
              rw [hc0, hc1, hwd, hht] at this
              exact this
            have hlim : ht * wd ≤ 255 * 255 := Nat.mul_le_mul hwb.2 hwb.1
            have CT := Lib.hid (fun u => cut_any p0 p1 p2 p3 c0 c1 x y wd ht u (by omega) (by omega) (by omega) (by omega) (by omega))
            have HRR : Hid (R = (blksF (p0, p1, p2, p3) x y, (wd : Int)) ∧ blksF (p0, p1, p2, p3) x y = (plP c0 c1 wd ht).map fun q => cellR p0 p1 p2 p3 x y q) := Lib.hid (by
              refine ⟨?_, ?_⟩
              · rw [← HR.out]
                unfold blkF
                rw [if_neg (by
                  rw [HPC.out, HPART.out]
                  unfold emptyB
                  dsimp only
                  rw [HS2.out]
                  have := HNI.out
                  simp
                  omega), HPART.out, HQ.out.1, HXY.out.1, HXY.out.2]
                unfold wideF
                dsimp only
                rw [hwd, hc0, show c0 + (wd : Int) - c0 = (wd : Int) by omega]
              · unfold blksF
                dsimp only
                rw [hc0, hc1, hwd, hht, show c0 + (wd : Int) - c0 = (wd : Int) by omega, show c1 + (ht : Int) - c1 = (ht : Int) by omega, Int.toNat_natCast, Int.toNat_natCast])
            have HW : Hid (IntKind.i64.wrap (c0 + (wd : Int) - c0) = (wd : Int) ∧ c0 + (wd : Int) - c0 = (wd : Int) ∧ IntKind.i64.wrap (wd : Int) = (wd : Int)) := Lib.hid ⟨by rw [show c0 + (wd : Int) - c0 = (wd : Int) by omega]; exact IntWalk.i64_in _ (by omega), by omega, IntWalk.i64_in _ (by omega)⟩
            clear hc0 hc1 hwd hht k1 k2 k3 k4 k5 k6
            go_upto_region 13 with fail
            go_cut [18, 19] from 93 to 102 (fun a b wx => a = .int .i64 x ∧ b = .int .i64 y ∧ Hid (MkW w B [(#[.int .i64 b0, .int .i64 b1, .int .i64 b2, .int .i64 b3], 48), (#[.int .i64 z0, .int .i64 z1, .int .i64 z2, .int .i64 z3], 48), (#[.int .i64 tx, .int .i64 ty, .int .i64 lv, .int .i64 BWI, .int .i64 BHI, .int .i64 PRI, .int .i64 st, .int .i64 od, .int .i64 ly, .bool rct, .bool sop, .bool eph], 26)] wx ∧ B + 3 ≤ bz ∧ wx.heap[bz]? = some (.cells #[.int .i64 p0, .int .i64 p1, .int .i64 p2, .int .i64 p3] 48 (0, 0))))
            case first =>
              obtain ⟨VL, hVL⟩ : ∃ VL : Unit → List (Nat × Nat × Value), VL = fun z => [(0, 93, .pointer (some ⟨B + 2, 3, none⟩)), (1, 94, .int .i64 BWI), (2, 95, .int .i64 QI), (3, 96, .int .i64 XI), (4, 97, .int .i64 x), (5, 98, .pointer (some ⟨B + 2, 4, none⟩)), (6, 99, .int .i64 BHI), (7, 100, .int .i64 QI), (8, 101, .int .i64 YI), (9, 102, .int .i64 y), (10, 18, .int .i64 x), (11, 19, .int .i64 y)] := ⟨_, rfl⟩
              have hok : ∀ z, manyOk 117 (VL z) := fun z => by rw [hVL]; exact ⟨by simp, by simp, by simp⟩
              have HVL := Lib.hid hVL
              have hvi : ∀ z, ∀ x ∈ VL z, x.1 < 12 := fun z => by rw [hVL]; simp
              have HOK := Lib.hid hok
              have HVI := Lib.hid hvi
              clear hVL hok hvi
              refine (wpIn_wide (n := 9)).1 (regionIn_many (N := 117) (w := _) VL (fun L z w' => MkW w B [(#[.int .i64 b0, .int .i64 b1, .int .i64 b2, .int .i64 b3], 48), (#[.int .i64 z0, .int .i64 z1, .int .i64 z2, .int .i64 z3], 48), (#[.int .i64 tx, .int .i64 ty, .int .i64 lv, .int .i64 BWI, .int .i64 BHI, .int .i64 PRI, .int .i64 st, .int .i64 od, .int .i64 ly, .bool rct, .bool sop, .bool eph], 26)] w' ∧ B + 3 ≤ bz ∧ w'.heap[bz]? = some (.cells #[.int .i64 p0, .int .i64 p1, .int .i64 p2, .int .i64 p3] 48 (0, 0))) [(7, .pointer (some ⟨B + 2, 0, none⟩)), (16, .int .i64 QI)] (by kernel_rfl) (by kernel_rfl) rfl (by simp only [List.forall_mem_cons, List.not_mem_nil, false_imp_iff, implies_true, and_true]; exact ⟨rfl, rfl⟩) HVI.out () ?start ?step ?fin)
              case start => exact ⟨HM7.out.1.drew, HM7.out.2⟩
              case step =>
                intro gg_ hgN hgF ii_ hii_ L z w' hph hs hu
                have hF7 := hgF (7, .pointer (some ⟨B + 2, 0, none⟩)) (by simp)
                have hF16 := hgF (16, .int .i64 QI) (by simp)
                have hL := hu.1
                have hii_ : ii_ < 12 := hii_
                clear hgF
                obtain rfl | rfl | rfl | rfl | rfl | rfl | rfl | rfl | rfl | rfl | rfl | rfl := (by omega : ii_ = 0 ∨ ii_ = 1 ∨ ii_ = 2 ∨ ii_ = 3 ∨ ii_ = 4 ∨ ii_ = 5 ∨ ii_ = 6 ∨ ii_ = 7 ∨ ii_ = 8 ∨ ii_ = 9 ∨ ii_ = 10 ∨ ii_ = 11)
                · skip
                  have e7 : (many gg_ L (VL z))[7]?.getD undef = .pointer (some ⟨B + 2, 0, none⟩) := many_out hgN (HOK.out z).1 (by rw [HVL.out]; rfl) hF7
                  refine opIn_run (v := .pointer (some ⟨B + 2, 3, none⟩)) (w' := w') rfl rfl (fun c h => by cases h) (fun _ => trivial) ?_ ⟨z, by exact many_put (HOK.out _) 0 93 _ (by rw [HVL.out]; simp) hL, hph⟩
                  go_simp
                · skip
                  have y0 : L 0 = true := up_at hu 0 (by kernel_rfl)
                  have hcell : w'.cell? ⟨B + 2, 3, none⟩ = some (.int .i64 BWI) := blk_cell (hph.1.b 2 _ rfl) 3
                  have e93 : (many gg_ L (VL z))[93]?.getD undef = .pointer (some ⟨B + 2, 3, none⟩) := many_eval hgN (HOK.out z).1 (by rw [HVL.out]; simp [lookM, y0])
                  refine opIn_run (v := .int .i64 BWI) (w' := w') rfl rfl (fun c h => by cases h) (fun _ => trivial) ?_ ⟨z, by exact many_put (HOK.out _) 1 94 _ (by rw [HVL.out]; simp) hL, hph⟩
                  go_simp
                · skip
                  have e16 : (many gg_ L (VL z))[16]?.getD undef = .int .i64 QI := many_out hgN (HOK.out z).1 (by rw [HVL.out]; rfl) hF16
                  refine opIn_run (v := .int .i64 QI) (w' := w') rfl rfl (fun c h => by cases h) (fun _ => trivial) ?_ ⟨z, by exact many_put (HOK.out _) 2 95 _ (by rw [HVL.out]; simp) hL, hph⟩
                  go_simp
                · skip
                  have y1 : L 1 = true := up_at hu 1 (by kernel_rfl)
                  have y2 : L 2 = true := up_at hu 2 (by kernel_rfl)
                  have q1 := HC1.out.1
                  have e94 : (many gg_ L (VL z))[94]?.getD undef = .int .i64 BWI := many_eval hgN (HOK.out z).1 (by rw [HVL.out]; simp [lookM, y1])
                  have e95 : (many gg_ L (VL z))[95]?.getD undef = .int .i64 QI := many_eval hgN (HOK.out z).1 (by rw [HVL.out]; simp [lookM, y2])
                  refine opIn_run (v := .int .i64 XI) (w' := w') rfl rfl (fun c h => by cases h) (fun _ => trivial) ?_ ⟨z, by exact many_put (HOK.out _) 3 96 _ (by rw [HVL.out]; simp) hL, hph⟩
                  go_simp
                · skip
                  have y3 : L 3 = true := up_at hu 3 (by kernel_rfl)
                  have q1 := HC1.out.2.2.1
                  have e96 : (many gg_ L (VL z))[96]?.getD undef = .int .i64 XI := many_eval hgN (HOK.out z).1 (by rw [HVL.out]; simp [lookM, y3])
                  refine opIn_run (v := .int .i64 x) (w' := w') rfl rfl (fun c h => by cases h) (fun _ => trivial) ?_ ⟨z, by exact many_put (HOK.out _) 4 97 _ (by rw [HVL.out]; simp) hL, hph⟩
                  go_simp
                · skip
                  have e7 : (many gg_ L (VL z))[7]?.getD undef = .pointer (some ⟨B + 2, 0, none⟩) := many_out hgN (HOK.out z).1 (by rw [HVL.out]; rfl) hF7
                  refine opIn_run (v := .pointer (some ⟨B + 2, 4, none⟩)) (w' := w') rfl rfl (fun c h => by cases h) (fun _ => trivial) ?_ ⟨z, by exact many_put (HOK.out _) 5 98 _ (by rw [HVL.out]; simp) hL, hph⟩
                  go_simp
                · skip
                  have y5 : L 5 = true := up_at hu 5 (by kernel_rfl)
                  have hcell : w'.cell? ⟨B + 2, 4, none⟩ = some (.int .i64 BHI) := blk_cell (hph.1.b 2 _ rfl) 4
                  have e98 : (many gg_ L (VL z))[98]?.getD undef = .pointer (some ⟨B + 2, 4, none⟩) := many_eval hgN (HOK.out z).1 (by rw [HVL.out]; simp [lookM, y5])
                  refine opIn_run (v := .int .i64 BHI) (w' := w') rfl rfl (fun c h => by cases h) (fun _ => trivial) ?_ ⟨z, by exact many_put (HOK.out _) 6 99 _ (by rw [HVL.out]; simp) hL, hph⟩
                  go_simp
                · skip
                  have e16 : (many gg_ L (VL z))[16]?.getD undef = .int .i64 QI := many_out hgN (HOK.out z).1 (by rw [HVL.out]; rfl) hF16
                  refine opIn_run (v := .int .i64 QI) (w' := w') rfl rfl (fun c h => by cases h) (fun _ => trivial) ?_ ⟨z, by exact many_put (HOK.out _) 7 100 _ (by rw [HVL.out]; simp) hL, hph⟩
                  go_simp
                · skip
                  have y6 : L 6 = true := up_at hu 6 (by kernel_rfl)
                  have y7 : L 7 = true := up_at hu 7 (by kernel_rfl)
                  have q1 := HC1.out.2.1
                  have e99 : (many gg_ L (VL z))[99]?.getD undef = .int .i64 BHI := many_eval hgN (HOK.out z).1 (by rw [HVL.out]; simp [lookM, y6])
                  have e100 : (many gg_ L (VL z))[100]?.getD undef = .int .i64 QI := many_eval hgN (HOK.out z).1 (by rw [HVL.out]; simp [lookM, y7])
                  refine opIn_run (v := .int .i64 YI) (w' := w') rfl rfl (fun c h => by cases h) (fun _ => trivial) ?_ ⟨z, by exact many_put (HOK.out _) 8 101 _ (by rw [HVL.out]; simp) hL, hph⟩
                  go_simp
                · skip
                  have y8 : L 8 = true := up_at hu 8 (by kernel_rfl)
                  have q1 := HC1.out.2.2.2
                  have e101 : (many gg_ L (VL z))[101]?.getD undef = .int .i64 YI := many_eval hgN (HOK.out z).1 (by rw [HVL.out]; simp [lookM, y8])
                  refine opIn_run (v := .int .i64 y) (w' := w') rfl rfl (fun c h => by cases h) (fun _ => trivial) ?_ ⟨z, by exact many_put (HOK.out _) 9 102 _ (by rw [HVL.out]; simp) hL, hph⟩
                  go_simp
                · skip
                  have y0 : L 0 = true := up_at hu 0 (by kernel_rfl)
                  have y1 : L 1 = true := up_at hu 1 (by kernel_rfl)
                  have y2 : L 2 = true := up_at hu 2 (by kernel_rfl)
                  have y3 : L 3 = true := up_at hu 3 (by kernel_rfl)
                  have y4 : L 4 = true := up_at hu 4 (by kernel_rfl)
                  have e97 : (many gg_ L (VL z))[97]?.getD undef = .int .i64 x := many_eval hgN (HOK.out z).1 (by rw [HVL.out]; simp [lookM, y4])
                  refine opIn_run (v := .int .i64 x) (w' := w') rfl rfl (fun c h => by cases h) (fun _ => trivial) ?_ ⟨z, by exact many_put (HOK.out _) 10 18 _ (by rw [HVL.out]; simp) hL, hph⟩
                  go_simp
                · skip
                  have y0 : L 0 = true := up_at hu 0 (by kernel_rfl)
                  have y1 : L 1 = true := up_at hu 1 (by kernel_rfl)
                  have y2 : L 2 = true := up_at hu 2 (by kernel_rfl)
                  have y3 : L 3 = true := up_at hu 3 (by kernel_rfl)
                  have y4 : L 4 = true := up_at hu 4 (by kernel_rfl)
                  have y5 : L 5 = true := up_at hu 5 (by kernel_rfl)
                  have y6 : L 6 = true := up_at hu 6 (by kernel_rfl)
                  have y7 : L 7 = true := up_at hu 7 (by kernel_rfl)
                  have y8 : L 8 = true := up_at hu 8 (by kernel_rfl)
                  have y9 : L 9 = true := up_at hu 9 (by kernel_rfl)
                  have y10 : L 10 = true := up_at hu 10 (by kernel_rfl)
                  have e102 : (many gg_ L (VL z))[102]?.getD undef = .int .i64 y := many_eval hgN (HOK.out z).1 (by rw [HVL.out]; simp [lookM, y9])
                  refine opIn_run (v := .int .i64 y) (w' := w') rfl rfl (fun c h => by cases h) (fun _ => trivial) ?_ ⟨z, by exact many_put (HOK.out _) 11 19 _ (by rw [HVL.out]; simp) hL, hph⟩
                  go_simp
              case fin =>
                intro L z w' hall hph
                rw [HVL.out]
                dsimp only [manyL, List.set_cons_zero, List.set_cons_succ]
                clear hall HVL HOK HVI
                have HP := Lib.hid hph
                clear hph
                go_wp2_with fail
                go_meet
                exact ⟨rfl, rfl, HP⟩
            case rest =>
              obtain ⟨rfl, rfl, HM8⟩ := hcut
              clear HM7 HC1
              obtain ⟨g0, g1, g2, g3⟩ := rc_cells HM8.out.2.2
              go_wp2_with fail
              refine (LT.out _).mono ?_
              rintro e w7 ⟨rfl, hb⟩
              have HM8b : Hid (MkW w B [(#[.int .i64 b0, .int .i64 b1, .int .i64 b2, .int .i64 b3], 48), (#[.int .i64 z0, .int .i64 z1, .int .i64 z2, .int .i64 z3], 48), (#[.int .i64 tx, .int .i64 ty, .int .i64 lv, .int .i64 BWI, .int .i64 BHI, .int .i64 PRI, .int .i64 st, .int .i64 od, .int .i64 ly, .bool rct, .bool sop, .bool eph], 26)] w7 ∧ B + 3 ≤ bz ∧ w7.heap[bz]? = some (.cells #[.int .i64 p0, .int .i64 p1, .int .i64 p2, .int .i64 p3] 48 (0, 0))) := Lib.hid ⟨HM8.out.1.keep hb, HM8.out.2.1, (hb.block _ (Array.getElem?_eq_some_iff.1 HM8.out.2.2).1).trans HM8.out.2.2⟩
              clear hb g0 g1 g2 g3 HM8 LT
              go_upto_region 15 with fail
              obtain ⟨V9, hV9⟩ : ∃ V9, w7.alloc (Obj.cells #[.int .i64 c0, .int .i64 c1, .int .i64 (c0 + (wd : Int)), .int .i64 (c1 + (ht : Int))] 48) = V9 := ⟨_, rfl⟩
              obtain ⟨ez, hez⟩ : ∃ ez, w7.heap.size = ez := ⟨_, rfl⟩
              have HM9 : Hid ((MkW w B [(#[.int .i64 b0, .int .i64 b1, .int .i64 b2, .int .i64 b3], 48), (#[.int .i64 z0, .int .i64 z1, .int .i64 z2, .int .i64 z3], 48), (#[.int .i64 tx, .int .i64 ty, .int .i64 lv, .int .i64 BWI, .int .i64 BHI, .int .i64 PRI, .int .i64 st, .int .i64 od, .int .i64 ly, .bool rct, .bool sop, .bool eph], 26)] V9 ∧ B + 3 ≤ bz ∧ V9.heap[bz]? = some (.cells #[.int .i64 p0, .int .i64 p1, .int .i64 p2, .int .i64 p3] 48 (0, 0))) ∧ V9.heap[ez]? = some (.cells #[.int .i64 c0, .int .i64 c1, .int .i64 (c0 + (wd : Int)), .int .i64 (c1 + (ht : Int))] 48 (0, 0))) := Lib.hid (by
                rw [← hV9, ← hez]
                exact ⟨⟨HM8b.out.1.alloc _, HM8b.out.2.1, (Below.heap_alloc _ _ _ (Array.getElem?_eq_some_iff.1 HM8b.out.2.2).1).trans HM8b.out.2.2⟩, World.alloc_heap_new w7 _⟩)
              rw [hV9, hez]
              clear hV9 hez HM8b
              obtain ⟨VL, hVL⟩ : ∃ VL : Option Addr × Nat → List (Nat × Nat × Value), VL = fun z => [(0, 107, .agg #[.int .i64 p0, .int .i64 p1, .int .i64 p2, .int .i64 p3]), (1, 108, .agg #[.int .i64 c0, .int .i64 c1, .int .i64 (c0 + (wd : Int)), .int .i64 (c1 + (ht : Int))]), (2, 109, .int .i64 x), (3, 110, .int .i64 y), (4, 111, .slice z.1 (ht * wd) z.2), (5, 112, .pointer (some ⟨ez, 2, none⟩)), (6, 113, .int .i64 (c0 + (wd : Int))), (7, 114, .pointer (some ⟨ez, 0, none⟩)), (8, 115, .int .i64 c0), (9, 116, .int .i64 (wd : Int)), (10, 10, .slice z.1 (ht * wd) z.2), (11, 11, .int .i64 (wd : Int))] := ⟨_, rfl⟩
              have hok : ∀ z, manyOk 117 (VL z) := fun z => by rw [hVL]; exact ⟨by simp, by simp, by simp⟩
              have HVL := Lib.hid hVL
              have hvi : ∀ z, ∀ x ∈ VL z, x.1 < 12 := fun z => by rw [hVL]; simp
              have HOK := Lib.hid hok
              have HVI := Lib.hid hvi
              clear hVL hok hvi
              refine (wpIn_wide (n := 9)).1 (regionIn_many (N := 117) (w := _) VL (fun L z w' => (bif L 4 then (((MkW w B [(#[.int .i64 b0, .int .i64 b1, .int .i64 b2, .int .i64 b3], 48), (#[.int .i64 z0, .int .i64 z1, .int .i64 z2, .int .i64 z3], 48), (#[.int .i64 tx, .int .i64 ty, .int .i64 lv, .int .i64 BWI, .int .i64 BHI, .int .i64 PRI, .int .i64 st, .int .i64 od, .int .i64 ly, .bool rct, .bool sop, .bool eph], 26)] w' ∧ B + 3 ≤ bz ∧ w'.heap[bz]? = some (.cells #[.int .i64 p0, .int .i64 p1, .int .i64 p2, .int .i64 p3] 48 (0, 0))) ∧ w'.heap[ez]? = some (.cells #[.int .i64 c0, .int .i64 c1, .int .i64 (c0 + (wd : Int)), .int .i64 (c1 + (ht : Int))] 48 (0, 0))) ∧ RcL w' w'.heap.size (.slice z.1 (ht * wd) z.2) ((plP c0 c1 wd ht).map fun q => cellR p0 p1 p2 p3 x y q)) else (MkW w B [(#[.int .i64 b0, .int .i64 b1, .int .i64 b2, .int .i64 b3], 48), (#[.int .i64 z0, .int .i64 z1, .int .i64 z2, .int .i64 z3], 48), (#[.int .i64 tx, .int .i64 ty, .int .i64 lv, .int .i64 BWI, .int .i64 BHI, .int .i64 PRI, .int .i64 st, .int .i64 od, .int .i64 ly, .bool rct, .bool sop, .bool eph], 26)] w' ∧ B + 3 ≤ bz ∧ w'.heap[bz]? = some (.cells #[.int .i64 p0, .int .i64 p1, .int .i64 p2, .int .i64 p3] 48 (0, 0))) ∧ w'.heap[ez]? = some (.cells #[.int .i64 c0, .int .i64 c1, .int .i64 (c0 + (wd : Int)), .int .i64 (c1 + (ht : Int))] 48 (0, 0)))) [(17, .pointer (some ⟨bz, 0, none⟩)), (18, .int .i64 x), (19, .int .i64 y), (20, .pointer (some ⟨ez, 0, none⟩))] (by kernel_rfl) (by kernel_rfl) rfl (by simp only [List.forall_mem_cons, List.not_mem_nil, false_imp_iff, implies_true, and_true]; exact ⟨rfl, rfl, rfl, rfl⟩) HVI.out (none, 0) ?start ?step ?fin)
              case start => exact ⟨⟨HM9.out.1.1.drew, HM9.out.1.2⟩, HM9.out.2⟩
              case step =>
                intro gg_ hgN hgF ii_ hii_ L z w' hph hs hu
                have hF17 := hgF (17, .pointer (some ⟨bz, 0, none⟩)) (by simp)
                have hF18 := hgF (18, .int .i64 x) (by simp)
                have hF19 := hgF (19, .int .i64 y) (by simp)
                have hF20 := hgF (20, .pointer (some ⟨ez, 0, none⟩)) (by simp)
                have hL := hu.1
                have hii_ : ii_ < 12 := hii_
                clear hgF
                obtain rfl | rfl | rfl | rfl | rfl | rfl | rfl | rfl | rfl | rfl | rfl | rfl := (by omega : ii_ = 0 ∨ ii_ = 1 ∨ ii_ = 2 ∨ ii_ = 3 ∨ ii_ = 4 ∨ ii_ = 5 ∨ ii_ = 6 ∨ ii_ = 7 ∨ ii_ = 8 ∨ ii_ = 9 ∨ ii_ = 10 ∨ ii_ = 11)
                · skip
                  have n4 : L 4 = false := not_yet hL fun h => shut_at hs 4 0 (by kernel_rfl) (h)
                  have n10 : L 10 = false := not_yet hL fun h => shut_at hs 10 0 (by kernel_rfl) (h)
                  try simp only [n4, n10, hL, cond_true, cond_false] at hph
                  obtain ⟨g0, g1, g2, g3⟩ := rc_cells hph.1.2.2
                  have e17 : (many gg_ L (VL z))[17]?.getD undef = .pointer (some ⟨bz, 0, none⟩) := many_out hgN (HOK.out z).1 (by rw [HVL.out]; rfl) hF17
                  refine opIn_run (v := .agg #[.int .i64 p0, .int .i64 p1, .int .i64 p2, .int .i64 p3]) (w' := w') rfl rfl (fun c h => by cases h) (fun _ => trivial) ?_ ⟨z, by exact many_put (HOK.out _) 0 107 _ (by rw [HVL.out]; simp) hL, by simp only [upd, n4, n10, hL, Nat.reduceBEq, cond_true, cond_false]; exact hph⟩
                  go_simp
                · skip
                  have n4 : L 4 = false := not_yet hL fun h => shut_at hs 4 1 (by kernel_rfl) (h)
                  have n10 : L 10 = false := not_yet hL fun h => shut_at hs 10 1 (by kernel_rfl) (h)
                  try simp only [n4, n10, hL, cond_true, cond_false] at hph
                  obtain ⟨g0, g1, g2, g3⟩ := rc_cells hph.2
                  have e20 : (many gg_ L (VL z))[20]?.getD undef = .pointer (some ⟨ez, 0, none⟩) := many_out hgN (HOK.out z).1 (by rw [HVL.out]; rfl) hF20
                  refine opIn_run (v := .agg #[.int .i64 c0, .int .i64 c1, .int .i64 (c0 + (wd : Int)), .int .i64 (c1 + (ht : Int))]) (w' := w') rfl rfl (fun c h => by cases h) (fun _ => trivial) ?_ ⟨z, by exact many_put (HOK.out _) 1 108 _ (by rw [HVL.out]; simp) hL, by simp only [upd, n4, n10, hL, Nat.reduceBEq, cond_true, cond_false]; exact hph⟩
                  go_simp
                · skip
                  have n4 : L 4 = false := not_yet hL fun h => shut_at hs 4 2 (by kernel_rfl) (h)
                  have n10 : L 10 = false := not_yet hL fun h => shut_at hs 10 2 (by kernel_rfl) (h)
                  try simp only [n4, n10, hL, cond_true, cond_false] at hph
                  have e18 : (many gg_ L (VL z))[18]?.getD undef = .int .i64 x := many_out hgN (HOK.out z).1 (by rw [HVL.out]; rfl) hF18
                  refine opIn_run (v := .int .i64 x) (w' := w') rfl rfl (fun c h => by cases h) (fun _ => trivial) ?_ ⟨z, by exact many_put (HOK.out _) 2 109 _ (by rw [HVL.out]; simp) hL, by simp only [upd, n4, n10, hL, Nat.reduceBEq, cond_true, cond_false]; exact hph⟩
                  go_simp
                · skip
                  have n4 : L 4 = false := not_yet hL fun h => shut_at hs 4 3 (by kernel_rfl) (h)
                  have n10 : L 10 = false := not_yet hL fun h => shut_at hs 10 3 (by kernel_rfl) (h)
                  try simp only [n4, n10, hL, cond_true, cond_false] at hph
                  have e19 : (many gg_ L (VL z))[19]?.getD undef = .int .i64 y := many_out hgN (HOK.out z).1 (by rw [HVL.out]; rfl) hF19
                  refine opIn_run (v := .int .i64 y) (w' := w') rfl rfl (fun c h => by cases h) (fun _ => trivial) ?_ ⟨z, by exact many_put (HOK.out _) 3 110 _ (by rw [HVL.out]; simp) hL, by simp only [upd, n4, n10, hL, Nat.reduceBEq, cond_true, cond_false]; exact hph⟩
                  go_simp
                · skip
                  have y0 : L 0 = true := up_at hu 0 (by kernel_rfl)
                  have y1 : L 1 = true := up_at hu 1 (by kernel_rfl)
                  have y2 : L 2 = true := up_at hu 2 (by kernel_rfl)
                  have y3 : L 3 = true := up_at hu 3 (by kernel_rfl)
                  have n10 : L 10 = false := not_yet hL fun h => shut_at hs 10 4 (by kernel_rfl) (h)
                  try simp only [y0, y1, y2, y3, n10, hL, cond_true, cond_false] at hph
                  have e107 : (many gg_ L (VL z))[107]?.getD undef = .agg #[.int .i64 p0, .int .i64 p1, .int .i64 p2, .int .i64 p3] := many_eval hgN (HOK.out z).1 (by rw [HVL.out]; simp [lookM, y0])
                  have e108 : (many gg_ L (VL z))[108]?.getD undef = .agg #[.int .i64 c0, .int .i64 c1, .int .i64 (c0 + (wd : Int)), .int .i64 (c1 + (ht : Int))] := many_eval hgN (HOK.out z).1 (by rw [HVL.out]; simp [lookM, y1])
                  have e109 : (many gg_ L (VL z))[109]?.getD undef = .int .i64 x := many_eval hgN (HOK.out z).1 (by rw [HVL.out]; simp [lookM, y2])
                  have e110 : (many gg_ L (VL z))[110]?.getD undef = .int .i64 y := many_eval hgN (HOK.out z).1 (by rw [HVL.out]; simp [lookM, y3])
                  refine opIn_call (f := 45) (args := #[.agg #[.int .i64 p0, .int .i64 p1, .int .i64 p2, .int .i64 p3], .agg #[.int .i64 c0, .int .i64 c1, .int .i64 (c0 + (wd : Int)), .int .i64 (c1 + (ht : Int))], .int .i64 x, .int .i64 y]) (w' := w') rfl rfl (fun c h => by cases h) (fun _ => trivial) rfl (by go_simp) ((callsIn_wide.2 (CT.out w')).mono ?_)
                  rintro e w2 ⟨A5, C5, rfl, ho, hb⟩
                  exact ⟨_, rfl, (A5, C5), by rw [show many gg_ L (VL z) = many gg_ L (VL (A5, C5)) from by rw [HVL.out]; simp only [many, y0, y1, y2, y3, n10, hL, cond_false, cond_true]]; exact many_put (HOK.out _) 4 111 _ (by rw [HVL.out]; simp) hL, by simp only [upd, y0, y1, y2, y3, n10, hL, Nat.reduceBEq, cond_true, cond_false]; exact ⟨⟨⟨hph.1.1.keep hb, hph.1.2.1, (hb.block _ (Array.getElem?_eq_some_iff.1 hph.1.2.2).1).trans hph.1.2.2⟩, (hb.block _ (Array.getElem?_eq_some_iff.1 hph.2).1).trans hph.2⟩, RcL.own (by rw [← List.flatMap_map] at ho; exact ho) (by rw [List.length_map, plP_len])⟩⟩
                · skip
                  try simp only [hL, cond_true, cond_false] at hph
                  have e20 : (many gg_ L (VL z))[20]?.getD undef = .pointer (some ⟨ez, 0, none⟩) := many_out hgN (HOK.out z).1 (by rw [HVL.out]; rfl) hF20
                  refine opIn_run (v := .pointer (some ⟨ez, 2, none⟩)) (w' := w') rfl rfl (fun c h => by cases h) (fun _ => trivial) ?_ ⟨z, by exact many_put (HOK.out _) 5 112 _ (by rw [HVL.out]; simp) hL, by simp only [upd, hL, Nat.reduceBEq, cond_true, cond_false]; exact hph⟩
                  go_simp
                · skip
                  have y5 : L 5 = true := up_at hu 5 (by kernel_rfl)
                  try simp only [y5, hL, cond_true, cond_false] at hph
                  have hcell : w'.cell? ⟨ez, 2, none⟩ = some (.int .i64 (c0 + (wd : Int))) := by revert hph; cases L 4 <;> (intro hph; first | exact blk_cell hph.1.2 2 | exact blk_cell hph.2 2)
                  have e112 : (many gg_ L (VL z))[112]?.getD undef = .pointer (some ⟨ez, 2, none⟩) := many_eval hgN (HOK.out z).1 (by rw [HVL.out]; simp [lookM, y5])
                  refine opIn_run (v := .int .i64 (c0 + (wd : Int))) (w' := w') rfl rfl (fun c h => by cases h) (fun _ => trivial) ?_ ⟨z, by exact many_put (HOK.out _) 6 113 _ (by rw [HVL.out]; simp) hL, by simp only [upd, y5, hL, Nat.reduceBEq, cond_true, cond_false]; exact hph⟩
                  go_simp
                · skip
                  try simp only [hL, cond_true, cond_false] at hph
                  have e20 : (many gg_ L (VL z))[20]?.getD undef = .pointer (some ⟨ez, 0, none⟩) := many_out hgN (HOK.out z).1 (by rw [HVL.out]; rfl) hF20
                  refine opIn_run (v := .pointer (some ⟨ez, 0, none⟩)) (w' := w') rfl rfl (fun c h => by cases h) (fun _ => trivial) ?_ ⟨z, by exact many_put (HOK.out _) 7 114 _ (by rw [HVL.out]; simp) hL, by simp only [upd, hL, Nat.reduceBEq, cond_true, cond_false]; exact hph⟩
                  go_simp
                · skip
                  have y7 : L 7 = true := up_at hu 7 (by kernel_rfl)
                  try simp only [y7, hL, cond_true, cond_false] at hph
                  have hcell : w'.cell? ⟨ez, 0, none⟩ = some (.int .i64 c0) := by revert hph; cases L 4 <;> (intro hph; first | exact blk_cell hph.1.2 0 | exact blk_cell hph.2 0)
                  have e114 : (many gg_ L (VL z))[114]?.getD undef = .pointer (some ⟨ez, 0, none⟩) := many_eval hgN (HOK.out z).1 (by rw [HVL.out]; simp [lookM, y7])
                  refine opIn_run (v := .int .i64 c0) (w' := w') rfl rfl (fun c h => by cases h) (fun _ => trivial) ?_ ⟨z, by exact many_put (HOK.out _) 8 115 _ (by rw [HVL.out]; simp) hL, by simp only [upd, y7, hL, Nat.reduceBEq, cond_true, cond_false]; exact hph⟩
                  go_simp
                · skip
                  have y6 : L 6 = true := up_at hu 6 (by kernel_rfl)
                  have y8 : L 8 = true := up_at hu 8 (by kernel_rfl)
                  try simp only [y6, y8, hL, cond_true, cond_false] at hph
                  have q1 := HW.out.1
                  have q2 := HW.out.2.1
                  have q3 := HW.out.2.2
                  have e113 : (many gg_ L (VL z))[113]?.getD undef = .int .i64 (c0 + (wd : Int)) := many_eval hgN (HOK.out z).1 (by rw [HVL.out]; simp [lookM, y6])
                  have e115 : (many gg_ L (VL z))[115]?.getD undef = .int .i64 c0 := many_eval hgN (HOK.out z).1 (by rw [HVL.out]; simp [lookM, y8])
                  refine opIn_run (v := .int .i64 (wd : Int)) (w' := w') rfl rfl (fun c h => by cases h) (fun _ => trivial) ?_ ⟨z, by exact many_put (HOK.out _) 9 116 _ (by rw [HVL.out]; simp) hL, by simp only [upd, y6, y8, hL, Nat.reduceBEq, cond_true, cond_false]; exact hph⟩
                  go_simp
                · skip
                  have y0 : L 0 = true := up_at hu 0 (by kernel_rfl)
                  have y1 : L 1 = true := up_at hu 1 (by kernel_rfl)
                  have y2 : L 2 = true := up_at hu 2 (by kernel_rfl)
                  have y3 : L 3 = true := up_at hu 3 (by kernel_rfl)
                  have y4 : L 4 = true := up_at hu 4 (by kernel_rfl)
                  try simp only [y0, y1, y2, y3, y4, hL, cond_true, cond_false] at hph
                  have e111 : (many gg_ L (VL z))[111]?.getD undef = .slice z.1 (ht * wd) z.2 := many_eval hgN (HOK.out z).1 (by rw [HVL.out]; simp [lookM, y4])
                  refine opIn_run (v := .slice z.1 (ht * wd) z.2) (w' := w') rfl rfl (fun c h => by cases h) (fun _ => trivial) ?_ ⟨z, by exact many_put (HOK.out _) 10 10 _ (by rw [HVL.out]; simp) hL, by simp only [upd, y0, y1, y2, y3, y4, hL, Nat.reduceBEq, cond_true, cond_false]; exact hph⟩
                  go_simp
                · skip
                  have y0 : L 0 = true := up_at hu 0 (by kernel_rfl)
                  have y1 : L 1 = true := up_at hu 1 (by kernel_rfl)
                  have y2 : L 2 = true := up_at hu 2 (by kernel_rfl)
                  have y3 : L 3 = true := up_at hu 3 (by kernel_rfl)
                  have y4 : L 4 = true := up_at hu 4 (by kernel_rfl)
                  have y5 : L 5 = true := up_at hu 5 (by kernel_rfl)
                  have y6 : L 6 = true := up_at hu 6 (by kernel_rfl)
                  have y7 : L 7 = true := up_at hu 7 (by kernel_rfl)
                  have y8 : L 8 = true := up_at hu 8 (by kernel_rfl)
                  have y9 : L 9 = true := up_at hu 9 (by kernel_rfl)
                  have y10 : L 10 = true := up_at hu 10 (by kernel_rfl)
                  try simp only [y0, y1, y2, y3, y4, y5, y6, y7, y8, y9, y10, hL, cond_true, cond_false] at hph
                  have e116 : (many gg_ L (VL z))[116]?.getD undef = .int .i64 (wd : Int) := many_eval hgN (HOK.out z).1 (by rw [HVL.out]; simp [lookM, y9])
                  refine opIn_run (v := .int .i64 (wd : Int)) (w' := w') rfl rfl (fun c h => by cases h) (fun _ => trivial) ?_ ⟨z, by exact many_put (HOK.out _) 11 11 _ (by rw [HVL.out]; simp) hL, by simp only [upd, y0, y1, y2, y3, y4, y5, y6, y7, y8, y9, y10, hL, Nat.reduceBEq, cond_true, cond_false]; exact hph⟩
                  go_simp
              case fin =>
                intro L z w' hall hph
                have l4 := hall 4 (by decide)
                simp only [l4, cond_true] at hph
                clear l4
                rw [HVL.out]
                dsimp only [manyL, List.set_cons_zero, List.set_cons_succ]
                clear hall HVL HOK HVI
                have HP := Lib.hid hph
                clear hph
                have hR1 : R.1 = ((plP c0 c1 wd ht).map fun q => cellR p0 p1 p2 p3 x y q) := by rw [HRR.out.1]; exact HRR.out.2
                have hR2 : R.2 = (wd : Int) := by rw [HRR.out.1]
                have hRl : R.1.length = ht * wd := by rw [hR1, List.length_map, plP_len]
                have HRN := Lib.hid (And.intro hR1 (And.intro hR2 hRl))
                clear hR1 hR2 hRl
                go_wp2
                go_ret2
                rw [HRN.out.2.1, HRN.out.2.2, HRN.out.1]
                exact ⟨z.1, z.2, rfl, HP.out.2, by rw [HBE.out]; exact HP.out.1.1.1.bel⟩
theorem blocks_any (b z : Rc4) (tx ty lv st od ly : Int) (rct sop eph : Bool) (bw bh pr r k : Nat) (w : World) (hb : inN b 255) (hbl : b.1 ≤ b.2.2.1 ∧ b.2.1 ≤ b.2.2.2) (hz : inN z 255) (hzl : z.1 ≤ z.2.2.1 ∧ z.2.1 ≤ z.2.2.2) (hpr : 1 ≤ pr ∧ pr ≤ 15) (hbw : 2 ≤ bw ∧ bw ≤ 6) (hbh : 2 ≤ bh ∧ bh ≤ 6) (hk : k ≤ 100000) (hr : r ≤ 100) :
    Calls Try.prog 30 #[rA b, rA z, .agg #[.int .i64 tx, .int .i64 ty, .int .i64 lv, .int .i64 (bw : Int), .int .i64 (bh : Int), .int .i64 (pr : Int), .int .i64 st, .int .i64 od, .int .i64 ly, .bool rct, .bool sop, .bool eph], .int .i64 (r : Int), .int .i64 (k : Int)] w fun e w' =>
      ∃ A c, e = .returned (.tuple #[.slice A (blkF b z pr bw bh r k).1.length c, .int .i64 (blkF b z pr bw bh r k).2]) ∧ RcL w' w'.heap.size (.slice A (blkF b z pr bw bh r k).1.length c) (blkF b z pr bw bh r k).1 ∧ Below w.heap.size w w' := by
  have hp := pow16 pr (by omega)
  have h := pc_bd (z := z) (m := 255) ((2 ^ pr : Nat) : Int) hp.1 (by omega) hz hzl
  obtain ⟨b0, b1, b2, b3⟩ := b
  obtain ⟨z0, z1, z2, z3⟩ := z
  obtain ⟨hb1, hb2, hb3, hb4⟩ := hb
  obtain ⟨hz1, hz2, hz3, hz4⟩ := hz
  simp only at hb1 hb2 hb3 hb4 hz1 hz2 hz3 hz4 hbl hzl
  exact blocks_walk b0 b1 b2 b3 z0 z1 z2 z3 tx ty lv st od ly rct sop eph bw bh pr r k _ _ _ _ _ (Lib.hid ⟨rfl, rfl, rfl, rfl, rfl⟩) w (by omega) (by omega) (by omega) (by omega) (by omega) (by omega) (by omega) (by omega) (by omega)
    (pcF (z0, z1, z2, z3) ((2 ^ pr : Nat) : Int)).1 (pcF (z0, z1, z2, z3) ((2 ^ pr : Nat) : Int)).2 (pcF (z0, z1, z2, z3) ((2 ^ pr : Nat) : Int)).1.toNat (pcF (z0, z1, z2, z3) ((2 ^ pr : Nat) : Int)).2.toNat (Lib.hid rfl) (Lib.hid ⟨by omega, by omega⟩) h.1 h.2 _ (Lib.hid rfl)
end Go.Proofs.Ythcpmonahmogaaa
