/- canvas: the reference's Blocks by its contract. -/
import Derived.Test.YthcpmonahmogaaaCvO0
import Derived.Test.YthcpmonahmogaaaCvM2
import Derived.Test.YthcpmonahmogaaaCvM4
import Derived.Deep.CutRange
import Derived.Deep.CutBlock
import Derived.Deep.LoopGhost
set_option linter.unusedVariables false
set_option linter.unusedSimpArgs false
namespace Go.Proofs.Ythcpmonahmogaaa
open Go.RowKit
set_option maxRecDepth 100000
attribute [local go_sem ↓] appSem_eq
theorem u64_of (x : Int) (h : 0 ≤ x ∧ x ≤ 100) : IntKind.u64.wrap x = x := IntWalk.u64_in _ (by omega)
theorem lt_ceil {a b y : Int} (hy : 1 ≤ y) : b * y < a ↔ b < ceilF a y := by
  have h1 : ceilF a y = -((-a) / y) := by
    unfold ceilF
    have e1 := Int.mul_ediv_add_emod a y
    have hr0 := Int.emod_nonneg a (show y ≠ 0 by omega)
    have hlt := Int.emod_lt_of_pos a (show 0 < y by omega)
    generalize a / y = q at *
    generalize a % y = r at *
    subst e1
    by_cases c : 0 < r
    · rw [if_pos c, show -(y * q + r) = (y - r) + y * (-(q + 1)) by rw [Int.mul_neg, Int.mul_add, Int.mul_one]; omega, Int.add_mul_ediv_left _ _ (by omega), Int.ediv_eq_zero_of_lt (by omega) (by omega)]
      omega
    · rw [if_neg c, show -(y * q + r) = 0 + y * (-q) by rw [Int.mul_neg]; omega, Int.add_mul_ediv_left _ _ (by omega), Int.ediv_eq_zero_of_lt (by omega) (by omega)]
      omega
  rw [h1]
  have h2 : (-a) / y < -b ↔ -a < -b * y := Int.ediv_lt_iff_lt_mul (by omega)
  rw [Int.neg_mul] at h2
  omega
set_option maxHeartbeats 2000000 in
theorem rarea2_any (x0 y0 x1 y1 : Int) (w : World) (h0 : -100000000 ≤ x1 - x0 ∧ x1 - x0 ≤ 1000) (h1 : -100000000 ≤ y1 - y0 ∧ y1 - y0 ≤ 1000) (h2 : 0 ≤ x0 ∧ 0 ≤ y0) (h3 : 0 ≤ x1 ∧ x1 ≤ 1000) (h4 : 0 ≤ y1 ∧ y1 ≤ 1000) :
    Calls Try.prog 32 #[.agg #[.int .i64 x0, .int .i64 y0, .int .i64 x1, .int .i64 y1]] w fun e w' => e = .returned (.int .i64 (maxJ (x1 - x0) 0 * maxJ (y1 - y0) 0)) ∧ Below w.heap.size w w' := by
  obtain ⟨a, ha⟩ : ∃ a, maxJ (x1 - x0) 0 = a := ⟨_, rfl⟩
  obtain ⟨b, hb⟩ : ∃ b, maxJ (y1 - y0) 0 = b := ⟨_, rfl⟩
  have hab : 0 ≤ a ∧ a ≤ 1000 := by rw [← ha]; unfold maxJ; split <;> omega
  have hbb : 0 ≤ b ∧ b ≤ 1000 := by rw [← hb]; unfold maxJ; split <;> omega
  have p0 : 0 ≤ a * b := Int.mul_nonneg (by omega) (by omega)
  have p1 : a * b ≤ 1000 * 1000 := Int.mul_le_mul (by omega) (by omega) (by omega) (by omega)
  have m1 : (if x1 - x0 < 0 then (0 : Int) else x1 - x0) = a := ha
  have m2 : (if y1 - y0 < 0 then (0 : Int) else y1 - y0) = b := hb
  rw [ha, hb]
  clear ha hb
  go_enter Try.func32, Try.ntmps32
  go_wp2
  go_ret
  exact ⟨rfl, (Below.refl _ w).alloc (Nat.le_refl _) _⟩
/-- The reference's Blocks between two rounds. -/
structure RB (w : World) (B bz : Nat) (l : List (Array Value × TypeId)) (P : Array Value) (V : Value) (m : Nat) (rs : List Rc4) (wr : World) : Prop where
  wk : MkW w B l wr
  ge : B + l.length ≤ bz
  part : wr.heap[bz]? = some (.cells P 48 (0, 0))
  own : wr.ownsRow (bz + 1) 48 4 V m (rs.flatMap recV)
theorem RB.keep {w wr w' : World} {B bz m : Nat} {l : List (Array Value × TypeId)} {P : Array Value} {V : Value} {rs : List Rc4} (h : RB w B bz l P V m rs wr) (hb : Below wr.heap.size wr w') : RB w B bz l P V m rs w' :=
  ⟨h.wk.keep hb, h.ge, (hb.block _ (Array.getElem?_eq_some_iff.1 h.part).1).trans h.part, ownsRow_keep h.own hb.size (fun k e => hb.block k (own_lt h.own e).2)⟩
theorem RB.app {w wr : World} {B bz m : Nat} {l : List (Array Value × TypeId)} {P : Array Value} {V : Value} {rs : List Rc4} (h : RB w B bz l P V m rs wr) (a b c d : Int) (hm : m ≤ 100000) :
    ∃ A k w', (appSem #[44, 44] 44 #[V, .slice (some ⟨wr.heap.size, 0, none⟩) 1 1]).run Try.prog (wr.alloc (Obj.cells #[.int .i64 a, .int .i64 b, .int .i64 c, .int .i64 d] 48)) = .ok (.slice A (m + 1) k) w' ∧ RB w B bz l P (.slice A (m + 1) k) (m + 1) (rs ++ [(a, b, c, d)]) w' := by
  have hs := (Array.getElem?_eq_some_iff.1 h.part).1
  have o1 := h.own.alloc (Obj.cells #[.int .i64 a, .int .i64 b, .int .i64 c, .int .i64 d] 48)
  obtain ⟨v', w', hr, ho, hg, _⟩ := app_rect o1 (World.alloc_heap_new wr _) (by simp; omega) hm
  obtain ⟨A, k, rfl, _⟩ := own_any ho
  have hge : ∀ q, V.ownBlock = some q → bz + 1 ≤ q := fun q e => (own_lt o1 e).1
  have hgl := h.ge
  refine ⟨A, k, w', hr, (h.wk.alloc _).grown hg (fun q e => by have := hge q e; omega), h.ge, ?_, by rw [List.flatMap_append]; simpa using ho⟩
  rw [hg.block bz (by simp; omega) (fun e => by have := hge _ e.symm; omega), Below.heap_alloc _ _ _ hs]
  exact h.part
set_option maxHeartbeats 16000000 in
theorem rblocks_walk (b0 b1 b2 b3 z0 z1 z2 z3 : Int) (tx ty lv st od ly : Int) (rct sop eph : Bool) (bw bh pr r k : Nat) (BWI BHI PRI RI KI : Int) (HNI : Hid (BWI = (bw : Int) ∧ BHI = (bh : Int) ∧ PRI = (pr : Int) ∧ RI = (r : Int) ∧ KI = (k : Int))) (w : World)
    (hb0 : 0 ≤ b0 ∧ b0 ≤ b2 ∧ b2 ≤ 255) (hb1 : 0 ≤ b1 ∧ b1 ≤ b3 ∧ b3 ≤ 255) (hz0 : 0 ≤ z0 ∧ z0 ≤ z2 ∧ z2 ≤ 255) (hz1 : 0 ≤ z1 ∧ z1 ≤ z3 ∧ z3 ≤ 255) (hpr : 1 ≤ PRI ∧ PRI ≤ 15) (hbw : 2 ≤ BWI ∧ BWI ≤ 6) (hbh : 2 ≤ BHI ∧ BHI ≤ 6) (hk : 0 ≤ KI ∧ KI ≤ 100000) (hr : 0 ≤ RI ∧ RI ≤ 100)
    (CW RH : Int) (cw rh : Nat) (HPC : Hid (pcF (z0, z1, z2, z3) ((2 ^ pr : Nat) : Int) = (CW, RH))) (HCW : Hid (CW = (cw : Int) ∧ RH = (rh : Int))) (hcw : 0 ≤ CW ∧ CW ≤ 255) (hrh : 0 ≤ RH ∧ RH ≤ 255) (R : List Rc4 × Int) (HR : Hid (blkF (b0, b1, b2, b3) (z0, z1, z2, z3) pr bw bh r k = R)) :
    Calls Try.prog 31 #[.agg #[.int .i64 b0, .int .i64 b1, .int .i64 b2, .int .i64 b3], .agg #[.int .i64 z0, .int .i64 z1, .int .i64 z2, .int .i64 z3], .agg #[.int .i64 tx, .int .i64 ty, .int .i64 lv, .int .i64 BWI, .int .i64 BHI, .int .i64 PRI, .int .i64 st, .int .i64 od, .int .i64 ly, .bool rct, .bool sop, .bool eph], .int .i64 RI, .int .i64 KI] w fun e w' => ∃ A c, e = .returned (.tuple #[.slice A R.1.length c, .int .i64 R.2]) ∧ RcL w' w'.heap.size (.slice A R.1.length c) R.1 ∧ Below w.heap.size w w' := by
  have PC := Lib.hid (fun u => rprec_any (z0, z1, z2, z3) pr u ⟨by simp only; omega, by simp only; omega, by simp only; omega, by simp only; omega⟩ (by simp only; omega) (by have := HNI.out; omega))
  rw [HPC.out, ← HNI.out.2.2.1] at PC
  unfold rA at PC
  simp only at PC
  go_enter Try.func31, Try.ntmps31
  go_upto_region 1 with fail
  obtain ⟨B, hBe⟩ : ∃ B, w.heap.size = B := ⟨_, rfl⟩
  obtain ⟨V1, hV1⟩ : ∃ V1, ((w.alloc (Obj.cells #[.int .i64 b0, .int .i64 b1, .int .i64 b2, .int .i64 b3] 48)).alloc (Obj.cells #[.int .i64 z0, .int .i64 z1, .int .i64 z2, .int .i64 z3] 48)).alloc (Obj.cells #[.int .i64 tx, .int .i64 ty, .int .i64 lv, .int .i64 BWI, .int .i64 BHI, .int .i64 PRI, .int .i64 st, .int .i64 od, .int .i64 ly, .bool rct, .bool sop, .bool eph] 26) = V1 := ⟨_, rfl⟩
  have HM3 : Hid (MkW w B [(#[.int .i64 b0, .int .i64 b1, .int .i64 b2, .int .i64 b3], 48), (#[.int .i64 z0, .int .i64 z1, .int .i64 z2, .int .i64 z3], 48), (#[.int .i64 tx, .int .i64 ty, .int .i64 lv, .int .i64 BWI, .int .i64 BHI, .int .i64 PRI, .int .i64 st, .int .i64 od, .int .i64 ly, .bool rct, .bool sop, .bool eph], 26)] V1) := Lib.hid (by
    have h0 : MkW w B [] w := ⟨fun i c e => by simp at e, Below.refl _ _, by simp; omega⟩
    have h1 := ((h0.more (by simp; omega) #[.int .i64 b0, .int .i64 b1, .int .i64 b2, .int .i64 b3] 48).more (by simp; omega) #[.int .i64 z0, .int .i64 z1, .int .i64 z2, .int .i64 z3] 48).more (by simp; omega) #[.int .i64 tx, .int .i64 ty, .int .i64 lv, .int .i64 BWI, .int .i64 BHI, .int .i64 PRI, .int .i64 st, .int .i64 od, .int .i64 ly, .bool rct, .bool sop, .bool eph] 26
    rw [← hV1]; exact h1)
  rw [hV1, hBe]
  have HBE := Lib.hid hBe
  clear hV1 hBe
  obtain ⟨x0', x1', x2', x3'⟩ := rc_cells (HM3.out.b 1 _ rfl)
  have g5 : V1.cell? ⟨B + 2, 5, none⟩ = some (.int .i64 PRI) := blk_cell (HM3.out.b 2 _ rfl) 5
  go_wp2_with fail
  refine (PC.out _).mono ?_
  rintro e w5 ⟨rfl, hb⟩
  have HM4 := Lib.hid (HM3.out.keep hb)
  clear hb x0' x1' x2' x3' g5 HM3 PC
  have hmul : cw * rh ≤ 255 * 255 := Nat.mul_le_mul (by have := HCW.out; omega) (by have := HCW.out; omega)
  obtain ⟨T, hT⟩ : ∃ T, cw * rh = T := ⟨_, rfl⟩
  have s2 : CW * RH = (T : Int) := by rw [HCW.out.1, HCW.out.2, ← Int.natCast_mul, hT]
  have s1 : wrap64 (CW * RH) = (T : Int) := by rw [s2]; exact w64_in (by omega)
  have k0 : ¬ KI < 0 := by omega
  rw [hT] at hmul
  have HT := Lib.hid hT
  clear hT
  by_cases hkT : (T : Int) ≤ KI
  · have t1 := hkT
    have hR : R = ([], 0) := by
      rw [← HR.out]
      unfold blkF
      rw [if_pos (Or.inl (by rw [HPC.out]; simp only; rw [s2]; have := HNI.out.2.2.2.2; omega))]
    subst hR
    clear s2
    go_wp2
    go_ret2
    exact ⟨none, 0, rfl, ⟨none, 0, rfl, fun i c e => by simp at e⟩, by rw [HBE.out]; exact HM4.out.bel⟩
  · have t1 := hkT
    have hcw1 : 1 ≤ cw := by
      rcases Nat.eq_zero_or_pos cw with h | h
      · exfalso; have := HT.out; rw [h] at this; simp at this; omega
      · exact h
    have HS2 := Lib.hid s2
    clear s2
    have hki : k < T := by have := HNI.out.2.2.2.2; omega
    obtain ⟨m, hm⟩ : ∃ m, k % cw = m := ⟨_, rfl⟩
    obtain ⟨d, hd⟩ : ∃ d, k / cw = d := ⟨_, rfl⟩
    have hml : m < cw := by rw [← hm]; exact Nat.mod_lt _ hcw1
    have hdl : d < rh := by rw [← hd]; exact Nat.div_lt_of_lt_mul (by have := HT.out; omega)
    have hmI : (m : Int) ≤ 255 ∧ (d : Int) ≤ 255 := by have := HCW.out; omega
    obtain ⟨N, hN⟩ : ∃ N : Int, ((2 ^ pr : Nat) : Int) = N := ⟨_, rfl⟩
    have hNb := pow16 pr (by have := HNI.out; omega)
    rw [hN] at hNb
    obtain ⟨i0, hi0⟩ : ∃ i, z0 / N = i := ⟨_, rfl⟩
    obtain ⟨j0, hj0⟩ : ∃ i, z1 / N = i := ⟨_, rfl⟩
    have hi0b : 0 ≤ i0 ∧ i0 ≤ 255 := by
      have h1 : 0 ≤ z0 / N := Int.ediv_nonneg (by omega) (by omega)
      have h2 : z0 / N ≤ z0 := Int.ediv_le_self _ (by omega)
      omega
    have hj0b : 0 ≤ j0 ∧ j0 ≤ 255 := by
      have h1 : 0 ≤ z1 / N := Int.ediv_nonneg (by omega) (by omega)
      have h2 : z1 / N ≤ z1 := Int.ediv_le_self _ (by omega)
      omega
    have hp2 : (2 : Int) ^ PRI.toNat = N := by rw [← hN, HNI.out.2.2.1, Int.toNat_natCast]; simp
    have HV : Hid (z0.tdiv N = i0 ∧ z1.tdiv N = j0 ∧ KI.tmod CW = (m : Int) ∧ KI.tdiv CW = (d : Int)) := Lib.hid (by
      have hn := HNI.out
      have hc := HCW.out
      refine ⟨by rw [Int.tdiv_eq_ediv_of_nonneg (by omega), hi0], by rw [Int.tdiv_eq_ediv_of_nonneg (by omega), hj0], ?_, ?_⟩
      · rw [hn.2.2.2.2, hc.1, Int.tmod_eq_emod_of_nonneg (by omega), ← hm]; rfl
      · rw [hn.2.2.2.2, hc.1, Int.tdiv_eq_ediv_of_nonneg (by omega), ← hd]; rfl)
    obtain ⟨I, hI⟩ : ∃ I, i0 + (m : Int) = I := ⟨_, rfl⟩
    obtain ⟨J, hJ⟩ : ∃ J, j0 + (d : Int) = J := ⟨_, rfl⟩
    have hIb : 0 ≤ I ∧ I ≤ 510 := by omega
    have hJb : 0 ≤ J ∧ J ≤ 510 := by omega
    have HS : Hid (IntKind.i64.wrap i0 = i0 ∧ IntKind.i64.wrap j0 = j0 ∧ IntKind.i64.wrap (m : Int) = (m : Int) ∧ IntKind.i64.wrap (d : Int) = (d : Int) ∧ IntKind.i64.wrap (i0 + (m : Int)) = I ∧ IntKind.i64.wrap (j0 + (d : Int)) = J) := Lib.hid ⟨IntWalk.i64_in _ (by omega), IntWalk.i64_in _ (by omega), IntWalk.i64_in _ (by omega), IntWalk.i64_in _ (by omega), by rw [hI]; exact IntWalk.i64_in _ (by omega), by rw [hJ]; exact IntWalk.i64_in _ (by omega)⟩
    have HIJ : Hid (z0 / ((2 ^ pr : Nat) : Int) + ((k % cw : Nat) : Int) = I ∧ z1 / ((2 ^ pr : Nat) : Int) + ((k / cw : Nat) : Int) = J) := Lib.hid (by rw [hN, hi0, hj0, hm, hd]; exact ⟨hI, hJ⟩)
    have hc0 : ¬ CW = 0 := by have := HCW.out; omega
    have hc1 : 1 ≤ CW := by have := HCW.out; omega
    have HN := Lib.hid hN
    clear hi0 hj0 hm hd hp2 hI hJ hN hml hdl hki
    have hN0 : ¬ N = 0 := by omega
    obtain ⟨ee, hee⟩ : ∃ ee, PRI.toNat = ee := ⟨_, rfl⟩
    have HN4 : Hid (wrap64 ((2 : Int) ^ ee) = N) := Lib.hid (by
      rw [show (2 : Int) ^ ee = N by rw [← HN.out, ← hee, HNI.out.2.2.1, Int.toNat_natCast]; simp]
      exact w64_in (by omega))
    have g5 : w5.cell? ⟨B + 2, 5, none⟩ = some (.int .i64 PRI) := blk_cell (HM4.out.b 2 _ rfl) 5
    go_upto_region 5 with fail
    rw [HN4.out]
    clear g5
    go_cut [15, 16] from 45 to 60 (fun a b wx => a = .int .i64 I ∧ b = .int .i64 J ∧ Hid (MkW w B [(#[.int .i64 b0, .int .i64 b1, .int .i64 b2, .int .i64 b3], 48), (#[.int .i64 z0, .int .i64 z1, .int .i64 z2, .int .i64 z3], 48), (#[.int .i64 tx, .int .i64 ty, .int .i64 lv, .int .i64 BWI, .int .i64 BHI, .int .i64 PRI, .int .i64 st, .int .i64 od, .int .i64 ly, .bool rct, .bool sop, .bool eph], 26)] wx))
    case first =>
      obtain ⟨VL, hVL⟩ : ∃ VL : Unit → List (Nat × Nat × Value), VL = fun z => [(0, 45, .pointer (some ⟨B + 1, 0, none⟩)), (1, 46, .int .i64 z0), (2, 47, .int .i64 N), (3, 48, .int .i64 i0), (4, 49, .int .i64 KI), (5, 50, .int .i64 CW), (6, 51, .int .i64 (m : Int)), (7, 52, .int .i64 I), (8, 53, .pointer (some ⟨B + 1, 1, none⟩)), (9, 54, .int .i64 z1), (10, 55, .int .i64 N), (11, 56, .int .i64 j0), (12, 57, .int .i64 KI), (13, 58, .int .i64 CW), (14, 59, .int .i64 (d : Int)), (15, 60, .int .i64 J), (16, 15, .int .i64 I), (17, 16, .int .i64 J)] := ⟨_, rfl⟩
      have hok : ∀ z, manyOk 150 (VL z) := fun z => by rw [hVL]; exact ⟨by simp, by simp, by simp⟩
      have HVL := Lib.hid hVL
      have hvi : ∀ z, ∀ x ∈ VL z, x.1 < 18 := fun z => by rw [hVL]; simp
      have HOK := Lib.hid hok
      have HVI := Lib.hid hvi
      clear hVL hok hvi
      refine (wpIn_wide (n := 9)).1 (regionIn_many (N := 150) (w := _) VL (fun L z w' => MkW w B [(#[.int .i64 b0, .int .i64 b1, .int .i64 b2, .int .i64 b3], 48), (#[.int .i64 z0, .int .i64 z1, .int .i64 z2, .int .i64 z3], 48), (#[.int .i64 tx, .int .i64 ty, .int .i64 lv, .int .i64 BWI, .int .i64 BHI, .int .i64 PRI, .int .i64 st, .int .i64 od, .int .i64 ly, .bool rct, .bool sop, .bool eph], 26)] w') [(4, .int .i64 KI), (6, .pointer (some ⟨B + 1, 0, none⟩)), (12, .int .i64 CW), (14, .int .i64 N)] (by kernel_rfl) (by kernel_rfl) rfl (by simp only [List.forall_mem_cons, List.not_mem_nil, false_imp_iff, implies_true, and_true]; exact ⟨rfl, rfl, rfl, rfl⟩) HVI.out () ?start ?step ?fin)
      case start => exact HM4.out.drew
      case step =>
        intro gg_ hgN hgF ii_ hii_ L z w' hph hs hu
        have hF4 := hgF (4, .int .i64 KI) (by simp)
        have hF6 := hgF (6, .pointer (some ⟨B + 1, 0, none⟩)) (by simp)
        have hF12 := hgF (12, .int .i64 CW) (by simp)
        have hF14 := hgF (14, .int .i64 N) (by simp)
        have hL := hu.1
        have hii_ : ii_ < 18 := hii_
        clear hgF
        obtain rfl | rfl | rfl | rfl | rfl | rfl | rfl | rfl | rfl | rfl | rfl | rfl | rfl | rfl | rfl | rfl | rfl | rfl := (by omega : ii_ = 0 ∨ ii_ = 1 ∨ ii_ = 2 ∨ ii_ = 3 ∨ ii_ = 4 ∨ ii_ = 5 ∨ ii_ = 6 ∨ ii_ = 7 ∨ ii_ = 8 ∨ ii_ = 9 ∨ ii_ = 10 ∨ ii_ = 11 ∨ ii_ = 12 ∨ ii_ = 13 ∨ ii_ = 14 ∨ ii_ = 15 ∨ ii_ = 16 ∨ ii_ = 17)
        · skip
          have e6 : (many gg_ L (VL z))[6]?.getD undef = .pointer (some ⟨B + 1, 0, none⟩) := many_out hgN (HOK.out z).1 (by rw [HVL.out]; rfl) hF6
          refine opIn_run (v := .pointer (some ⟨B + 1, 0, none⟩)) (w' := w') rfl rfl (fun c h => by cases h) (fun _ => trivial) ?_ ⟨z, by exact many_put (HOK.out _) 0 45 _ (by rw [HVL.out]; simp) hL, hph⟩
          go_simp
        · skip
          have y0 : L 0 = true := up_at hu 0 (by kernel_rfl)
          have hcell : w'.cell? ⟨B + 1, 0, none⟩ = some (.int .i64 z0) := blk_cell (hph.b 1 _ rfl) 0
          have e45 : (many gg_ L (VL z))[45]?.getD undef = .pointer (some ⟨B + 1, 0, none⟩) := many_eval hgN (HOK.out z).1 (by rw [HVL.out]; simp [lookM, y0])
          refine opIn_run (v := .int .i64 z0) (w' := w') rfl rfl (fun c h => by cases h) (fun _ => trivial) ?_ ⟨z, by exact many_put (HOK.out _) 1 46 _ (by rw [HVL.out]; simp) hL, hph⟩
          go_simp
        · skip
          have e14 : (many gg_ L (VL z))[14]?.getD undef = .int .i64 N := many_out hgN (HOK.out z).1 (by rw [HVL.out]; rfl) hF14
          refine opIn_run (v := .int .i64 N) (w' := w') rfl rfl (fun c h => by cases h) (fun _ => trivial) ?_ ⟨z, by exact many_put (HOK.out _) 2 47 _ (by rw [HVL.out]; simp) hL, hph⟩
          go_simp
        · skip
          have y1 : L 1 = true := up_at hu 1 (by kernel_rfl)
          have y2 : L 2 = true := up_at hu 2 (by kernel_rfl)
          have q1 := HV.out.1
          have q2 := HS.out.1
          have e46 : (many gg_ L (VL z))[46]?.getD undef = .int .i64 z0 := many_eval hgN (HOK.out z).1 (by rw [HVL.out]; simp [lookM, y1])
          have e47 : (many gg_ L (VL z))[47]?.getD undef = .int .i64 N := many_eval hgN (HOK.out z).1 (by rw [HVL.out]; simp [lookM, y2])
          refine opIn_run (v := .int .i64 i0) (w' := w') rfl rfl (fun c h => by cases h) (fun _ => trivial) ?_ ⟨z, by exact many_put (HOK.out _) 3 48 _ (by rw [HVL.out]; simp) hL, hph⟩
          go_simp
        · skip
          have e4 : (many gg_ L (VL z))[4]?.getD undef = .int .i64 KI := many_out hgN (HOK.out z).1 (by rw [HVL.out]; rfl) hF4
          refine opIn_run (v := .int .i64 KI) (w' := w') rfl rfl (fun c h => by cases h) (fun _ => trivial) ?_ ⟨z, by exact many_put (HOK.out _) 4 49 _ (by rw [HVL.out]; simp) hL, hph⟩
          go_simp
        · skip
          have e12 : (many gg_ L (VL z))[12]?.getD undef = .int .i64 CW := many_out hgN (HOK.out z).1 (by rw [HVL.out]; rfl) hF12
          refine opIn_run (v := .int .i64 CW) (w' := w') rfl rfl (fun c h => by cases h) (fun _ => trivial) ?_ ⟨z, by exact many_put (HOK.out _) 5 50 _ (by rw [HVL.out]; simp) hL, hph⟩
          go_simp
        · skip
          have y4 : L 4 = true := up_at hu 4 (by kernel_rfl)
          have y5 : L 5 = true := up_at hu 5 (by kernel_rfl)
          have q1 := HV.out.2.2.1
          have q2 := HS.out.2.2.1
          have e49 : (many gg_ L (VL z))[49]?.getD undef = .int .i64 KI := many_eval hgN (HOK.out z).1 (by rw [HVL.out]; simp [lookM, y4])
          have e50 : (many gg_ L (VL z))[50]?.getD undef = .int .i64 CW := many_eval hgN (HOK.out z).1 (by rw [HVL.out]; simp [lookM, y5])
          refine opIn_run (v := .int .i64 (m : Int)) (w' := w') rfl rfl (fun c h => by cases h) (fun _ => trivial) ?_ ⟨z, by exact many_put (HOK.out _) 6 51 _ (by rw [HVL.out]; simp) hL, hph⟩
          go_simp
        · skip
          have y3 : L 3 = true := up_at hu 3 (by kernel_rfl)
          have y6 : L 6 = true := up_at hu 6 (by kernel_rfl)
          have q1 := HS.out.2.2.2.2.1
          have e48 : (many gg_ L (VL z))[48]?.getD undef = .int .i64 i0 := many_eval hgN (HOK.out z).1 (by rw [HVL.out]; simp [lookM, y3])
          have e51 : (many gg_ L (VL z))[51]?.getD undef = .int .i64 (m : Int) := many_eval hgN (HOK.out z).1 (by rw [HVL.out]; simp [lookM, y6])
          refine opIn_run (v := .int .i64 I) (w' := w') rfl rfl (fun c h => by cases h) (fun _ => trivial) ?_ ⟨z, by exact many_put (HOK.out _) 7 52 _ (by rw [HVL.out]; simp) hL, hph⟩
          go_simp
        · skip
          have e6 : (many gg_ L (VL z))[6]?.getD undef = .pointer (some ⟨B + 1, 0, none⟩) := many_out hgN (HOK.out z).1 (by rw [HVL.out]; rfl) hF6
          refine opIn_run (v := .pointer (some ⟨B + 1, 1, none⟩)) (w' := w') rfl rfl (fun c h => by cases h) (fun _ => trivial) ?_ ⟨z, by exact many_put (HOK.out _) 8 53 _ (by rw [HVL.out]; simp) hL, hph⟩
          go_simp
        · skip
          have y8 : L 8 = true := up_at hu 8 (by kernel_rfl)
          have hcell : w'.cell? ⟨B + 1, 1, none⟩ = some (.int .i64 z1) := blk_cell (hph.b 1 _ rfl) 1
          have e53 : (many gg_ L (VL z))[53]?.getD undef = .pointer (some ⟨B + 1, 1, none⟩) := many_eval hgN (HOK.out z).1 (by rw [HVL.out]; simp [lookM, y8])
          refine opIn_run (v := .int .i64 z1) (w' := w') rfl rfl (fun c h => by cases h) (fun _ => trivial) ?_ ⟨z, by exact many_put (HOK.out _) 9 54 _ (by rw [HVL.out]; simp) hL, hph⟩
          go_simp
        · skip
          have e14 : (many gg_ L (VL z))[14]?.getD undef = .int .i64 N := many_out hgN (HOK.out z).1 (by rw [HVL.out]; rfl) hF14
          refine opIn_run (v := .int .i64 N) (w' := w') rfl rfl (fun c h => by cases h) (fun _ => trivial) ?_ ⟨z, by exact many_put (HOK.out _) 10 55 _ (by rw [HVL.out]; simp) hL, hph⟩
          go_simp
        · skip
          have y9 : L 9 = true := up_at hu 9 (by kernel_rfl)
          have y10 : L 10 = true := up_at hu 10 (by kernel_rfl)
          have q1 := HV.out.2.1
          have q2 := HS.out.2.1
          have e54 : (many gg_ L (VL z))[54]?.getD undef = .int .i64 z1 := many_eval hgN (HOK.out z).1 (by rw [HVL.out]; simp [lookM, y9])
          have e55 : (many gg_ L (VL z))[55]?.getD undef = .int .i64 N := many_eval hgN (HOK.out z).1 (by rw [HVL.out]; simp [lookM, y10])
          refine opIn_run (v := .int .i64 j0) (w' := w') rfl rfl (fun c h => by cases h) (fun _ => trivial) ?_ ⟨z, by exact many_put (HOK.out _) 11 56 _ (by rw [HVL.out]; simp) hL, hph⟩
          go_simp
        · skip
          have e4 : (many gg_ L (VL z))[4]?.getD undef = .int .i64 KI := many_out hgN (HOK.out z).1 (by rw [HVL.out]; rfl) hF4
          refine opIn_run (v := .int .i64 KI) (w' := w') rfl rfl (fun c h => by cases h) (fun _ => trivial) ?_ ⟨z, by exact many_put (HOK.out _) 12 57 _ (by rw [HVL.out]; simp) hL, hph⟩
          go_simp
        · skip
          have e12 : (many gg_ L (VL z))[12]?.getD undef = .int .i64 CW := many_out hgN (HOK.out z).1 (by rw [HVL.out]; rfl) hF12
          refine opIn_run (v := .int .i64 CW) (w' := w') rfl rfl (fun c h => by cases h) (fun _ => trivial) ?_ ⟨z, by exact many_put (HOK.out _) 13 58 _ (by rw [HVL.out]; simp) hL, hph⟩
          go_simp
        · skip
          have y12 : L 12 = true := up_at hu 12 (by kernel_rfl)
          have y13 : L 13 = true := up_at hu 13 (by kernel_rfl)
          have q1 := HV.out.2.2.2
          have q2 := HS.out.2.2.2.1
          have e57 : (many gg_ L (VL z))[57]?.getD undef = .int .i64 KI := many_eval hgN (HOK.out z).1 (by rw [HVL.out]; simp [lookM, y12])
          have e58 : (many gg_ L (VL z))[58]?.getD undef = .int .i64 CW := many_eval hgN (HOK.out z).1 (by rw [HVL.out]; simp [lookM, y13])
          refine opIn_run (v := .int .i64 (d : Int)) (w' := w') rfl rfl (fun c h => by cases h) (fun _ => trivial) ?_ ⟨z, by exact many_put (HOK.out _) 14 59 _ (by rw [HVL.out]; simp) hL, hph⟩
          go_simp
        · skip
          have y11 : L 11 = true := up_at hu 11 (by kernel_rfl)
          have y14 : L 14 = true := up_at hu 14 (by kernel_rfl)
          have q1 := HS.out.2.2.2.2.2
          have e56 : (many gg_ L (VL z))[56]?.getD undef = .int .i64 j0 := many_eval hgN (HOK.out z).1 (by rw [HVL.out]; simp [lookM, y11])
          have e59 : (many gg_ L (VL z))[59]?.getD undef = .int .i64 (d : Int) := many_eval hgN (HOK.out z).1 (by rw [HVL.out]; simp [lookM, y14])
          refine opIn_run (v := .int .i64 J) (w' := w') rfl rfl (fun c h => by cases h) (fun _ => trivial) ?_ ⟨z, by exact many_put (HOK.out _) 15 60 _ (by rw [HVL.out]; simp) hL, hph⟩
          go_simp
        · skip
          have y0 : L 0 = true := up_at hu 0 (by kernel_rfl)
          have y1 : L 1 = true := up_at hu 1 (by kernel_rfl)
          have y2 : L 2 = true := up_at hu 2 (by kernel_rfl)
          have y3 : L 3 = true := up_at hu 3 (by kernel_rfl)
          have y4 : L 4 = true := up_at hu 4 (by kernel_rfl)
          have y5 : L 5 = true := up_at hu 5 (by kernel_rfl)
          have y6 : L 6 = true := up_at hu 6 (by kernel_rfl)
          have y7 : L 7 = true := up_at hu 7 (by kernel_rfl)
          have e52 : (many gg_ L (VL z))[52]?.getD undef = .int .i64 I := many_eval hgN (HOK.out z).1 (by rw [HVL.out]; simp [lookM, y7])
          refine opIn_run (v := .int .i64 I) (w' := w') rfl rfl (fun c h => by cases h) (fun _ => trivial) ?_ ⟨z, by exact many_put (HOK.out _) 16 15 _ (by rw [HVL.out]; simp) hL, hph⟩
          go_simp
        · skip
          have y0 : L 0 = true := up_at hu 0 (by kernel_rfl)
          have y1 : L 1 = true := up_at hu 1 (by kernel_rfl)
          have y2 : L 2 = true := up_at hu 2 (by kernel_rfl)
          have y3 : L 3 = true := up_at hu 3 (by kernel_rfl)
          have y4 : L 4 = true := up_at hu 4 (by kernel_rfl)
          have y5 : L 5 = true := up_at hu 5 (by kernel_rfl)
          have y6 : L 6 = true := up_at hu 6 (by kernel_rfl)
          have y7 : L 7 = true := up_at hu 7 (by kernel_rfl)
          have y8 : L 8 = true := up_at hu 8 (by kernel_rfl)
          have y9 : L 9 = true := up_at hu 9 (by kernel_rfl)
          have y10 : L 10 = true := up_at hu 10 (by kernel_rfl)
          have y11 : L 11 = true := up_at hu 11 (by kernel_rfl)
          have y12 : L 12 = true := up_at hu 12 (by kernel_rfl)
          have y13 : L 13 = true := up_at hu 13 (by kernel_rfl)
          have y14 : L 14 = true := up_at hu 14 (by kernel_rfl)
          have y15 : L 15 = true := up_at hu 15 (by kernel_rfl)
          have y16 : L 16 = true := up_at hu 16 (by kernel_rfl)
          have e60 : (many gg_ L (VL z))[60]?.getD undef = .int .i64 J := many_eval hgN (HOK.out z).1 (by rw [HVL.out]; simp [lookM, y15])
          refine opIn_run (v := .int .i64 J) (w' := w') rfl rfl (fun c h => by cases h) (fun _ => trivial) ?_ ⟨z, by exact many_put (HOK.out _) 17 16 _ (by rw [HVL.out]; simp) hL, hph⟩
          go_simp
      case fin =>
        intro L z w' hall hph
        rw [HVL.out]
        dsimp only [manyL, List.set_cons_zero, List.set_cons_succ]
        clear hall HVL HOK HVI
        have HP := Lib.hid hph
        clear hph
        go_wp2_with fail
        go_meet
        exact ⟨rfl, rfl, HP⟩
    case rest =>
      obtain ⟨rfl, rfl, HM5⟩ := hcut
      clear HM4 HV HS hc0 hc1 hi0b hj0b hmI t1 k0 hkT hmul s1 hN0 hee HN4
      obtain ⟨q, hq⟩ : ∃ q, qF pr r = q := ⟨_, rfl⟩
      have hqb : q ≤ pr := by rw [← hq]; unfold qF; split <;> omega
      obtain ⟨QI, hQI⟩ : ∃ QI : Int, QI = (q : Int) := ⟨_, rfl⟩
      have hQb : 0 ≤ QI ∧ QI ≤ 15 := by have := HNI.out; omega
      have cpr : wc.cell? ⟨B + 2, 5, none⟩ = some (.int .i64 PRI) := blk_cell (HM5.out.b 2 _ rfl) 5
      have HQ : Hid (qF pr r = q ∧ QI = (q : Int)) := Lib.hid ⟨hq, hQI⟩
      clear hq hQI hqb
      go_upto_if 64 with fail
      go_cut [17] from 63 to 66 (fun v wx => v = .int .i64 QI ∧ wx = wc)
      case first =>
        by_cases hr0 : RI = 0
        · have e1 : ¬ 0 < RI := by omega
          have HE : Hid (PRI = QI) := Lib.hid (by
            have h1 := HQ.out
            have h2 := HNI.out
            have h3 : r = 0 := by omega
            rw [h3] at h1
            unfold qF at h1
            rw [if_pos rfl] at h1
            omega)
          have HR0 := Lib.hid hr0
          clear hr0
          go_wp2_with fail
          go_meet
          exact ⟨by rw [HE.out], rfl⟩
        · have e1 : 0 < RI := by omega
          have HE : Hid (PRI - 1 = QI) := Lib.hid (by
            have h1 := HQ.out
            have h2 := HNI.out
            have h3 : ¬ r = 0 := by omega
            unfold qF at h1
            rw [if_neg h3] at h1
            omega)
          clear hr0
          go_wp2_with fail
          go_meet
          exact ⟨by rw [HE.out], rfl⟩
      case rest =>
        obtain ⟨rfl, rfl⟩ := hcut
        clear cpr
        obtain ⟨n, hn⟩ : ∃ n : Int, ((2 ^ q : Nat) : Int) = n := ⟨_, rfl⟩
        have hnb := pow16 q (by have := HQ.out; omega)
        rw [hn] at hnb
        have hnn : (2 : Int) ^ QI.toNat = n := by rw [← hn, HQ.out.2, Int.toNat_natCast]; simp
        obtain ⟨ee, hee⟩ : ∃ ee, QI.toNat = ee := ⟨_, rfl⟩
        have HN4 : Hid (wrap64 ((2 : Int) ^ ee) = n ∧ QI.toNat = ee) := Lib.hid ⟨by rw [← hee, hnn]; exact w64_in (by omega), hee⟩
        have mulb : ∀ a : Int, 0 ≤ a → a ≤ 511 → 0 ≤ a * n ∧ a * n ≤ 511 * 65536 := fun a h0 h1 => ⟨Int.mul_nonneg h0 (by omega), Int.mul_le_mul h1 (by omega) (by omega) (by omega)⟩
        obtain ⟨A0, hA0⟩ : ∃ A, I * n = A := ⟨_, rfl⟩
        obtain ⟨A1, hA1⟩ : ∃ A, J * n = A := ⟨_, rfl⟩
        obtain ⟨A2, hA2⟩ : ∃ A, (I + 1) * n = A := ⟨_, rfl⟩
        obtain ⟨A3, hA3⟩ : ∃ A, (J + 1) * n = A := ⟨_, rfl⟩
        have bA0 := mulb I (by omega) (by omega)
        have bA1 := mulb J (by omega) (by omega)
        have bA2 := mulb (I + 1) (by omega) (by omega)
        have bA3 := mulb (J + 1) (by omega) (by omega)
        rw [hA0] at bA0
        rw [hA1] at bA1
        rw [hA2] at bA2
        rw [hA3] at bA3
        have HA : Hid (wrap64 (I * n) = A0 ∧ wrap64 (J * n) = A1 ∧ wrap64 ((I + 1) * n) = A2 ∧ wrap64 ((J + 1) * n) = A3 ∧ wrap64 (I + 1) = I + 1 ∧ wrap64 (J + 1) = J + 1 ∧ I * n = A0 ∧ J * n = A1 ∧ (I + 1) * n = A2 ∧ (J + 1) * n = A3) := Lib.hid (by
          rw [hA0, hA1, hA2, hA3]
          exact ⟨w64_in (by omega), w64_in (by omega), w64_in (by omega), w64_in (by omega), w64_in (by omega), w64_in (by omega), rfl, rfl, rfl, rfl⟩)
        obtain ⟨p0, hp0⟩ : ∃ p, maxJ b0 A0 = p := ⟨_, rfl⟩
        obtain ⟨p1, hp1⟩ : ∃ p, maxJ b1 A1 = p := ⟨_, rfl⟩
        obtain ⟨p2, hp2⟩ : ∃ p, minJ b2 A2 = p := ⟨_, rfl⟩
        obtain ⟨p3, hp3⟩ : ∃ p, minJ b3 A3 = p := ⟨_, rfl⟩
        have CR : Hid (∀ u, Calls Try.prog 60 #[.agg #[.int .i64 b0, .int .i64 b1, .int .i64 b2, .int .i64 b3], .agg #[.int .i64 A0, .int .i64 A1, .int .i64 A2, .int .i64 A3]] u fun e w' => e = .returned (.agg #[.int .i64 p0, .int .i64 p1, .int .i64 p2, .int .i64 p3]) ∧ Below u.heap.size u w') := Lib.hid fun u => by
          have := rmeet_any b0 b1 b2 b3 A0 A1 A2 A3 u
          rw [hp0, hp1, hp2, hp3] at this
          exact this
        have hpb : (0 ≤ p0 ∧ p0 ≤ 50000000) ∧ (0 ≤ p1 ∧ p1 ≤ 50000000) ∧ (0 ≤ p2 ∧ p2 ≤ 255) ∧ (0 ≤ p3 ∧ p3 ≤ 255) := by
          rw [← hp0, ← hp1, ← hp2, ← hp3]
          unfold maxJ minJ
          refine ⟨?_, ?_, ?_, ?_⟩ <;> split <;> omega
        have HPART : Hid (partF (b0, b1, b2, b3) (z0, z1, z2, z3) pr r k = (p0, p1, p2, p3)) := Lib.hid (by
          unfold partF
          dsimp only
          rw [HPC.out, HQ.out.1]
          dsimp only
          rw [show CW.toNat = cw by have := HCW.out; omega, HIJ.out.1, HIJ.out.2, hn, hA0, hA1, hA2, hA3, hp0, hp1, hp2, hp3])
        clear hn hnn hee mulb hA0 hA1 hA2 hA3 hp0 hp1 hp2 hp3
        obtain ⟨a0, a1, a2, a3, a4, a5, a6, a7, a8, a9⟩ := HA.out
        obtain ⟨g0, g1, g2, g3⟩ := rc_cells (show wc.heap[B]? = some (.cells #[.int .i64 b0, .int .i64 b1, .int .i64 b2, .int .i64 b3] 48 (0, 0)) from HM5.out.b 0 _ rfl)
        have hee := HN4.out.2
        go_upto_region 10 with fail
        rw [HN4.out.1]
        clear hee HN4
        go_wp2_with fail
        refine (CR.out _).mono ?_
        rintro e w6 ⟨rfl, hb⟩
        have HM6 := Lib.hid (HM5.out.keep hb)
        clear hb g0 g1 g2 g3 HM5 CR a0 a1 a2 a3 a4 a5 a6 a7 a8 a9 HA
        have ca : (w6.alloc (Obj.cells #[.int .i64 p0, .int .i64 p1, .int .i64 p2, .int .i64 p3] 48)).heap[w6.heap.size]? = some (.cells #[.int .i64 p0, .int .i64 p1, .int .i64 p2, .int .i64 p3] 48 (0, 0)) := World.alloc_heap_new w6 _
        have HM7 : Hid (MkW w B [(#[.int .i64 b0, .int .i64 b1, .int .i64 b2, .int .i64 b3], 48), (#[.int .i64 z0, .int .i64 z1, .int .i64 z2, .int .i64 z3], 48), (#[.int .i64 tx, .int .i64 ty, .int .i64 lv, .int .i64 BWI, .int .i64 BHI, .int .i64 PRI, .int .i64 st, .int .i64 od, .int .i64 ly, .bool rct, .bool sop, .bool eph], 26)] (w6.alloc (Obj.cells #[.int .i64 p0, .int .i64 p1, .int .i64 p2, .int .i64 p3] 48))) := Lib.hid (HM6.out.alloc _)
        have hsz6 : B + 3 ≤ w6.heap.size := HM6.out.sz
        go_upto_region 11 with fail
        obtain ⟨bz, hbz⟩ : ∃ bz, w6.heap.size = bz := ⟨_, rfl⟩
        obtain ⟨V7, hV7⟩ : ∃ V7, w6.alloc (Obj.cells #[.int .i64 p0, .int .i64 p1, .int .i64 p2, .int .i64 p3] 48) = V7 := ⟨_, rfl⟩
        rw [hV7, hbz] at ca
        rw [hV7] at HM7 ⊢
        rw [hbz] at hsz6 ⊢
        have HM8 : Hid (MkW w B [(#[.int .i64 b0, .int .i64 b1, .int .i64 b2, .int .i64 b3], 48), (#[.int .i64 z0, .int .i64 z1, .int .i64 z2, .int .i64 z3], 48), (#[.int .i64 tx, .int .i64 ty, .int .i64 lv, .int .i64 BWI, .int .i64 BHI, .int .i64 PRI, .int .i64 st, .int .i64 od, .int .i64 ly, .bool rct, .bool sop, .bool eph], 26)] V7 ∧ B + 3 ≤ bz ∧ V7.heap[bz]? = some (.cells #[.int .i64 p0, .int .i64 p1, .int .i64 p2, .int .i64 p3] 48 (0, 0))) := Lib.hid ⟨HM7.out, hsz6, ca⟩
        clear hV7 hbz ca HM6 HM7
        obtain ⟨g0, g1, g2, g3⟩ := rc_cells HM8.out.2.2
        obtain ⟨ar, har⟩ : ∃ ar, maxJ (p2 - p0) 0 * maxJ (p3 - p1) 0 = ar := ⟨_, rfl⟩
        have AR := Lib.hid (fun u => rarea2_any p0 p1 p2 p3 u (by omega) (by omega) (by omega) (by omega) (by omega))
        rw [har] at AR
        have hz : ar = 0 ↔ (p2 ≤ p0 ∨ p3 ≤ p1) := by
          rw [← har]
          have m1 : ∀ a : Int, a ≤ 0 → maxJ a 0 = 0 := fun a h => by unfold maxJ; split <;> omega
          have m2 : ∀ a : Int, 0 < a → maxJ a 0 = a := fun a h => by unfold maxJ; split <;> omega
          constructor
          · intro h
            rcases (by omega : p2 - p0 ≤ 0 ∨ 0 < p2 - p0) with h1 | h1
            · left; omega
            · rcases (by omega : p3 - p1 ≤ 0 ∨ 0 < p3 - p1) with h2 | h2
              · right; omega
              · exfalso
                rw [m2 _ h1, m2 _ h2] at h
                have := Int.mul_pos h1 h2
                omega
          · rintro (h | h)
            · rw [m1 _ (by omega), Int.zero_mul]
            · rw [m1 (p3 - p1) (by omega), Int.mul_zero]
        clear har
        go_wp2_with fail
        refine (AR.out _).mono ?_
        rintro e w8 ⟨rfl, hb⟩
        have HM9 : Hid (MkW w B [(#[.int .i64 b0, .int .i64 b1, .int .i64 b2, .int .i64 b3], 48), (#[.int .i64 z0, .int .i64 z1, .int .i64 z2, .int .i64 z3], 48), (#[.int .i64 tx, .int .i64 ty, .int .i64 lv, .int .i64 BWI, .int .i64 BHI, .int .i64 PRI, .int .i64 st, .int .i64 od, .int .i64 ly, .bool rct, .bool sop, .bool eph], 26)] w8 ∧ B + 3 ≤ bz ∧ w8.heap[bz]? = some (.cells #[.int .i64 p0, .int .i64 p1, .int .i64 p2, .int .i64 p3] 48 (0, 0))) := Lib.hid ⟨HM8.out.1.keep hb, HM8.out.2.1, (hb.block _ (Array.getElem?_eq_some_iff.1 HM8.out.2.2).1).trans HM8.out.2.2⟩
        clear hb g0 g1 g2 g3 HM8 AR
        by_cases he : p2 ≤ p0 ∨ p3 ≤ p1
        · have hde := hz.2 he
          have hR : R = ([], 0) := by
            rw [← HR.out]
            unfold blkF
            rw [if_pos (Or.inr (by rw [HPART.out]; unfold emptyB; simpa using he))]
          subst hR
          subst hde
          clear hz he
          go_wp2
          go_ret2
          exact ⟨none, 0, rfl, ⟨none, 0, rfl, fun i c e => by simp at e⟩, by rw [HBE.out]; exact HM9.out.1.bel⟩
        · have hde : (ar == 0) = false := by simpa using fun h => he (hz.1 h)
          have hde2 : ¬ ar = 0 := fun h => he (hz.1 h)
          have hpo : p0 < p2 ∧ p1 < p3 := by omega
          clear hz he
          obtain ⟨XI, hXI⟩ : ∃ X : Int, (if QI < BWI then QI else BWI) = X := ⟨_, rfl⟩
          obtain ⟨YI, hYI⟩ : ∃ X : Int, (if QI < BHI then QI else BHI) = X := ⟨_, rfl⟩
          have hXn : XI = ((min bw q : Nat) : Int) := by have := HQ.out; have := HNI.out; rw [← hXI]; split <;> omega
          have hYn : YI = ((min bh q : Nat) : Int) := by have := HQ.out; have := HNI.out; rw [← hYI]; split <;> omega
          have hXb : 0 ≤ XI ∧ XI ≤ 6 := by rw [← hXI]; split <;> omega
          have hYb : 0 ≤ YI ∧ YI ≤ 6 := by rw [← hYI]; split <;> omega
          obtain ⟨x, hx⟩ : ∃ x : Int, cellX bw q = x := ⟨_, rfl⟩
          obtain ⟨y, hy⟩ : ∃ y : Int, cellX bh q = y := ⟨_, rfl⟩
          have hxb : 1 ≤ x ∧ x ≤ 65536 := by rw [← hx]; exact pow16 _ (by omega)
          have hyb : 1 ≤ y ∧ y ≤ 65536 := by rw [← hy]; exact pow16 _ (by omega)
          have hx2 : (2 : Int) ^ XI.toNat = x := by rw [← hx, hXn, Int.toNat_natCast]; unfold cellX; simp
          have hy2 : (2 : Int) ^ YI.toNat = y := by rw [← hy, hYn, Int.toNat_natCast]; unfold cellX; simp
          have HC1 : Hid ((if QI < BWI then QI else BWI) = XI ∧ (if QI < BHI then QI else BHI) = YI ∧ IntKind.i64.wrap (2 ^ XI.toNat) = x ∧ IntKind.i64.wrap (2 ^ YI.toNat) = y) := Lib.hid ⟨hXI, hYI, by rw [hx2]; exact IntWalk.i64_in _ (by omega), by rw [hy2]; exact IntWalk.i64_in _ (by omega)⟩
          have HXY : Hid (cellX bw q = x ∧ cellX bh q = y) := Lib.hid ⟨hx, hy⟩
          clear hXI hYI hXn hYn hx hy hx2 hy2
          have hpn : (0 ≤ p0 ∧ p0 ≤ 255) ∧ (0 ≤ p1 ∧ p1 ≤ 255) := by omega
          have k1 : 0 ≤ p0 / x ∧ p0 / x ≤ p0 := ⟨Int.ediv_nonneg (by omega) (by omega), Int.ediv_le_self _ (by omega)⟩
          have k2 : 0 ≤ p1 / y ∧ p1 / y ≤ p1 := ⟨Int.ediv_nonneg (by omega) (by omega), Int.ediv_le_self _ (by omega)⟩
          have k3 := ceil_bd p2 x (by omega) hxb.1
          have k4 := ceil_bd p3 y (by omega) hyb.1
          have k5 : p0 / x ≤ ceilF p2 x := by
            have h1 : p0 / x ≤ p2 / x := Int.ediv_le_ediv (by omega) (by omega)
            have h2 : p2 / x ≤ ceilF p2 x := by unfold ceilF; split <;> omega
            omega
          have k6 : p1 / y ≤ ceilF p3 y := by
            have h1 : p1 / y ≤ p3 / y := Int.ediv_le_ediv (by omega) (by omega)
            have h2 : p3 / y ≤ ceilF p3 y := by unfold ceilF; split <;> omega
            omega
          obtain ⟨c0, hc0⟩ : ∃ c, p0 / x = c := ⟨_, rfl⟩
          obtain ⟨c1, hc1⟩ : ∃ c, p1 / y = c := ⟨_, rfl⟩
          obtain ⟨wd, hwd⟩ : ∃ wd : Nat, ceilF p2 x = c0 + (wd : Int) := ⟨(ceilF p2 x - c0).toNat, by omega⟩
          obtain ⟨ht, hht⟩ : ∃ ht : Nat, ceilF p3 y = c1 + (ht : Int) := ⟨(ceilF p3 y - c1).toNat, by omega⟩
          have hwb : wd ≤ 255 ∧ ht ≤ 255 := by omega
          have hcb : (0 ≤ c0 ∧ c0 ≤ 255) ∧ (0 ≤ c1 ∧ c1 ≤ 255) := by omega
          have HRR : Hid (R = (blksF (p0, p1, p2, p3) x y, (wd : Int)) ∧ blksF (p0, p1, p2, p3) x y = (plP c0 c1 wd ht).map fun q => cellR p0 p1 p2 p3 x y q) := Lib.hid (by
            refine ⟨?_, ?_⟩
            · rw [← HR.out]
              unfold blkF
              rw [if_neg (by
                rw [HPC.out, HPART.out]
                unfold emptyB
                dsimp only
                rw [HS2.out]
                have := HNI.out
                simp
                omega), HPART.out, HQ.out.1, HXY.out.1, HXY.out.2]
              unfold wideF
              dsimp only
              rw [hwd, hc0, show c0 + (wd : Int) - c0 = (wd : Int) by omega]
            · unfold blksF
              dsimp only
              rw [hc0, hc1, hwd, hht, show c0 + (wd : Int) - c0 = (wd : Int) by omega, show c1 + (ht : Int) - c1 = (ht : Int) by omega, Int.toNat_natCast, Int.toNat_natCast])
          have HW : Hid (IntKind.i64.wrap (c0 + (wd : Int) - c0) = (wd : Int) ∧ c0 + (wd : Int) - c0 = (wd : Int) ∧ IntKind.i64.wrap (wd : Int) = (wd : Int)) := Lib.hid ⟨by rw [show c0 + (wd : Int) - c0 = (wd : Int) by omega]; exact IntWalk.i64_in _ (by omega), by omega, IntWalk.i64_in _ (by omega)⟩
          have HCC : Hid (p0 / x = c0 ∧ p1 / y = c1 ∧ ceilF p2 x = c0 + (wd : Int) ∧ ceilF p3 y = c1 + (ht : Int)) := Lib.hid ⟨hc0, hc1, hwd, hht⟩
          have hht1 : 1 ≤ ht := by
            have h1 : p1 / y < ceilF p3 y := by
              have h2 : (p1 / y) * y < p3 := by have := Int.ediv_mul_le p1 (show y ≠ 0 by omega); omega
              exact (lt_ceil hyb.1).1 h2
            omega
          clear hc0 hc1 hwd hht k1 k2 k3 k4 k5 k6
          have HU : Hid (IntKind.u64.wrap XI = XI ∧ IntKind.u64.wrap YI = YI) := Lib.hid ⟨u64_of XI (by omega), u64_of YI (by omega)⟩
          go_upto_region 13 with fail
          go_cut [19, 20] from 90 to 101 (fun a b wx => a = .int .i64 x ∧ b = .int .i64 y ∧ Hid (MkW w B [(#[.int .i64 b0, .int .i64 b1, .int .i64 b2, .int .i64 b3], 48), (#[.int .i64 z0, .int .i64 z1, .int .i64 z2, .int .i64 z3], 48), (#[.int .i64 tx, .int .i64 ty, .int .i64 lv, .int .i64 BWI, .int .i64 BHI, .int .i64 PRI, .int .i64 st, .int .i64 od, .int .i64 ly, .bool rct, .bool sop, .bool eph], 26)] wx ∧ B + 3 ≤ bz ∧ wx.heap[bz]? = some (.cells #[.int .i64 p0, .int .i64 p1, .int .i64 p2, .int .i64 p3] 48 (0, 0))))
          case first =>
            obtain ⟨VL, hVL⟩ : ∃ VL : Unit → List (Nat × Nat × Value), VL = fun z => [(0, 90, .pointer (some ⟨B + 2, 3, none⟩)), (1, 91, .int .i64 BWI), (2, 92, .int .i64 QI), (3, 93, .int .i64 XI), (4, 94, .int .u64 XI), (5, 95, .int .i64 x), (6, 96, .pointer (some ⟨B + 2, 4, none⟩)), (7, 97, .int .i64 BHI), (8, 98, .int .i64 QI), (9, 99, .int .i64 YI), (10, 100, .int .u64 YI), (11, 101, .int .i64 y), (12, 19, .int .i64 x), (13, 20, .int .i64 y)] := ⟨_, rfl⟩
            have hok : ∀ z, manyOk 150 (VL z) := fun z => by rw [hVL]; exact ⟨by simp, by simp, by simp⟩
            have HVL := Lib.hid hVL
            have hvi : ∀ z, ∀ x ∈ VL z, x.1 < 14 := fun z => by rw [hVL]; simp
            have HOK := Lib.hid hok
            have HVI := Lib.hid hvi
            clear hVL hok hvi
            refine (wpIn_wide (n := 9)).1 (regionIn_many (N := 150) (w := _) VL (fun L z w' => MkW w B [(#[.int .i64 b0, .int .i64 b1, .int .i64 b2, .int .i64 b3], 48), (#[.int .i64 z0, .int .i64 z1, .int .i64 z2, .int .i64 z3], 48), (#[.int .i64 tx, .int .i64 ty, .int .i64 lv, .int .i64 BWI, .int .i64 BHI, .int .i64 PRI, .int .i64 st, .int .i64 od, .int .i64 ly, .bool rct, .bool sop, .bool eph], 26)] w' ∧ B + 3 ≤ bz ∧ w'.heap[bz]? = some (.cells #[.int .i64 p0, .int .i64 p1, .int .i64 p2, .int .i64 p3] 48 (0, 0))) [(7, .pointer (some ⟨B + 2, 0, none⟩)), (17, .int .i64 QI)] (by kernel_rfl) (by kernel_rfl) rfl (by simp only [List.forall_mem_cons, List.not_mem_nil, false_imp_iff, implies_true, and_true]; exact ⟨rfl, rfl⟩) HVI.out () ?start ?step ?fin)
            case start => exact ⟨HM9.out.1.drew, HM9.out.2⟩
            case step =>
              intro gg_ hgN hgF ii_ hii_ L z w' hph hs hu
              have hF7 := hgF (7, .pointer (some ⟨B + 2, 0, none⟩)) (by simp)
              have hF17 := hgF (17, .int .i64 QI) (by simp)
              have hL := hu.1
              have hii_ : ii_ < 14 := hii_
              clear hgF
              obtain rfl | rfl | rfl | rfl | rfl | rfl | rfl | rfl | rfl | rfl | rfl | rfl | rfl | rfl := (by omega : ii_ = 0 ∨ ii_ = 1 ∨ ii_ = 2 ∨ ii_ = 3 ∨ ii_ = 4 ∨ ii_ = 5 ∨ ii_ = 6 ∨ ii_ = 7 ∨ ii_ = 8 ∨ ii_ = 9 ∨ ii_ = 10 ∨ ii_ = 11 ∨ ii_ = 12 ∨ ii_ = 13)
              · skip
                have e7 : (many gg_ L (VL z))[7]?.getD undef = .pointer (some ⟨B + 2, 0, none⟩) := many_out hgN (HOK.out z).1 (by rw [HVL.out]; rfl) hF7
                refine opIn_run (v := .pointer (some ⟨B + 2, 3, none⟩)) (w' := w') rfl rfl (fun c h => by cases h) (fun _ => trivial) ?_ ⟨z, by exact many_put (HOK.out _) 0 90 _ (by rw [HVL.out]; simp) hL, hph⟩
                go_simp
              · skip
                have y0 : L 0 = true := up_at hu 0 (by kernel_rfl)
                have hcell : w'.cell? ⟨B + 2, 3, none⟩ = some (.int .i64 BWI) := blk_cell (hph.1.b 2 _ rfl) 3
                have e90 : (many gg_ L (VL z))[90]?.getD undef = .pointer (some ⟨B + 2, 3, none⟩) := many_eval hgN (HOK.out z).1 (by rw [HVL.out]; simp [lookM, y0])
                refine opIn_run (v := .int .i64 BWI) (w' := w') rfl rfl (fun c h => by cases h) (fun _ => trivial) ?_ ⟨z, by exact many_put (HOK.out _) 1 91 _ (by rw [HVL.out]; simp) hL, hph⟩
                go_simp
              · skip
                have e17 : (many gg_ L (VL z))[17]?.getD undef = .int .i64 QI := many_out hgN (HOK.out z).1 (by rw [HVL.out]; rfl) hF17
                refine opIn_run (v := .int .i64 QI) (w' := w') rfl rfl (fun c h => by cases h) (fun _ => trivial) ?_ ⟨z, by exact many_put (HOK.out _) 2 92 _ (by rw [HVL.out]; simp) hL, hph⟩
                go_simp
              · skip
                have y1 : L 1 = true := up_at hu 1 (by kernel_rfl)
                have y2 : L 2 = true := up_at hu 2 (by kernel_rfl)
                have q1 := HC1.out.1
                have e91 : (many gg_ L (VL z))[91]?.getD undef = .int .i64 BWI := many_eval hgN (HOK.out z).1 (by rw [HVL.out]; simp [lookM, y1])
                have e92 : (many gg_ L (VL z))[92]?.getD undef = .int .i64 QI := many_eval hgN (HOK.out z).1 (by rw [HVL.out]; simp [lookM, y2])
                refine opIn_run (v := .int .i64 XI) (w' := w') rfl rfl (fun c h => by cases h) (fun _ => trivial) ?_ ⟨z, by exact many_put (HOK.out _) 3 93 _ (by rw [HVL.out]; simp) hL, hph⟩
                go_simp
              · skip
                have y3 : L 3 = true := up_at hu 3 (by kernel_rfl)
                have q1 : IntKind.u64.wrap XI = XI := HU.out.1
                have e93 : (many gg_ L (VL z))[93]?.getD undef = .int .i64 XI := many_eval hgN (HOK.out z).1 (by rw [HVL.out]; simp [lookM, y3])
                refine opIn_run (v := .int .u64 XI) (w' := w') rfl rfl (fun c h => by cases h) (fun _ => trivial) ?_ ⟨z, by exact many_put (HOK.out _) 4 94 _ (by rw [HVL.out]; simp) hL, hph⟩
                go_simp
              · skip
                have y4 : L 4 = true := up_at hu 4 (by kernel_rfl)
                have q1 := HC1.out.2.2.1
                have e94 : (many gg_ L (VL z))[94]?.getD undef = .int .u64 XI := many_eval hgN (HOK.out z).1 (by rw [HVL.out]; simp [lookM, y4])
                refine opIn_run (v := .int .i64 x) (w' := w') rfl rfl (fun c h => by cases h) (fun _ => trivial) ?_ ⟨z, by exact many_put (HOK.out _) 5 95 _ (by rw [HVL.out]; simp) hL, hph⟩
                go_simp
              · skip
                have e7 : (many gg_ L (VL z))[7]?.getD undef = .pointer (some ⟨B + 2, 0, none⟩) := many_out hgN (HOK.out z).1 (by rw [HVL.out]; rfl) hF7
                refine opIn_run (v := .pointer (some ⟨B + 2, 4, none⟩)) (w' := w') rfl rfl (fun c h => by cases h) (fun _ => trivial) ?_ ⟨z, by exact many_put (HOK.out _) 6 96 _ (by rw [HVL.out]; simp) hL, hph⟩
                go_simp
              · skip
                have y6 : L 6 = true := up_at hu 6 (by kernel_rfl)
                have hcell : w'.cell? ⟨B + 2, 4, none⟩ = some (.int .i64 BHI) := blk_cell (hph.1.b 2 _ rfl) 4
                have e96 : (many gg_ L (VL z))[96]?.getD undef = .pointer (some ⟨B + 2, 4, none⟩) := many_eval hgN (HOK.out z).1 (by rw [HVL.out]; simp [lookM, y6])
                refine opIn_run (v := .int .i64 BHI) (w' := w') rfl rfl (fun c h => by cases h) (fun _ => trivial) ?_ ⟨z, by exact many_put (HOK.out _) 7 97 _ (by rw [HVL.out]; simp) hL, hph⟩
                go_simp
              · skip
                have e17 : (many gg_ L (VL z))[17]?.getD undef = .int .i64 QI := many_out hgN (HOK.out z).1 (by rw [HVL.out]; rfl) hF17
                refine opIn_run (v := .int .i64 QI) (w' := w') rfl rfl (fun c h => by cases h) (fun _ => trivial) ?_ ⟨z, by exact many_put (HOK.out _) 8 98 _ (by rw [HVL.out]; simp) hL, hph⟩
                go_simp
              · skip
                have y7 : L 7 = true := up_at hu 7 (by kernel_rfl)
                have y8 : L 8 = true := up_at hu 8 (by kernel_rfl)
                have q1 := HC1.out.2.1
                have e97 : (many gg_ L (VL z))[97]?.getD undef = .int .i64 BHI := many_eval hgN (HOK.out z).1 (by rw [HVL.out]; simp [lookM, y7])
                have e98 : (many gg_ L (VL z))[98]?.getD undef = .int .i64 QI := many_eval hgN (HOK.out z).1 (by rw [HVL.out]; simp [lookM, y8])
                refine opIn_run (v := .int .i64 YI) (w' := w') rfl rfl (fun c h => by cases h) (fun _ => trivial) ?_ ⟨z, by exact many_put (HOK.out _) 9 99 _ (by rw [HVL.out]; simp) hL, hph⟩
                go_simp
              · skip
                have y9 : L 9 = true := up_at hu 9 (by kernel_rfl)
                have q1 : IntKind.u64.wrap YI = YI := HU.out.2
                have e99 : (many gg_ L (VL z))[99]?.getD undef = .int .i64 YI := many_eval hgN (HOK.out z).1 (by rw [HVL.out]; simp [lookM, y9])
                refine opIn_run (v := .int .u64 YI) (w' := w') rfl rfl (fun c h => by cases h) (fun _ => trivial) ?_ ⟨z, by exact many_put (HOK.out _) 10 100 _ (by rw [HVL.out]; simp) hL, hph⟩
                go_simp
              · skip
                have y10 : L 10 = true := up_at hu 10 (by kernel_rfl)
                have q1 := HC1.out.2.2.2
                have e100 : (many gg_ L (VL z))[100]?.getD undef = .int .u64 YI := many_eval hgN (HOK.out z).1 (by rw [HVL.out]; simp [lookM, y10])
                refine opIn_run (v := .int .i64 y) (w' := w') rfl rfl (fun c h => by cases h) (fun _ => trivial) ?_ ⟨z, by exact many_put (HOK.out _) 11 101 _ (by rw [HVL.out]; simp) hL, hph⟩
                go_simp
              · skip
                have y0 : L 0 = true := up_at hu 0 (by kernel_rfl)
                have y1 : L 1 = true := up_at hu 1 (by kernel_rfl)
                have y2 : L 2 = true := up_at hu 2 (by kernel_rfl)
                have y3 : L 3 = true := up_at hu 3 (by kernel_rfl)
                have y4 : L 4 = true := up_at hu 4 (by kernel_rfl)
                have y5 : L 5 = true := up_at hu 5 (by kernel_rfl)
                have e95 : (many gg_ L (VL z))[95]?.getD undef = .int .i64 x := many_eval hgN (HOK.out z).1 (by rw [HVL.out]; simp [lookM, y5])
                refine opIn_run (v := .int .i64 x) (w' := w') rfl rfl (fun c h => by cases h) (fun _ => trivial) ?_ ⟨z, by exact many_put (HOK.out _) 12 19 _ (by rw [HVL.out]; simp) hL, hph⟩
                go_simp
              · skip
                have y0 : L 0 = true := up_at hu 0 (by kernel_rfl)
                have y1 : L 1 = true := up_at hu 1 (by kernel_rfl)
                have y2 : L 2 = true := up_at hu 2 (by kernel_rfl)
                have y3 : L 3 = true := up_at hu 3 (by kernel_rfl)
                have y4 : L 4 = true := up_at hu 4 (by kernel_rfl)
                have y5 : L 5 = true := up_at hu 5 (by kernel_rfl)
                have y6 : L 6 = true := up_at hu 6 (by kernel_rfl)
                have y7 : L 7 = true := up_at hu 7 (by kernel_rfl)
                have y8 : L 8 = true := up_at hu 8 (by kernel_rfl)
                have y9 : L 9 = true := up_at hu 9 (by kernel_rfl)
                have y10 : L 10 = true := up_at hu 10 (by kernel_rfl)
                have y11 : L 11 = true := up_at hu 11 (by kernel_rfl)
                have y12 : L 12 = true := up_at hu 12 (by kernel_rfl)
                have e101 : (many gg_ L (VL z))[101]?.getD undef = .int .i64 y := many_eval hgN (HOK.out z).1 (by rw [HVL.out]; simp [lookM, y11])
                refine opIn_run (v := .int .i64 y) (w' := w') rfl rfl (fun c h => by cases h) (fun _ => trivial) ?_ ⟨z, by exact many_put (HOK.out _) 13 20 _ (by rw [HVL.out]; simp) hL, hph⟩
                go_simp
            case fin =>
              intro L z w' hall hph
              rw [HVL.out]
              dsimp only [manyL, List.set_cons_zero, List.set_cons_succ]
              clear hall HVL HOK HVI
              have HP := Lib.hid hph
              clear hph
              go_wp2_with fail
              go_meet
              exact ⟨rfl, rfl, HP⟩
          case rest =>
            obtain ⟨rfl, rfl, HMa⟩ := hcut
            clear HM9 HC1
            have HI0 : Hid (RB w B bz [(#[.int .i64 b0, .int .i64 b1, .int .i64 b2, .int .i64 b3], 48), (#[.int .i64 z0, .int .i64 z1, .int .i64 z2, .int .i64 z3], 48), (#[.int .i64 tx, .int .i64 ty, .int .i64 lv, .int .i64 BWI, .int .i64 BHI, .int .i64 PRI, .int .i64 st, .int .i64 od, .int .i64 ly, .bool rct, .bool sop, .bool eph], 26)] #[.int .i64 p0, .int .i64 p1, .int .i64 p2, .int .i64 p3] (.slice none 0 0) 0 [] wc) := Lib.hid ⟨HMa.out.1, HMa.out.2.1, HMa.out.2.2, World.ownsRow_nil _ _ _ _⟩
            obtain ⟨g0, g1, g2, g3⟩ := rc_cells HMa.out.2.2
            have d1 : p1.tdiv y = c1 := by rw [Int.tdiv_eq_ediv_of_nonneg (by omega)]; exact HCC.out.2.1
            have d2 : wrap64 c1 = c1 := w64_in (by omega)
            have hy0 : ¬ y = 0 := by omega
            go_wp2_with fail
            clear d1 d2 g0 g1 g2 g3 HMa
            go_loopg [21, 22, 23] ht (fun g v21 v22 v23 wr => ∃ (i : Nat) (bI wv : Int), i + g = ht ∧ v22 = .int .i64 wv ∧ v23 = .int .i64 bI ∧ Hid (bI = c1 + (i : Int)) ∧ Hid (i = 0 ∨ wv = (wd : Int)) ∧ Hid (RB w B bz [(#[.int .i64 b0, .int .i64 b1, .int .i64 b2, .int .i64 b3], 48), (#[.int .i64 z0, .int .i64 z1, .int .i64 z2, .int .i64 z3], 48), (#[.int .i64 tx, .int .i64 ty, .int .i64 lv, .int .i64 BWI, .int .i64 BHI, .int .i64 PRI, .int .i64 st, .int .i64 od, .int .i64 ly, .bool rct, .bool sop, .bool eph], 26)] #[.int .i64 p0, .int .i64 p1, .int .i64 p2, .int .i64 p3] v21 (i * wd) ((plP c0 c1 wd i).map (fun q => cellR p0 p1 p2 p3 x y q)) wr))
            case atStart => exact ⟨0, c1, 0, by omega, rfl, rfl, Lib.hid (by omega), Lib.hid (Or.inl rfl), Lib.hid (by rw [Nat.zero_mul]; exact HI0.out)⟩
            case round =>
              obtain ⟨i, bI, wv, hig, rfl, rfl, HBI, HWV, HRB⟩ := hrel
              clear HI0
              obtain ⟨VA, VC, hVV, _⟩ := own_any HRB.out.own
              subst hVV
              have hbIb : 0 ≤ bI ∧ bI ≤ 510 := by have := HBI.out; omega
              have mb : ∀ a m : Int, 0 ≤ a → a ≤ 511 → 1 ≤ m → m ≤ 65536 → 0 ≤ a * m ∧ a * m ≤ 511 * 65536 := fun a m h0 h1 h2 h3 => ⟨Int.mul_nonneg h0 (by omega), Int.mul_le_mul h1 h3 (by omega) (by omega)⟩
              obtain ⟨Eb, hEb⟩ : ∃ E, bI * y = E := ⟨_, rfl⟩
              obtain ⟨Eb2, hEb2⟩ : ∃ E, (bI + 1) * y = E := ⟨_, rfl⟩
              have bEb := mb bI y (by omega) (by omega) hyb.1 hyb.2
              have bEb2 := mb (bI + 1) y (by omega) (by omega) hyb.1 hyb.2
              rw [hEb] at bEb
              rw [hEb2] at bEb2
              have hlc : Eb < p3 ↔ i < ht := by
                rw [← hEb, lt_ceil hyb.1, HCC.out.2.2.2, HBI.out]
                omega
              have HEB : Hid (bI * y = Eb ∧ (bI + 1) * y = Eb2 ∧ wrap64 Eb = Eb ∧ wrap64 Eb2 = Eb2 ∧ wrap64 (bI + 1) = bI + 1) := Lib.hid ⟨hEb, hEb2, w64_in (by omega), w64_in (by omega), w64_in (by omega)⟩
              clear hEb hEb2
              obtain ⟨g0, g1, g2, g3⟩ := rc_cells HRB.out.part
              obtain ⟨m1, m2, m3, m4, m5⟩ := HEB.out
              by_cases hlt : i < ht
              · obtain ⟨gi, rfl⟩ : ∃ gi, gk = gi + 1 := ⟨gk - 1, by omega⟩
                have t1 : Eb < p3 := hlc.2 hlt
                have d1 : p0.tdiv x = c0 := by rw [Int.tdiv_eq_ediv_of_nonneg (by omega)]; exact HCC.out.1
                have d2 : wrap64 c0 = c0 := w64_in (by omega)
                have hx0 : ¬ x = 0 := by omega
                clear hlc m2 m4 m5
                go_wp2_with fail
                have HRj : Hid (RB w B bz [(#[.int .i64 b0, .int .i64 b1, .int .i64 b2, .int .i64 b3], 48), (#[.int .i64 z0, .int .i64 z1, .int .i64 z2, .int .i64 z3], 48), (#[.int .i64 tx, .int .i64 ty, .int .i64 lv, .int .i64 BWI, .int .i64 BHI, .int .i64 PRI, .int .i64 st, .int .i64 od, .int .i64 ly, .bool rct, .bool sop, .bool eph], 26)] #[.int .i64 p0, .int .i64 p1, .int .i64 p2, .int .i64 p3] (.slice VA (i * wd) VC) (i * wd + 0) ((plP c0 c1 wd i).map (fun q => cellR p0 p1 p2 p3 x y q) ++ (rowP c0 (c1 + (i : Int)) 0).map (fun q => cellR p0 p1 p2 p3 x y q)) wr) := Lib.hid (by simpa [rowP] using HRB.out)
                clear d1 d2 g0 g1 g2 g3 m1 m3 HRB t1
                go_loopg [21, 22, 24] wd (fun g v21 v22 v24 wr => ∃ (j : Nat) (aI wv2 : Int), j + g = wd ∧ v22 = .int .i64 wv2 ∧ v24 = .int .i64 aI ∧ Hid (aI = c0 + (j : Int) ∧ wv2 = (j : Int)) ∧ Hid (RB w B bz [(#[.int .i64 b0, .int .i64 b1, .int .i64 b2, .int .i64 b3], 48), (#[.int .i64 z0, .int .i64 z1, .int .i64 z2, .int .i64 z3], 48), (#[.int .i64 tx, .int .i64 ty, .int .i64 lv, .int .i64 BWI, .int .i64 BHI, .int .i64 PRI, .int .i64 st, .int .i64 od, .int .i64 ly, .bool rct, .bool sop, .bool eph], 26)] #[.int .i64 p0, .int .i64 p1, .int .i64 p2, .int .i64 p3] v21 (i * wd + j) ((plP c0 c1 wd i).map (fun q => cellR p0 p1 p2 p3 x y q) ++ (rowP c0 (c1 + (i : Int)) j).map (fun q => cellR p0 p1 p2 p3 x y q)) wr))
                case atStart => exact ⟨0, c0, 0, by omega, rfl, rfl, Lib.hid (by omega), HRj⟩
                case round =>
                  obtain ⟨j, aI, wv2, hjg, rfl, rfl, HAI, HRB2⟩ := hrel
                  clear HRj
                  obtain ⟨VB, VD, hVV, _⟩ := own_any HRB2.out.own
                  subst hVV
                  have haIb : 0 ≤ aI ∧ aI ≤ 510 := by have := HAI.out; omega
                  have hwvb : 0 ≤ wv2 ∧ wv2 ≤ 510 := by have := HAI.out; omega
                  obtain ⟨Ea, hEa⟩ : ∃ E, aI * x = E := ⟨_, rfl⟩
                  obtain ⟨Ea2, hEa2⟩ : ∃ E, (aI + 1) * x = E := ⟨_, rfl⟩
                  have bEa := mb aI x (by omega) (by omega) hxb.1 hxb.2
                  have bEa2 := mb (aI + 1) x (by omega) (by omega) hxb.1 hxb.2
                  rw [hEa] at bEa
                  rw [hEa2] at bEa2
                  have hlc2 : Ea < p2 ↔ j < wd := by
                    rw [← hEa, lt_ceil hxb.1, HCC.out.2.2.1, HAI.out.1]
                    omega
                  have HEA : Hid (aI * x = Ea ∧ (aI + 1) * x = Ea2 ∧ wrap64 Ea = Ea ∧ wrap64 Ea2 = Ea2 ∧ wrap64 (aI + 1) = aI + 1 ∧ wrap64 (wv2 + 1) = wv2 + 1) := Lib.hid ⟨hEa, hEa2, w64_in (by omega), w64_in (by omega), w64_in (by omega), w64_in (by omega)⟩
                  clear hEa hEa2
                  obtain ⟨g0, g1, g2, g3⟩ := rc_cells HRB2.out.part
                  obtain ⟨m1, m2, m3, m4, m5⟩ := HEB.out
                  obtain ⟨n1, n2, n3, n4, n5, n6⟩ := HEA.out
                  by_cases hlt2 : j < wd
                  · obtain ⟨gj, rfl⟩ : ∃ gj, gk = gj + 1 := ⟨gk - 1, by omega⟩
                    have t1 : Ea < p2 := hlc2.2 hlt2
                    obtain ⟨r0, hr0⟩ : ∃ r, maxJ p0 Ea = r := ⟨_, rfl⟩
                    obtain ⟨r1, hr1⟩ : ∃ r, maxJ p1 Eb = r := ⟨_, rfl⟩
                    obtain ⟨r2, hr2⟩ : ∃ r, minJ p2 Ea2 = r := ⟨_, rfl⟩
                    obtain ⟨r3, hr3⟩ : ∃ r, minJ p3 Eb2 = r := ⟨_, rfl⟩
                    have ME : Hid (∀ u, Calls Try.prog 60 #[.agg #[.int .i64 p0, .int .i64 p1, .int .i64 p2, .int .i64 p3], .agg #[.int .i64 Ea, .int .i64 Eb, .int .i64 Ea2, .int .i64 Eb2]] u fun e w' => e = .returned (.agg #[.int .i64 r0, .int .i64 r1, .int .i64 r2, .int .i64 r3]) ∧ Below u.heap.size u w') := Lib.hid fun u => by
                      have := rmeet_any p0 p1 p2 p3 Ea Eb Ea2 Eb2 u
                      rw [hr0, hr1, hr2, hr3] at this
                      exact this
                    have HRS : Hid (cellR p0 p1 p2 p3 x y (aI, bI) = (r0, r1, r2, r3)) := Lib.hid (by
                      unfold cellR
                      dsimp only
                      rw [n1, m1, n2, m2, hr0, hr1, hr2, hr3])
                    have hmi : i * wd + j ≤ 100000 := by
                      have : i * wd ≤ 255 * 255 := Nat.mul_le_mul (by omega) (by omega)
                      omega
                    clear hr0 hr1 hr2 hr3 hlc2
                    go_wp2_with fail
                    refine (ME.out _).mono ?_
                    rintro e w3 ⟨rfl, hb⟩
                    obtain ⟨A9, k9, w9, hr9, hR9⟩ := (HRB2.out.keep hb).app r0 r1 r2 r3 hmi
                    have HR9 : Hid (RB w B bz [(#[.int .i64 b0, .int .i64 b1, .int .i64 b2, .int .i64 b3], 48), (#[.int .i64 z0, .int .i64 z1, .int .i64 z2, .int .i64 z3], 48), (#[.int .i64 tx, .int .i64 ty, .int .i64 lv, .int .i64 BWI, .int .i64 BHI, .int .i64 PRI, .int .i64 st, .int .i64 od, .int .i64 ly, .bool rct, .bool sop, .bool eph], 26)] #[.int .i64 p0, .int .i64 p1, .int .i64 p2, .int .i64 p3] (.slice A9 (i * wd + j + 1) k9) (i * wd + (j + 1)) ((plP c0 c1 wd i).map (fun q => cellR p0 p1 p2 p3 x y q) ++ (rowP c0 (c1 + (i : Int)) (j + 1)).map (fun q => cellR p0 p1 p2 p3 x y q)) w9) := Lib.hid (by
                      have e : rowP c0 (c1 + (i : Int)) (j + 1) = rowP c0 (c1 + (i : Int)) j ++ [(aI, bI)] := by
                        rw [HAI.out.1, HBI.out]
                        simp [rowP, List.range_succ]
                      rw [e, List.map_append, ← List.append_assoc, List.map_singleton, HRS.out]
                      exact hR9)
                    clear hb g0 g1 g2 g3 HRB2 hR9 m1 m2 m3 m4 n1 n2 n3 n4 t1 ME hmi
                    go_wp2
                    go_roundg gj
                    case measure => omega
                    case rel => exact ⟨j + 1, aI + 1, wv2 + 1, by omega, rfl, rfl, Lib.hid (by have := HAI.out; omega), HR9⟩
                  · obtain rfl : j = wd := by omega
                    have t1 : ¬ Ea < p2 := fun h => hlt2 (hlc2.1 h)
                    have HR9 : Hid (RB w B bz [(#[.int .i64 b0, .int .i64 b1, .int .i64 b2, .int .i64 b3], 48), (#[.int .i64 z0, .int .i64 z1, .int .i64 z2, .int .i64 z3], 48), (#[.int .i64 tx, .int .i64 ty, .int .i64 lv, .int .i64 BWI, .int .i64 BHI, .int .i64 PRI, .int .i64 st, .int .i64 od, .int .i64 ly, .bool rct, .bool sop, .bool eph], 26)] #[.int .i64 p0, .int .i64 p1, .int .i64 p2, .int .i64 p3] (.slice VB (i * j + j) VD) ((i + 1) * j) ((plP c0 c1 j (i + 1)).map (fun q => cellR p0 p1 p2 p3 x y q)) wr) := Lib.hid (by
                      rw [plP, List.map_append, show (i + 1) * j = i * j + j by rw [Nat.add_mul, Nat.one_mul]]
                      exact HRB2.out)
                    clear hlc2 HRB2
                    go_wp2
                    go_roundg gi
                    case measure => omega
                    case rel => exact ⟨i + 1, bI + 1, wv2, by omega, rfl, rfl, Lib.hid (by have := HBI.out; omega), Lib.hid (Or.inr HAI.out.2), HR9⟩
              · obtain rfl : i = ht := by omega
                have t1 : ¬ Eb < p3 := fun h => hlt (hlc.1 h)
                have hwv : wv = (wd : Int) := by
                  rcases HWV.out with h | h
                  · omega
                  · exact h
                have HWV2 := Lib.hid hwv
                have hR1 : R.1 = (plP c0 c1 wd i).map (fun q => cellR p0 p1 p2 p3 x y q) := by rw [HRR.out.1]; exact HRR.out.2
                have hR2 : R.2 = (wd : Int) := by rw [HRR.out.1]
                have hRl : R.1.length = i * wd := by rw [hR1, List.length_map, plP_len]
                have HRN := Lib.hid (And.intro hR1 (And.intro hR2 hRl))
                clear hR1 hR2 hRl hwv hlc
                go_wp2
                go_ret2
                rw [HRN.out.2.1, HRN.out.2.2, HRN.out.1, HWV2.out]
                exact ⟨_, _, rfl, RcL.own HRB.out.own (by rw [List.length_map, plP_len]), by rw [HBE.out]; exact HRB.out.wk.bel⟩
theorem rblocks_any (b z : Rc4) (tx ty lv st od ly : Int) (rct sop eph : Bool) (bw bh pr r k : Nat) (w : World) (hb : inN b 255) (hbl : b.1 ≤ b.2.2.1 ∧ b.2.1 ≤ b.2.2.2) (hz : inN z 255) (hzl : z.1 ≤ z.2.2.1 ∧ z.2.1 ≤ z.2.2.2) (hpr : 1 ≤ pr ∧ pr ≤ 15) (hbw : 2 ≤ bw ∧ bw ≤ 6) (hbh : 2 ≤ bh ∧ bh ≤ 6) (hk : k ≤ 100000) (hr : r ≤ 100) :
    Calls Try.prog 31 #[rA b, rA z, .agg #[.int .i64 tx, .int .i64 ty, .int .i64 lv, .int .i64 (bw : Int), .int .i64 (bh : Int), .int .i64 (pr : Int), .int .i64 st, .int .i64 od, .int .i64 ly, .bool rct, .bool sop, .bool eph], .int .i64 (r : Int), .int .i64 (k : Int)] w fun e w' =>
      ∃ A c, e = .returned (.tuple #[.slice A (blkF b z pr bw bh r k).1.length c, .int .i64 (blkF b z pr bw bh r k).2]) ∧ RcL w' w'.heap.size (.slice A (blkF b z pr bw bh r k).1.length c) (blkF b z pr bw bh r k).1 ∧ Below w.heap.size w w' := by
  have hp := pow16 pr (by omega)
  have h := pc_bd (z := z) (m := 255) ((2 ^ pr : Nat) : Int) hp.1 (by omega) hz hzl
  obtain ⟨b0, b1, b2, b3⟩ := b
  obtain ⟨z0, z1, z2, z3⟩ := z
  obtain ⟨hb1, hb2, hb3, hb4⟩ := hb
  obtain ⟨hz1, hz2, hz3, hz4⟩ := hz
  simp only at hb1 hb2 hb3 hb4 hz1 hz2 hz3 hz4 hbl hzl
  exact rblocks_walk b0 b1 b2 b3 z0 z1 z2 z3 tx ty lv st od ly rct sop eph bw bh pr r k _ _ _ _ _ (Lib.hid ⟨rfl, rfl, rfl, rfl, rfl⟩) w (by omega) (by omega) (by omega) (by omega) (by omega) (by omega) (by omega) (by omega) (by omega)
    (pcF (z0, z1, z2, z3) ((2 ^ pr : Nat) : Int)).1 (pcF (z0, z1, z2, z3) ((2 ^ pr : Nat) : Int)).2 (pcF (z0, z1, z2, z3) ((2 ^ pr : Nat) : Int)).1.toNat (pcF (z0, z1, z2, z3) ((2 ^ pr : Nat) : Int)).2.toNat (Lib.hid rfl) (Lib.hid ⟨by omega, by omega⟩) h.1 h.2 _ (Lib.hid rfl)
end Go.Proofs.Ythcpmonahmogaaa
