/- canvas: the document's Check. -/
import Derived.Test.YthcpmonahmogaaaCvRf
import Derived.Test.YthcpmonahmogaaaCvCh
import Derived.Test.YthcpmonahmogaaaReg
import Derived.Laws.Rows
set_option linter.unusedVariables false
set_option linter.unusedSimpArgs false
namespace Go.Proofs.Ythcpmonahmogaaa
open Go.RowKit
set_option maxRecDepth 100000
set_option maxHeartbeats 8000000 in
theorem rbounds16 (d : Nat) (s : Bool) (w : World) (hd : 1 ≤ d ∧ d ≤ 16) : Calls Try.prog 36 #[.int .i64 (d : Int), .bool s] w fun e w' => e = .returned (.tuple #[.int .i64 (leastF d s), .int .i64 (mostF d s)]) ∧ w' = w := by
  obtain rfl | rfl | rfl | rfl | rfl | rfl | rfl | rfl | rfl | rfl | rfl | rfl | rfl | rfl | rfl | rfl : d = 1 ∨ d = 2 ∨ d = 3 ∨ d = 4 ∨ d = 5 ∨ d = 6 ∨ d = 7 ∨ d = 8 ∨ d = 9 ∨ d = 10 ∨ d = 11 ∨ d = 12 ∨ d = 13 ∨ d = 14 ∨ d = 15 ∨ d = 16 := by omega
  all_goals
    cases s
    all_goals
      go_enter Try.func36, Try.ntmps36
      go_wp2
      go_ret2
      exact ⟨rfl, rfl⟩
set_option maxHeartbeats 16000000 in
theorem rcheck_any {AC : Option Addr} {cC : Nat} {cs : List Cp} {w : World} (ds : Nat → List Int) (x y ox oy tx ty lv bw bh pr st od ly : Int) (rct sop eph : Bool) (h : CompsAt w AC cs) (hl : cs.length ≤ 1000)
    (hd : ∀ (i : Nat) (c : Cp), cs[i]? = some c → Lst w w.heap.size c.A ((ds i).map (Value.int .i64)) ∧ (ds i).length = c.n ∧ c.n ≤ 1000000) :
    Calls Try.prog 13 #[.agg #[.int .i64 x, .int .i64 y, .int .i64 ox, .int .i64 oy, .slice AC cs.length cC], .agg #[.int .i64 tx, .int .i64 ty, .int .i64 lv, .int .i64 bw, .int .i64 bh, .int .i64 pr, .int .i64 st, .int .i64 od, .int .i64 ly, .bool rct, .bool sop, .bool eph]] w fun e w' =>
      e = .returned (.int .i64 (if frameF x y ox oy cs tx ty lv bw bh pr st od ly rct = 0 then firstBad x y ox oy ds cs 0 else frameF x y ox oy cs tx ty lv bw bh pr st od ly rct)) ∧ Below w.heap.size w w' := by
  have HI := Lib.hid h
  have HD := Lib.hid hd
  have FA := Lib.hid (fun (u : World) (hu : CompsAt u AC cs) => rframe_any (cC := cC) x y ox oy tx ty lv bw bh pr st od ly rct sop eph hu hl)
  obtain ⟨R, hR⟩ : ∃ R, frameF x y ox oy cs tx ty lv bw bh pr st od ly rct = R := ⟨_, rfl⟩
  rw [hR] at FA ⊢
  have HR := Lib.hid hR
  obtain ⟨N, hN⟩ : ∃ N, cs.length = N := ⟨_, rfl⟩
  rw [hN] at hl FA ⊢
  have HN := Lib.hid hN
  obtain ⟨FB, hFB⟩ : ∃ FB, firstBad x y ox oy ds cs 0 = FB := ⟨_, rfl⟩
  rw [hFB]
  have HFB0 := Lib.hid hFB
  obtain ⟨RES, hRES⟩ : ∃ v, (if R = 0 then FB else R) = v := ⟨_, rfl⟩
  rw [hRES]
  have HRES := Lib.hid hRES
  clear hR h hN hd hFB hRES
  obtain ⟨B, hB⟩ : ∃ B, w.heap.size = B := ⟨_, rfl⟩
  obtain ⟨w1, hw1⟩ : ∃ w1, (w.alloc (.cells #[.int .i64 x, .int .i64 y, .int .i64 ox, .int .i64 oy, .slice AC N cC] 24)).alloc (.cells #[.int .i64 tx, .int .i64 ty, .int .i64 lv, .int .i64 bw, .int .i64 bh, .int .i64 pr, .int .i64 st, .int .i64 od, .int .i64 ly, .bool rct, .bool sop, .bool eph] 26) = w1 := ⟨_, rfl⟩
  have H1 : Hid (Below B w w1 ∧ w1.heap[B]? = some (.cells #[.int .i64 x, .int .i64 y, .int .i64 ox, .int .i64 oy, .slice AC N cC] 24 (0, 0)) ∧ w1.heap[B + 1]? = some (.cells #[.int .i64 tx, .int .i64 ty, .int .i64 lv, .int .i64 bw, .int .i64 bh, .int .i64 pr, .int .i64 st, .int .i64 od, .int .i64 ly, .bool rct, .bool sop, .bool eph] 26 (0, 0)) ∧ w1.heap.size = B + 2) := Lib.hid (by
    have h := allocs2 [Obj.cells #[.int .i64 x, .int .i64 y, .int .i64 ox, .int .i64 oy, .slice AC N cC] 24, Obj.cells #[.int .i64 tx, .int .i64 ty, .int .i64 lv, .int .i64 bw, .int .i64 bh, .int .i64 pr, .int .i64 st, .int .i64 od, .int .i64 ly, .bool rct, .bool sop, .bool eph] 26] w
    rw [show [Obj.cells #[.int .i64 x, .int .i64 y, .int .i64 ox, .int .i64 oy, .slice AC N cC] 24, Obj.cells #[.int .i64 tx, .int .i64 ty, .int .i64 lv, .int .i64 bw, .int .i64 bh, .int .i64 pr, .int .i64 st, .int .i64 od, .int .i64 ly, .bool rct, .bool sop, .bool eph] 26].foldl World.alloc w = w1 from hw1, hB] at h
    exact ⟨h.2.1, h.2.2 0 _ rfl, h.2.2 1 _ rfl, h.1⟩)
  have HE := Lib.hid (And.intro hw1 hB)
  have HW : Hid (Below w.heap.size w w1) := Lib.hid (by rw [hB]; exact H1.out.1)
  clear hw1 hB
  obtain ⟨g0, g1, g2, g3, g4⟩ := img_cells H1.out.2.1
  obtain ⟨k0, k1, k2, k3, k4, k5, k6, k7, k8, k9, k10, k11⟩ := par_cells H1.out.2.2.1
  go_enter Try.func13, Try.ntmps13
  go_upto_region 1 with fail
  rw [show (w.alloc (.cells #[.int .i64 x, .int .i64 y, .int .i64 ox, .int .i64 oy, .slice AC N cC] 24)).alloc (.cells #[.int .i64 tx, .int .i64 ty, .int .i64 lv, .int .i64 bw, .int .i64 bh, .int .i64 pr, .int .i64 st, .int .i64 od, .int .i64 ly, .bool rct, .bool sop, .bool eph] 26) = w1 from HE.out.1, HE.out.2]
  go_wp2_with fail
  refine (FA.out _ (HI.out.keep HW.out)).mono ?_
  rintro e w2 ⟨rfl, hb⟩
  have HB2 : Hid (Below w.heap.size w w2 ∧ w2.heap[B]? = some (.cells #[.int .i64 x, .int .i64 y, .int .i64 ox, .int .i64 oy, .slice AC N cC] 24 (0, 0)) ∧ B < w2.heap.size ∧ w.heap.size = B) := Lib.hid ⟨HW.out.trans (hb.mono HW.out.size), (hb.block B (by have := H1.out.2.2.2; omega)).trans H1.out.2.1, by have := H1.out.2.2.2; have := hb.size; omega, HE.out.2⟩
  clear g0 g1 g2 g3 g4 k0 k1 k2 k3 k4 k5 k6 k7 k8 k9 k10 k11 H1 HE HW hb FA
  by_cases hr : R = 0
  case neg =>
    have hRR : RES = R := by rw [← HRES.out]; exact if_neg hr
    have e1 : (R != 0) = true := by simp [hr]
    subst hRR
    clear HRES HR
    go_wp2
    go_ret
    first | exact HB2.out.1 | exact ⟨rfl, HB2.out.1⟩
  case pos =>
  subst hr
  have hRR : FB = RES := by rw [← HRES.out]; exact (if_pos rfl).symm
  subst hRR
  clear HRES
  have HF : Hid (gridF x y ox oy = 0 ∧ cs.all compB = true) := Lib.hid (by
    have h := HR.out
    unfold frameF at h
    split at h
    · exact absurd h (by assumption)
    rename_i hg
    refine ⟨by omega, ?_⟩
    split at h
    · cases h
    split at h
    · cases h
    · rename_i hk; simpa using hk)
  have HXY := Lib.hid (grid_zero HF.out.1)
  go_upto_region 5 with fail
  go_loopw [6] (fun iv wr => ∃ j : Nat, j ≤ N ∧ iv = .int .i64 (j : Int) ∧ FB = firstBad x y ox oy ds (cs.drop j) j ∧ Hid (Below w.heap.size w wr ∧ wr.heap[B]? = some (.cells #[.int .i64 x, .int .i64 y, .int .i64 ox, .int .i64 oy, .slice AC N cC] 24 (0, 0)) ∧ B < wr.heap.size)) (fun iv _ => N - (intOf iv).toNat)
  case atStart => exact ⟨0, by omega, rfl, HFB0.out.symm, Lib.hid ⟨HB2.out.1, HB2.out.2.1, HB2.out.2.2.1⟩⟩
  case round =>
   obtain ⟨j, hj, rfl, hfb, HB3⟩ := hrel
   have HFB := Lib.hid hfb
   have HWB : Hid (w.heap.size = B) := Lib.hid HB2.out.2.2.2
   clear hfb HB2
   obtain ⟨g0, g1, g2, g3, g4⟩ := img_cells HB3.out.2.1
   by_cases hlt : j < N
   case neg =>
    obtain rfl : j = N := by omega
    have h2 : ¬ (j : Int) < (j : Int) := by omega
    have hZ : FB = 0 := by rw [HFB.out, List.drop_of_length_le (by have := HN.out; omega)]; rfl
    subst hZ
    clear HFB
    go_wp2
    go_ret
    first | exact HB3.out.1 | exact ⟨rfl, HB3.out.1⟩
   case pos =>
   have hjl : j < cs.length := by have := HN.out; omega
   obtain ⟨cp, hx⟩ : ∃ cp, cs[j] = cp := ⟨_, rfl⟩
   have hx2 : cs[j]? = some cp := by rw [List.getElem?_eq_getElem hjl, hx]
   have HX := Lib.hid hx2
   obtain ⟨bk, o, rfl, hbk, c0, c1, c2, c3, c4⟩ := (HI.out.keep HB3.out.1) j cp hx2
   have h2 : (j : Int) < (N : Int) := by omega
   have h4 : (0 : Int) ≤ (j : Int) := by omega
   obtain ⟨dd, sg, dx, dy, A, n, cap⟩ := cp
   simp only at c0 c1 c2 c3 c4
   clear hx hx2
   have hcb : compB ⟨dd, sg, dx, dy, A, n, cap⟩ = true := List.all_eq_true.1 HF.out.2 _ (List.mem_of_getElem? HX.out)
   unfold compB inB at hcb
   simp only [Bool.and_eq_true, decide_eq_true_eq] at hcb
   obtain ⟨d, rfl⟩ : ∃ d : Nat, dd = (d : Int) := ⟨dd.toNat, by omega⟩
   have HDD : Hid ((1 ≤ d ∧ d ≤ 16) ∧ (1 ≤ dx ∧ dx ≤ 4) ∧ (1 ≤ dy ∧ dy ≤ 4)) := Lib.hid (by omega)
   obtain ⟨SR, hSR⟩ : ∃ SR, sampC x y ox oy ⟨(d : Int), sg, dx, dy, A, n, cap⟩ (ds j) = SR := ⟨_, rfl⟩
   have HSR := Lib.hid hSR
   have HDR : Hid (cs.drop j = ⟨(d : Int), sg, dx, dy, A, n, cap⟩ :: cs.drop (j + 1)) := Lib.hid (by
     rw [List.drop_eq_getElem_cons hjl]
     have := HX.out
     rw [List.getElem?_eq_getElem hjl] at this
     rw [Option.some.inj this])
   have HFS : Hid (FB = if SR = 0 then firstBad x y ox oy ds (cs.drop (j + 1)) (j + 1) else SR) := Lib.hid (by
     rw [HFB.out, HDR.out]
     show (if sampC x y ox oy ⟨(d : Int), sg, dx, dy, A, n, cap⟩ (ds j) = 0 then _ else _) = _
     rw [HSR.out])
   have HDJ : Hid (Lst w w.heap.size A ((ds j).map (Value.int .i64)) ∧ (ds j).length = n ∧ n ≤ 1000000) := Lib.hid (HD.out j _ HX.out)
   unfold sampC smpF at hSR
   simp only [Int.toNat_natCast] at hSR
   have HS := Lib.hid hSR
   clear hSR hcb HSR HFB HDR
   go_upto_region 8 with fail
   obtain ⟨V, hV⟩ : ∃ V, wr.alloc (.cells #[.int .i64 (d : Int), .bool sg, .int .i64 dx, .int .i64 dy, .slice A n cap] 39) = V := ⟨_, rfl⟩
   obtain ⟨P, hP⟩ : ∃ P, wr.heap.size = P := ⟨_, rfl⟩
   have HV : Hid (Below w.heap.size w V ∧ V.heap[B]? = some (.cells #[.int .i64 x, .int .i64 y, .int .i64 ox, .int .i64 oy, .slice (some ⟨bk, o, none⟩) N cC] 24 (0, 0)) ∧ B < V.heap.size ∧ V.heap[P]? = some (.cells #[.int .i64 (d : Int), .bool sg, .int .i64 dx, .int .i64 dy, .slice A n cap] 39 (0, 0)) ∧ P < V.heap.size) := Lib.hid (by
     have hb : Below wr.heap.size wr V := by rw [← hV]; exact (Below.refl _ _).alloc (Nat.le_refl _) _
     have hp : V.heap[P]? = some (.cells #[.int .i64 (d : Int), .bool sg, .int .i64 dx, .int .i64 dy, .slice A n cap] 39 (0, 0)) := by rw [← hV, ← hP]; exact World.alloc_heap_new wr _
     exact ⟨HB3.out.1.trans (hb.mono HB3.out.1.size), (hb.block B HB3.out.2.2).trans HB3.out.2.1, Nat.lt_of_lt_of_le HB3.out.2.2 hb.size, hp, (Array.getElem?_eq_some_iff.1 hp).1⟩)
   rw [hV, hP]
   clear hV hP HB3 g0 g1 g2 g3 g4 c0 c1 c2 c3 c4 hbk
   obtain ⟨cx0, e0⟩ : ∃ c, ceilF ox dx = c := ⟨_, rfl⟩
   obtain ⟨cx1, e1⟩ : ∃ c, ceilF x dx = c := ⟨_, rfl⟩
   obtain ⟨cy0, e2⟩ : ∃ c, ceilF oy dy = c := ⟨_, rfl⟩
   obtain ⟨cy1, e3⟩ : ∃ c, ceilF y dy = c := ⟨_, rfl⟩
   obtain ⟨M, hM⟩ : ∃ M, (cx1 - cx0) * (cy1 - cy0) = M := ⟨_, rfl⟩
   have CP : Hid (∀ u, Calls Try.prog 22 #[.agg #[.int .i64 ox, .int .i64 oy, .int .i64 x, .int .i64 y], .int .i64 dx, .int .i64 dy] u fun e w' => e = .returned (.agg #[.int .i64 cx0, .int .i64 cy0, .int .i64 cx1, .int .i64 cy1]) ∧ Below u.heap.size u w') := Lib.hid fun u => by
     obtain ⟨a1, a2⟩ := HXY.out
     obtain ⟨a3, a4, a5⟩ := HDD.out
     rw [← e0, ← e1, ← e2, ← e3]
     exact rpart_any ox oy x y dx dy u (by omega) (by omega) (by omega) (by omega) (by omega) (by omega)
   have CA : Hid (∀ u, Calls Try.prog 32 #[.agg #[.int .i64 cx0, .int .i64 cy0, .int .i64 cx1, .int .i64 cy1]] u fun e w' => e = .returned (.int .i64 M) ∧ Below u.heap.size u w') := Lib.hid fun u => by
     obtain ⟨a1, a2⟩ := HXY.out
     obtain ⟨a3, a4, a5⟩ := HDD.out
     have m0 := ceil_mono (show ox ≤ x by omega) a4.1
     have m1 := ceil_mono (show oy ≤ y by omega) a5.1
     have m2 := ceil_bd x dx (by omega) a4.1
     have m3 := ceil_bd y dy (by omega) a5.1
     have m4 := ceil_bd ox dx (by omega) a4.1
     have m5 := ceil_bd oy dy (by omega) a5.1
     rw [← hM, ← e0, ← e1, ← e2, ← e3]
     exact rarea_any _ _ _ _ u (by omega) (by omega)
   have HSM : Hid ((if (n : Int) = M then (if (ds j).all (fun x => inB x (leastF d sg) (mostF d sg)) then 0 else 11) else 7) = SR) := Lib.hid (by
     have h := HS.out
     rw [e0, e1, e2, e3, hM] at h
     exact h)
   clear HS e0 e1 e2 e3 hM
   obtain ⟨VL, hVL⟩ : ∃ VL : Unit → List (Nat × Nat × Value), VL = fun z => [(0, 29, .pointer (some ⟨P, 4, none⟩)), (1, 30, .slice A n cap), (2, 31, .int .i64 (n : Int)), (3, 32, .agg #[.int .i64 x, .int .i64 y, .int .i64 ox, .int .i64 oy, .slice (some ⟨bk, o, none⟩) N cC]), (4, 33, .agg #[.int .i64 ox, .int .i64 oy, .int .i64 x, .int .i64 y]), (5, 34, .pointer (some ⟨P, 2, none⟩)), (6, 35, .int .i64 dx), (7, 36, .pointer (some ⟨P, 3, none⟩)), (8, 37, .int .i64 dy), (9, 38, .agg #[.int .i64 cx0, .int .i64 cy0, .int .i64 cx1, .int .i64 cy1]), (10, 39, .int .i64 M), (11, 40, .bool ((n : Int) != M))] := ⟨_, rfl⟩
   have hok : ∀ z, manyOk 72 (VL z) := fun z => by rw [hVL]; exact ⟨by simp, by simp, by simp⟩
   have HVL := Lib.hid hVL
   have hvi : ∀ z, ∀ x ∈ VL z, x.1 < 12 := fun z => by rw [hVL]; simp
   have HOK := Lib.hid hok
   have HVI := Lib.hid hvi
   clear hVL hok hvi
   refine (wpIn_wide (n := 9)).1 (regionIn_many (N := 72) (w := V) VL (fun L z w' => (Below V.heap.size V w') ∧ True) [(0, .agg #[.int .i64 x, .int .i64 y, .int .i64 ox, .int .i64 oy, .slice (some ⟨bk, o, none⟩) N cC]), (1, .agg #[.int .i64 tx, .int .i64 ty, .int .i64 lv, .int .i64 bw, .int .i64 bh, .int .i64 pr, .int .i64 st, .int .i64 od, .int .i64 ly, .bool rct, .bool sop, .bool eph]), (2, .pointer (some ⟨B, 0, none⟩)), (3, .pointer (some ⟨B + 1, 0, none⟩)), (7, .pointer (some ⟨P, 0, none⟩))] (by kernel_rfl) (by kernel_rfl) rfl (by simp only [List.forall_mem_cons, List.not_mem_nil, false_imp_iff, implies_true, and_true]; exact ⟨rfl, rfl, rfl, rfl, rfl⟩) HVI.out () ?start ?step ?fin)
   case start => exact ⟨below_drewN (Below.refl _ V) 1, trivial⟩
   case step =>
     intro gg_ hgN hgF ii_ hii_ L z w' hph hs hu
     obtain ⟨hcm, hph⟩ := hph
     have hF0 := hgF (0, .agg #[.int .i64 x, .int .i64 y, .int .i64 ox, .int .i64 oy, .slice (some ⟨bk, o, none⟩) N cC]) (by simp)
     have hF1 := hgF (1, .agg #[.int .i64 tx, .int .i64 ty, .int .i64 lv, .int .i64 bw, .int .i64 bh, .int .i64 pr, .int .i64 st, .int .i64 od, .int .i64 ly, .bool rct, .bool sop, .bool eph]) (by simp)
     have hF2 := hgF (2, .pointer (some ⟨B, 0, none⟩)) (by simp)
     have hF3 := hgF (3, .pointer (some ⟨B + 1, 0, none⟩)) (by simp)
     have hF7 := hgF (7, .pointer (some ⟨P, 0, none⟩)) (by simp)
     have hL := hu.1
     have hii_ : ii_ < 12 := hii_
     clear hgF
     obtain rfl | rfl | rfl | rfl | rfl | rfl | rfl | rfl | rfl | rfl | rfl | rfl := (by omega : ii_ = 0 ∨ ii_ = 1 ∨ ii_ = 2 ∨ ii_ = 3 ∨ ii_ = 4 ∨ ii_ = 5 ∨ ii_ = 6 ∨ ii_ = 7 ∨ ii_ = 8 ∨ ii_ = 9 ∨ ii_ = 10 ∨ ii_ = 11)
     · skip
       have e7 : (many gg_ L (VL z))[7]?.getD undef = .pointer (some ⟨P, 0, none⟩) := many_out hgN (HOK.out z).1 (by rw [HVL.out]; rfl) hF7
       refine opIn_run (v := .pointer (some ⟨P, 4, none⟩)) (w' := w') rfl rfl (fun c h => by cases h) (fun _ => trivial) ?_ ⟨z, by exact many_put (HOK.out _) 0 29 _ (by rw [HVL.out]; simp) hL, hcm, hph⟩
       go_simp
     · skip
       have y0 : L 0 = true := up_at hu 0 (by kernel_rfl)
       have hcell : w'.cell? ⟨P, 4, none⟩ = some (.slice A n cap) := (rb_cell ((hcm.block P HV.out.2.2.2.2).trans HV.out.2.2.2.1) 4)
       have e29 : (many gg_ L (VL z))[29]?.getD undef = .pointer (some ⟨P, 4, none⟩) := many_eval hgN (HOK.out z).1 (by rw [HVL.out]; simp [lookM, y0])
       refine opIn_run (v := .slice A n cap) (w' := w') rfl rfl (fun c h => by cases h) (fun _ => trivial) ?_ ⟨z, by exact many_put (HOK.out _) 1 30 _ (by rw [HVL.out]; simp) hL, hcm, hph⟩
       go_simp
     · skip
       have y1 : L 1 = true := up_at hu 1 (by kernel_rfl)
       have e30 : (many gg_ L (VL z))[30]?.getD undef = .slice A n cap := many_eval hgN (HOK.out z).1 (by rw [HVL.out]; simp [lookM, y1])
       refine opIn_run (v := .int .i64 (n : Int)) (w' := w') rfl rfl (fun c h => by cases h) (fun _ => trivial) ?_ ⟨z, by exact many_put (HOK.out _) 2 31 _ (by rw [HVL.out]; simp) hL, hcm, hph⟩
       go_simp
     · skip
       obtain ⟨g0, g1, g2, g3, g4⟩ := img_cells ((hcm.block B HV.out.2.2.1).trans HV.out.2.1)
       have e2 : (many gg_ L (VL z))[2]?.getD undef = .pointer (some ⟨B, 0, none⟩) := many_out hgN (HOK.out z).1 (by rw [HVL.out]; rfl) hF2
       refine opIn_run (v := .agg #[.int .i64 x, .int .i64 y, .int .i64 ox, .int .i64 oy, .slice (some ⟨bk, o, none⟩) N cC]) (w' := w') rfl rfl (fun c h => by cases h) (fun _ => trivial) ?_ ⟨z, by exact many_put (HOK.out _) 3 32 _ (by rw [HVL.out]; simp) hL, hcm, hph⟩
       go_simp
     · skip
       have y3 : L 3 = true := up_at hu 3 (by kernel_rfl)
       have e32 : (many gg_ L (VL z))[32]?.getD undef = .agg #[.int .i64 x, .int .i64 y, .int .i64 ox, .int .i64 oy, .slice (some ⟨bk, o, none⟩) N cC] := many_eval hgN (HOK.out z).1 (by rw [HVL.out]; simp [lookM, y3])
       refine opIn_call (f := 35) (args := #[.agg #[.int .i64 x, .int .i64 y, .int .i64 ox, .int .i64 oy, .slice (some ⟨bk, o, none⟩) N cC]]) (w' := w') rfl rfl (fun c h => by cases h) (fun _ => trivial) rfl (by go_simp) ((callsIn_wide.2 (rwhole_any x y ox oy (some ⟨bk, o, none⟩) N cC w')).mono ?_)
       rintro e w2 ⟨rfl, hb⟩
       exact ⟨_, rfl, z, by exact many_put (HOK.out _) 4 33 _ (by rw [HVL.out]; simp) hL, hcm.trans (hb.mono hcm.size), trivial⟩
     · skip
       have e7 : (many gg_ L (VL z))[7]?.getD undef = .pointer (some ⟨P, 0, none⟩) := many_out hgN (HOK.out z).1 (by rw [HVL.out]; rfl) hF7
       refine opIn_run (v := .pointer (some ⟨P, 2, none⟩)) (w' := w') rfl rfl (fun c h => by cases h) (fun _ => trivial) ?_ ⟨z, by exact many_put (HOK.out _) 5 34 _ (by rw [HVL.out]; simp) hL, hcm, hph⟩
       go_simp
     · skip
       have y5 : L 5 = true := up_at hu 5 (by kernel_rfl)
       have hcell : w'.cell? ⟨P, 2, none⟩ = some (.int .i64 dx) := (rb_cell ((hcm.block P HV.out.2.2.2.2).trans HV.out.2.2.2.1) 2)
       have e34 : (many gg_ L (VL z))[34]?.getD undef = .pointer (some ⟨P, 2, none⟩) := many_eval hgN (HOK.out z).1 (by rw [HVL.out]; simp [lookM, y5])
       refine opIn_run (v := .int .i64 dx) (w' := w') rfl rfl (fun c h => by cases h) (fun _ => trivial) ?_ ⟨z, by exact many_put (HOK.out _) 6 35 _ (by rw [HVL.out]; simp) hL, hcm, hph⟩
       go_simp
     · skip
       have e7 : (many gg_ L (VL z))[7]?.getD undef = .pointer (some ⟨P, 0, none⟩) := many_out hgN (HOK.out z).1 (by rw [HVL.out]; rfl) hF7
       refine opIn_run (v := .pointer (some ⟨P, 3, none⟩)) (w' := w') rfl rfl (fun c h => by cases h) (fun _ => trivial) ?_ ⟨z, by exact many_put (HOK.out _) 7 36 _ (by rw [HVL.out]; simp) hL, hcm, hph⟩
       go_simp
     · skip
       have y7 : L 7 = true := up_at hu 7 (by kernel_rfl)
       have hcell : w'.cell? ⟨P, 3, none⟩ = some (.int .i64 dy) := (rb_cell ((hcm.block P HV.out.2.2.2.2).trans HV.out.2.2.2.1) 3)
       have e36 : (many gg_ L (VL z))[36]?.getD undef = .pointer (some ⟨P, 3, none⟩) := many_eval hgN (HOK.out z).1 (by rw [HVL.out]; simp [lookM, y7])
       refine opIn_run (v := .int .i64 dy) (w' := w') rfl rfl (fun c h => by cases h) (fun _ => trivial) ?_ ⟨z, by exact many_put (HOK.out _) 8 37 _ (by rw [HVL.out]; simp) hL, hcm, hph⟩
       go_simp
     · skip
       have y4 : L 4 = true := up_at hu 4 (by kernel_rfl)
       have y6 : L 6 = true := up_at hu 6 (by kernel_rfl)
       have y8 : L 8 = true := up_at hu 8 (by kernel_rfl)
       have e33 : (many gg_ L (VL z))[33]?.getD undef = .agg #[.int .i64 ox, .int .i64 oy, .int .i64 x, .int .i64 y] := many_eval hgN (HOK.out z).1 (by rw [HVL.out]; simp [lookM, y4])
       have e35 : (many gg_ L (VL z))[35]?.getD undef = .int .i64 dx := many_eval hgN (HOK.out z).1 (by rw [HVL.out]; simp [lookM, y6])
       have e37 : (many gg_ L (VL z))[37]?.getD undef = .int .i64 dy := many_eval hgN (HOK.out z).1 (by rw [HVL.out]; simp [lookM, y8])
       refine opIn_call (f := 22) (args := #[.agg #[.int .i64 ox, .int .i64 oy, .int .i64 x, .int .i64 y], .int .i64 dx, .int .i64 dy]) (w' := w') rfl rfl (fun c h => by cases h) (fun _ => trivial) rfl (by go_simp) ((callsIn_wide.2 (CP.out w')).mono ?_)
       rintro e w2 ⟨rfl, hb⟩
       exact ⟨_, rfl, z, by exact many_put (HOK.out _) 9 38 _ (by rw [HVL.out]; simp) hL, hcm.trans (hb.mono hcm.size), trivial⟩
     · skip
       have y9 : L 9 = true := up_at hu 9 (by kernel_rfl)
       have e38 : (many gg_ L (VL z))[38]?.getD undef = .agg #[.int .i64 cx0, .int .i64 cy0, .int .i64 cx1, .int .i64 cy1] := many_eval hgN (HOK.out z).1 (by rw [HVL.out]; simp [lookM, y9])
       refine opIn_call (f := 32) (args := #[.agg #[.int .i64 cx0, .int .i64 cy0, .int .i64 cx1, .int .i64 cy1]]) (w' := w') rfl rfl (fun c h => by cases h) (fun _ => trivial) rfl (by go_simp) ((callsIn_wide.2 (CA.out w')).mono ?_)
       rintro e w2 ⟨rfl, hb⟩
       exact ⟨_, rfl, z, by exact many_put (HOK.out _) 10 39 _ (by rw [HVL.out]; simp) hL, hcm.trans (hb.mono hcm.size), trivial⟩
     · skip
       have y2 : L 2 = true := up_at hu 2 (by kernel_rfl)
       have y10 : L 10 = true := up_at hu 10 (by kernel_rfl)
       have e31 : (many gg_ L (VL z))[31]?.getD undef = .int .i64 (n : Int) := many_eval hgN (HOK.out z).1 (by rw [HVL.out]; simp [lookM, y2])
       have e39 : (many gg_ L (VL z))[39]?.getD undef = .int .i64 M := many_eval hgN (HOK.out z).1 (by rw [HVL.out]; simp [lookM, y10])
       refine opIn_run (v := .bool ((n : Int) != M)) (w' := w') rfl rfl (fun c h => by cases h) (fun _ => trivial) ?_ ⟨z, by exact many_put (HOK.out _) 11 40 _ (by rw [HVL.out]; simp) hL, hcm, hph⟩
       go_simp
   case fin =>
     intro L z w' hall hph
     obtain ⟨hcm, hph⟩ := hph
     rw [HVL.out]
     dsimp only [manyL, List.set_cons_zero, List.set_cons_succ]
     clear hall HVL HOK HVI
     obtain ⟨U, hU⟩ : ∃ U, U = w' := ⟨_, rfl⟩
     subst hU
     have HU : Hid (Below w.heap.size w U ∧ U.heap[B]? = some (.cells #[.int .i64 x, .int .i64 y, .int .i64 ox, .int .i64 oy, .slice (some ⟨bk, o, none⟩) N cC] 24 (0, 0)) ∧ B < U.heap.size ∧ U.heap[P]? = some (.cells #[.int .i64 (d : Int), .bool sg, .int .i64 dx, .int .i64 dy, .slice A n cap] 39 (0, 0)) ∧ P < U.heap.size) := Lib.hid ⟨HV.out.1.trans (hcm.mono HV.out.1.size), (hcm.block B HV.out.2.2.1).trans HV.out.2.1, Nat.lt_of_lt_of_le HV.out.2.2.1 hcm.size, (hcm.block P HV.out.2.2.2.2).trans HV.out.2.2.2.1, Nat.lt_of_lt_of_le HV.out.2.2.2.2 hcm.size⟩
     clear hcm HV
     by_cases hm : (n : Int) = M
     case neg =>
      have hF : FB = 7 := by
        have h := HSM.out
        rw [if_neg hm] at h
        rw [HFS.out, ← h]
        rfl
      have e1 : ((n : Int) != M) = true := by simp [hm]
      subst hF
      clear HFS HFB0 hm HSM
      go_wp2
      go_ret
      first | exact HU.out.1 | exact ⟨rfl, HU.out.1⟩
     case pos =>
     have HS2 : Hid ((if (ds j).all (fun x => inB x (leastF d sg) (mostF d sg)) then 0 else 11) = SR) := Lib.hid (by
       have h := HSM.out
       rw [if_pos hm] at h
       exact h)
     have e1 : ((n : Int) != M) = false := by simp [hm]
     clear hm HSM
     have p0 : U.cell? ⟨P, 0, none⟩ = some (.int .i64 (d : Int)) := rb_cell HU.out.2.2.2.1 0
     have p1 : U.cell? ⟨P, 1, none⟩ = some (.bool sg) := rb_cell HU.out.2.2.2.1 1
     obtain ⟨lo, hlo⟩ : ∃ v, leastF d sg = v := ⟨_, rfl⟩
     obtain ⟨hi_, hhi⟩ : ∃ v, mostF d sg = v := ⟨_, rfl⟩
     have CB : Hid (∀ u, Calls Try.prog 36 #[.int .i64 (d : Int), .bool sg] u fun e w' => e = .returned (.tuple #[.int .i64 lo, .int .i64 hi_]) ∧ w' = u) := Lib.hid fun u => by
       rw [← hlo, ← hhi]
       exact rbounds16 d sg u HDD.out.1
     rw [hlo, hhi] at HS2
     clear hlo hhi
     go_wp2_with fail
     refine (CB.out _).mono ?_
     rintro e u2 ⟨rfl, hu2⟩
     subst hu2
     clear p0 p1 CB
     go_upto_region 12 with fail
     obtain ⟨U, hU⟩ : ∃ U, U = u2 := ⟨_, rfl⟩
     subst hU
     go_loopw [10] (fun iv wr2 => ∃ i : Nat, i ≤ n ∧ iv = .int .i64 (i : Int) ∧ Hid (Below w.heap.size w wr2 ∧ wr2.heap[B]? = some (.cells #[.int .i64 x, .int .i64 y, .int .i64 ox, .int .i64 oy, .slice (some ⟨bk, o, none⟩) N cC] 24 (0, 0)) ∧ B < wr2.heap.size ∧ wr2.heap[P]? = some (.cells #[.int .i64 (d : Int), .bool sg, .int .i64 dx, .int .i64 dy, .slice A n cap] 39 (0, 0)) ∧ P < wr2.heap.size) ∧ Hid (∀ k z, k < i → (ds j)[k]? = some z → inB z lo hi_ = true)) (fun iv _ => n - (intOf iv).toNat)
     case atStart => exact ⟨0, by omega, rfl, HU, Lib.hid (fun k z hk => absurd hk (by omega))⟩
     case round =>
      obtain ⟨i, hi, rfl, HUi, HA⟩ := hrel
      clear HU
      obtain ⟨W, hW⟩ : ∃ W, W = wr := ⟨_, rfl⟩
      subst hW
      have p4 : W.cell? ⟨P, 4, none⟩ = some (.slice A n cap) := rb_cell HUi.out.2.2.2.1 4
      by_cases hin : i < n
      case neg =>
       obtain rfl : i = n := by omega
       have hin2 : ¬ (i : Int) < (i : Int) := by omega
       have hSR : SR = 0 := by
         rw [← HS2.out, if_pos]
         exact List.all_eq_true.2 (fun z hz => by
           obtain ⟨k, hk, hk2⟩ := List.mem_iff_getElem.1 hz
           exact HA.out k z (by rw [← HDJ.out.2.1]; exact hk) (by rw [List.getElem?_eq_getElem hk, hk2]))
       have HFN : Hid (FB = firstBad x y ox oy ds (cs.drop (j + 1)) (j + 1)) := Lib.hid (by rw [HFS.out, if_pos hSR])
       go_wp2
       go_roundw
       case rel => exact ⟨j + 1, by omega, by go_num, HFN.out, Lib.hid ⟨HUi.out.1, HUi.out.2.1, HUi.out.2.2.1⟩⟩
       case measure => simp [intOf] <;> omega
      case pos =>
      have hil : i < (ds j).length := by rw [HDJ.out.2.1]; exact hin
      obtain ⟨z, hz⟩ : ∃ z, (ds j)[i]? = some z := ⟨_, List.getElem?_eq_getElem hil⟩
      obtain ⟨ba, oa, rfl, hba, hcz⟩ := HDJ.out.1 i (.int .i64 z) (by rw [List.getElem?_map, hz]; rfl)
      have pz : W.cell? ⟨ba, oa + i, none⟩ = some (.int .i64 z) := (HUi.out.1.cell (p := ⟨ba, _, none⟩) hba).trans hcz
      have hin2 : (i : Int) < (n : Int) := by omega
      have hi0 : (0 : Int) ≤ (i : Int) := by omega
      have HZZ := Lib.hid hz
      have HBAD : Hid (inB z lo hi_ = false → FB = 11) := Lib.hid (fun h => by
        have h1 : SR = 11 := by
          rw [← HS2.out, if_neg]
          intro hc
          have := List.all_eq_true.1 hc z (List.mem_of_getElem? HZZ.out)
          rw [h] at this
          cases this
        rw [HFS.out, h1]
        rfl)
      clear hz hil hcz hba
      by_cases q1 : z < lo
      · have hF : FB = 11 := HBAD.out (by unfold inB; simp; omega)
        subst hF
        clear HBAD HFS HFB0
        go_wp2
        go_ret
        first | exact HUi.out.1 | exact ⟨rfl, HUi.out.1⟩
      by_cases q2 : hi_ < z
      · have hF : FB = 11 := HBAD.out (by unfold inB; simp; omega)
        subst hF
        clear HBAD HFS HFB0
        go_wp2
        go_ret
        first | exact HUi.out.1 | exact ⟨rfl, HUi.out.1⟩
      have hn6 : n ≤ 1000000 := HDJ.out.2.2
      have HOK2 : Hid (inB z lo hi_ = true) := Lib.hid (by unfold inB; simp; omega)
      go_wp2
      go_roundw
      case rel => exact ⟨i + 1, by omega, by go_num, HUi, Lib.hid (fun k z' hk hz' => by
        rcases (by omega : k < i ∨ k = i) with hk | rfl
        · exact HA.out k z' hk hz'
        · rw [HZZ.out] at hz'
          injection hz' with hz'
          rw [← hz']
          exact HOK2.out)⟩
      case measure => simp [intOf] <;> omega
end Go.Proofs.Ythcpmonahmogaaa
