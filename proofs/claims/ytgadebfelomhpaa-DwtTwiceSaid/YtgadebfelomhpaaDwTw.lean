/- DwtTwice, walked. -/
import Derived.Test.YtgadebfelomhpaaDwE
import Derived.Outline
set_option linter.unusedVariables false
set_option linter.unusedSimpArgs false
namespace Go.Proofs.Ytgadebfelomhpaa
open Go.RowKit

theorem twice_bands (g : Geo) (P : Nat → Nat → Int) : bandsL g P 2 = bandsL g.half (liftP g P) 1 ++ highs g P 0 := rfl
theorem twice_low (g : Geo) (P : Nat → Nat → Int) : (bandsL g P 1)[0]? = some (flat g.half.w g.half.h (liftP g P)) := rfl

set_option maxHeartbeats 4000000 in
set_option maxRecDepth 100000 in
set_option pp.deepTerms true in
set_option pp.maxSteps 10000000 in
theorem walk_dwtTwice (a0 a1 a2 a3 : Int) (b1 : Option Addr) (len1 cap1 : Nat) (z1 : List Int) (w : World) (w1 : IsRow .i64 w b1 len1 cap1 z1) :
    Calls Try.prog 10 #[.agg #[.int .i64 a0, .int .i64 a1, .int .i64 a2, .int .i64 a3], .slice b1 len1 cap1] w fun e w' => e = .returned (.bool true) ∧ Below w.heap.size w w' := by
  have H1 := Lib.hid (rowI_is w1)
  clear w1
  go_enter Try.func10, Try.ntmps10
  go_wp2_with fail
  have HB0 : Hid (Below w.heap.size w (w.alloc (Obj.cells #[.int .i64 a0, .int .i64 a1, .int .i64 a2, .int .i64 a3] 23))) := Lib.hid ((Below.refl _ w).alloc (Nat.le_refl _) _)
  have HX0 := Lib.hid (RA.new w a0 a1 a2 a3)
  refine (known10 _).mono ?_
  rintro e wk ⟨rfl, bk⟩
  have HX1 := Lib.hid (HX0.out.keep bk HX0.out.lt)
  have HB1 := Lib.hid (HB0.out.trans (bk.mono HB0.out.size))
  obtain ⟨f0, f1, f2, f3, _⟩ := HX1.out.cells
  clear HX0 HB0 bk
  go_wp2_with fail
  refine (plane_any a0 a1 a2 a3 wk (H1.out.keep HB1.out (Nat.le_refl _))).mono ?_
  rintro e wp ⟨P, Ap, cp, rfl, hrow, hbd, hA, bp⟩
  have HX2 := Lib.hid (HX1.out.keep bp HX1.out.lt)
  have HB2 := Lib.hid (HB1.out.trans (bp.mono HB1.out.size))
  have hg := geoR_bd a0 a1 a2 a3
  generalize geoR a0 a1 a2 a3 = g at *
  obtain ⟨r0, r1, r2, r3, hr⟩ := rect_open g
  rw [hr]
  have HR := Lib.hid hr
  have hwh : g.w * g.h ≤ 144 := Nat.mul_le_mul hg.2.2.1 hg.2.2.2
  have HRW := Lib.hid hrow
  have HAW : Hid (∀ b o, Ap = some ⟨b, o, none⟩ → b ≠ w.heap.size) := Lib.hid (fun b o e => by have := hA b o e; have := HX1.out.lt; omega)
  have HBD := Lib.hid hbd
  clear f0 f1 f2 f3 HX1 HB1 bp hr hrow hbd hA H1
  obtain ⟨f0, f1, f2, f3, f4, f5, f6, f7⟩ := HX2.out.cells
  obtain ⟨N, hN⟩ : ∃ N, g.w * g.h = N := ⟨_, rfl⟩
  have hd2 := fun n W A c hn h => dsplit_any g P n A c W (by omega) (by omega) (by omega) hn HBD.out h
  rw [hN] at HRW hwh hd2 ⊢
  rw [HR.out] at hd2
  have HD := Lib.hid hd2
  have HN := Lib.hid hN
  clear hN hd2
  have HX3 : Hid (RA (setRect wp w.heap.size r0 r1 r2 r3) w.heap.size r0 r1 r2 r3) := Lib.hid (RA.setRect HX2.out)
  have HB3 : Hid (Below w.heap.size w (setRect wp w.heap.size r0 r1 r2 r3)) := Lib.hid ((((HB2.out.setCell (p := ⟨w.heap.size, 0, none⟩) (Nat.le_refl _) _).setCell (p := ⟨w.heap.size, 1, none⟩) (Nat.le_refl _) _).setCell (p := ⟨w.heap.size, 2, none⟩) (Nat.le_refl _) _).setCell (p := ⟨w.heap.size, 3, none⟩) (Nat.le_refl _) _)
  have HRW3 : Hid (RowI (setRect wp w.heap.size r0 r1 r2 r3) Ap N cp (flat g.w g.h P)) := Lib.hid (row_only HRW.out (setRect_only wp w.heap.size r0 r1 r2 r3) HAW.out)
  go_wp2
  obtain ⟨Z, hZ⟩ : ∃ Z, ((((wp.setCell ⟨w.heap.size, 0, none⟩ (.int .i64 r0)).setCell ⟨w.heap.size, 1, none⟩ (.int .i64 r1)).setCell ⟨w.heap.size, 2, none⟩ (.int .i64 r2)).setCell ⟨w.heap.size, 3, none⟩ (.int .i64 r3)) = Z := ⟨_, rfl⟩
  unfold setRect at HX3 HB3 HRW3
  rw [hZ] at HX3 HB3 HRW3 ⊢
  obtain ⟨Y, hY⟩ : ∃ Y, Z.drew = Y := ⟨_, rfl⟩
  have HXY : Hid (RA Y w.heap.size r0 r1 r2 r3) := Lib.hid (by rw [← hY]; exact HX3.out)
  have HRY : Hid (RowI Y Ap N cp (flat g.w g.h P)) := Lib.hid (by rw [← hY]; exact HRW3.out.drew (Drew.mk _ 1))
  have HBY : Hid (Below w.heap.size w Y) := Lib.hid (by rw [← hY]; exact below_drewN HB3.out 1)
  have HYE := Lib.hid hY
  clear hZ hY HX2 HB2 HRW HX3 HB3 HRW3 f0 f1 f2 f3 f4 f5 f6 f7
  refine (wpIn_wide (n := 9)).1 (regionIn_inv (w := Z) (Inv := fun L a' w' => ∃ (A1 : Option Addr) (c1 : Nat) (A2 : Option Addr) (c2 : Nat), a' = { tmps := #[.agg #[.int .i64 a0, .int .i64 a1, .int .i64 a2, .int .i64 a3], .slice b1 len1 cap1, .pointer (some ⟨w.heap.size, 0, none⟩), undef, .bool false, .slice Ap N cp, bif L 6 then .slice A1 7 c1 else undef, bif L 7 then .slice A2 4 c2 else undef, undef, undef, .bool true, .bool false, .tuple #[.agg #[.int .i64 r0, .int .i64 r1, .int .i64 r2, .int .i64 r3], .slice Ap N cp], .agg #[.int .i64 a0, .int .i64 a1, .int .i64 a2, .int .i64 a3], .slice b1 len1 cap1, .tuple #[.agg #[.int .i64 r0, .int .i64 r1, .int .i64 r2, .int .i64 r3], .slice Ap N cp], .agg #[.int .i64 r0, .int .i64 r1, .int .i64 r2, .int .i64 r3], .slice Ap N cp, bif L 0 then .agg #[.int .i64 r0, .int .i64 r1, .int .i64 r2, .int .i64 r3] else undef, bif L 1 then .slice Ap N cp else undef, bif L 2 then .slice A1 7 c1 else undef, bif L 3 then .agg #[.int .i64 r0, .int .i64 r1, .int .i64 r2, .int .i64 r3] else undef, bif L 4 then .slice Ap N cp else undef, bif L 5 then .slice A2 4 c2 else undef, undef, undef, undef, undef, undef, undef, undef, undef, undef, undef, undef, undef, undef, undef, undef, undef, undef, undef, undef, undef, undef, undef, undef, undef, undef, undef, undef, undef, undef, undef, undef, undef, undef, undef, undef, undef, undef, undef, undef, undef, undef], defers := [] } ∧ (Below Y.heap.size Y w') ∧ (bif L 5 then (RowsI w' A1 7 c1 (bandsL g P 2) ∧ RowsI w' A2 4 c2 (bandsL g P 1)) else (bif L 2 then (RowsI w' A1 7 c1 (bandsL g P 2)) else True))) (by kernel_rfl) (by kernel_rfl) ?start ?step ?fin)
  case start => exact ⟨none, 0, none, 0, rfl, (by rw [HYE.out]; exact Below.refl _ _ : Below Y.heap.size Y Z.drew), trivial⟩
  case step =>
    intro i hi L a' w' hI hs hu
    obtain ⟨A1, c1, A2, c2, rfl, hcm, hph⟩ := hI
    have hL := hu.1
    have hi : i < 8 := hi
    obtain rfl | rfl | rfl | rfl | rfl | rfl | rfl | rfl := (by omega : i = 0 ∨ i = 1 ∨ i = 2 ∨ i = 3 ∨ i = 4 ∨ i = 5 ∨ i = 6 ∨ i = 7)
    · skip
      have n2 : L 2 = false := not_yet hL fun h => shut_at hs 2 0 (by kernel_rfl) (h)
      have n5 : L 5 = false := not_yet hL fun h => shut_at hs 2 0 (by kernel_rfl) (shut_at hs 5 2 (by kernel_rfl) (h))
      have n6 : L 6 = false := not_yet hL fun h => shut_at hs 6 0 (by kernel_rfl) (h)
      have n7 : L 7 = false := not_yet hL fun h => shut_at hs 7 0 (by kernel_rfl) (h)
      refine opIn_run (v := .agg #[.int .i64 r0, .int .i64 r1, .int .i64 r2, .int .i64 r3]) (w' := w') rfl rfl (fun c h => by cases h) (fun _ => trivial) ?_ ⟨A1, c1, A2, c2, by simp [Act.put, upd, n2, n5, n6, n7, hL], hcm, by simpa [upd] using hph⟩
      simp only [n2, n5, n6, n7, hL, cond_true, cond_false]
      obtain ⟨k0, k1, k2, k3, _⟩ := (HXY.out.keep hcm HXY.out.lt).cells; go_simp
    · skip
      have n2 : L 2 = false := not_yet hL fun h => shut_at hs 2 1 (by kernel_rfl) (h)
      have n5 : L 5 = false := not_yet hL fun h => shut_at hs 2 1 (by kernel_rfl) (shut_at hs 5 2 (by kernel_rfl) (h))
      have n6 : L 6 = false := not_yet hL fun h => shut_at hs 6 1 (by kernel_rfl) (h)
      have n7 : L 7 = false := not_yet hL fun h => shut_at hs 7 1 (by kernel_rfl) (h)
      refine opIn_run (v := .slice Ap N cp) (w' := w') rfl rfl (fun c h => by cases h) (fun _ => trivial) ?_ ⟨A1, c1, A2, c2, by simp [Act.put, upd, n2, n5, n6, n7, hL], hcm, by simpa [upd] using hph⟩
      simp only [n2, n5, n6, n7, hL, cond_true, cond_false]
      go_simp
    · skip
      have y0 : L 0 = true := up_at hu 0 (by kernel_rfl)
      have y1 : L 1 = true := up_at hu 1 (by kernel_rfl)
      have n5 : L 5 = false := not_yet hL fun h => shut_at hs 5 2 (by kernel_rfl) (h)
      have n6 : L 6 = false := not_yet hL fun h => shut_at hs 6 2 (by kernel_rfl) (h)
      have n7 : L 7 = false := not_yet hL fun h => shut_at hs 7 2 (by kernel_rfl) (h)
      simp only [y0, y1, n5, n6, n7, hL, cond_true, cond_false] at hph
      refine opIn_call (f := 15) (args := #[.agg #[.int .i64 r0, .int .i64 r1, .int .i64 r2, .int .i64 r3], .int .i64 2, .slice Ap N cp]) (w' := w') rfl rfl (fun c h => by cases h) (fun _ => trivial) rfl ?_ ((callsIn_wide.2 (HD.out 2 w' Ap cp (by omega) (HRY.out.keep hcm (Nat.le_refl _)))).mono ?_)
      · simp only [y0, y1, n5, n6, n7, hL, cond_true, cond_false]
        go_simp
      · rintro e w2 ⟨A', c', rfl, hr, hb⟩
        exact ⟨_, rfl, A', c', A2, c2, by simp [Act.put, upd, y0, y1, n5, n6, n7, hL], hcm.trans (hb.mono hcm.size), by simp only [upd, y0, y1, n5, n6, n7, hL]; exact hr⟩
    · skip
      have n5 : L 5 = false := not_yet hL fun h => shut_at hs 5 3 (by kernel_rfl) (h)
      have n6 : L 6 = false := not_yet hL fun h => shut_at hs 5 3 (by kernel_rfl) (shut_at hs 6 5 (by kernel_rfl) (h))
      have n7 : L 7 = false := not_yet hL fun h => shut_at hs 7 3 (by kernel_rfl) (h)
      refine opIn_run (v := .agg #[.int .i64 r0, .int .i64 r1, .int .i64 r2, .int .i64 r3]) (w' := w') rfl rfl (fun c h => by cases h) (fun _ => trivial) ?_ ⟨A1, c1, A2, c2, by simp [Act.put, upd, n5, n6, n7, hL], hcm, by simpa [upd] using hph⟩
      simp only [n5, n6, n7, hL, cond_true, cond_false]
      obtain ⟨k0, k1, k2, k3, _⟩ := (HXY.out.keep hcm HXY.out.lt).cells; go_simp
    · skip
      have n5 : L 5 = false := not_yet hL fun h => shut_at hs 5 4 (by kernel_rfl) (h)
      have n6 : L 6 = false := not_yet hL fun h => shut_at hs 5 4 (by kernel_rfl) (shut_at hs 6 5 (by kernel_rfl) (h))
      have n7 : L 7 = false := not_yet hL fun h => shut_at hs 7 4 (by kernel_rfl) (h)
      refine opIn_run (v := .slice Ap N cp) (w' := w') rfl rfl (fun c h => by cases h) (fun _ => trivial) ?_ ⟨A1, c1, A2, c2, by simp [Act.put, upd, n5, n6, n7, hL], hcm, by simpa [upd] using hph⟩
      simp only [n5, n6, n7, hL, cond_true, cond_false]
      go_simp
    · skip
      have y0 : L 0 = true := shut_at hs 2 0 (by kernel_rfl) (up_at hu 2 (by kernel_rfl))
      have y1 : L 1 = true := shut_at hs 2 1 (by kernel_rfl) (up_at hu 2 (by kernel_rfl))
      have y2 : L 2 = true := up_at hu 2 (by kernel_rfl)
      have y3 : L 3 = true := up_at hu 3 (by kernel_rfl)
      have y4 : L 4 = true := up_at hu 4 (by kernel_rfl)
      have n6 : L 6 = false := not_yet hL fun h => shut_at hs 6 5 (by kernel_rfl) (h)
      have n7 : L 7 = false := not_yet hL fun h => shut_at hs 7 5 (by kernel_rfl) (h)
      simp only [y0, y1, y2, y3, y4, n6, n7, hL, cond_true, cond_false] at hph
      refine opIn_call (f := 15) (args := #[.agg #[.int .i64 r0, .int .i64 r1, .int .i64 r2, .int .i64 r3], .int .i64 1, .slice Ap N cp]) (w' := w') rfl rfl (fun c h => by cases h) (fun _ => trivial) rfl ?_ ((callsIn_wide.2 (HD.out 1 w' Ap cp (by omega) (HRY.out.keep hcm (Nat.le_refl _)))).mono ?_)
      · simp only [y0, y1, y2, y3, y4, n6, n7, hL, cond_true, cond_false]
        go_simp
      · rintro e w2 ⟨A', c', rfl, hr, hb⟩
        exact ⟨_, rfl, A1, c1, A', c', by simp [Act.put, upd, y0, y1, y2, y3, y4, n6, n7, hL], hcm.trans (hb.mono hcm.size), by simp only [upd, y0, y1, y2, y3, y4, n6, n7, hL]; exact ⟨hph.keep hb (Nat.le_refl _), hr⟩⟩
    · skip
      have y0 : L 0 = true := up_at hu 0 (by kernel_rfl)
      have y1 : L 1 = true := up_at hu 1 (by kernel_rfl)
      have y2 : L 2 = true := up_at hu 2 (by kernel_rfl)
      have y3 : L 3 = true := shut_at hs 5 3 (by kernel_rfl) (up_at hu 5 (by kernel_rfl))
      have y4 : L 4 = true := shut_at hs 5 4 (by kernel_rfl) (up_at hu 5 (by kernel_rfl))
      have y5 : L 5 = true := up_at hu 5 (by kernel_rfl)
      have n7 : L 7 = false := not_yet hL fun h => shut_at hs 7 6 (by kernel_rfl) (h)
      refine opIn_run (v := .slice A1 7 c1) (w' := w') rfl rfl (fun c h => by cases h) (fun _ => trivial) ?_ ⟨A1, c1, A2, c2, by simp [Act.put, upd, y0, y1, y2, y3, y4, y5, n7, hL], hcm, by simpa [upd] using hph⟩
      simp only [y0, y1, y2, y3, y4, y5, n7, hL, cond_true, cond_false]
      go_simp
    · skip
      have y0 : L 0 = true := up_at hu 0 (by kernel_rfl)
      have y1 : L 1 = true := up_at hu 1 (by kernel_rfl)
      have y2 : L 2 = true := up_at hu 2 (by kernel_rfl)
      have y3 : L 3 = true := up_at hu 3 (by kernel_rfl)
      have y4 : L 4 = true := up_at hu 4 (by kernel_rfl)
      have y5 : L 5 = true := up_at hu 5 (by kernel_rfl)
      have y6 : L 6 = true := up_at hu 6 (by kernel_rfl)
      refine opIn_run (v := .slice A2 4 c2) (w' := w') rfl rfl (fun c h => by cases h) (fun _ => trivial) ?_ ⟨A1, c1, A2, c2, by simp [Act.put, upd, y0, y1, y2, y3, y4, y5, y6, hL], hcm, by simpa [upd] using hph⟩
      simp only [y0, y1, y2, y3, y4, y5, y6, hL, cond_true, cond_false]
      go_simp
  case fin =>
    intro L a' w' hall hI
    obtain ⟨A1, c1, A2, c2, rfl, hcm, hph⟩ := hI
    have l0 := hall 0 (by decide)
    have l1 := hall 1 (by decide)
    have l2 := hall 2 (by decide)
    have l3 := hall 3 (by decide)
    have l4 := hall 4 (by decide)
    have l5 := hall 5 (by decide)
    have l6 := hall 6 (by decide)
    have l7 := hall 7 (by decide)
    simp only [l0, l1, l2, l3, l4, l5, l6, l7, cond_true] at hph ⊢
    clear l0 l1 l2 l3 l4 l5 l6 l7 hall
    obtain ⟨hr1, hr2⟩ := hph
    obtain ⟨w8, hw8⟩ : ∃ w8 : World, w8 = w' := ⟨_, rfl⟩
    subst hw8
    have HA1 := Lib.hid hr1
    have HA2 := Lib.hid hr2
    have HX8 := Lib.hid (HXY.out.keep hcm HXY.out.lt)
    have HB8 := Lib.hid (HBY.out.trans (hcm.mono HBY.out.size))
    obtain ⟨h0, h1, h2, h3, hh⟩ := rect_open g.half
    obtain ⟨e0, e1, e2, e3⟩ := rect_ints HR.out
    obtain ⟨e4, e5, e6, e7⟩ := rect_ints hh
    have HH := Lib.hid hh
    have q0 : (r0 + 1).tdiv 2 = h0 := by rw [e0, e4, Int.tdiv_eq_ediv_of_nonneg (by omega)]; simp only [Geo.half]; omega
    have q1 : (r1 + 1).tdiv 2 = h1 := by rw [e1, e5, Int.tdiv_eq_ediv_of_nonneg (by omega)]; simp only [Geo.half]; omega
    have q2 : (r2 + 1).tdiv 2 = h2 := by rw [e2, e6, Int.tdiv_eq_ediv_of_nonneg (by omega)]; simp only [Geo.half]; unfold lowN; omega
    have q3 : (r3 + 1).tdiv 2 = h3 := by rw [e3, e7, Int.tdiv_eq_ediv_of_nonneg (by omega)]; simp only [Geo.half]; unfold lowN; omega
    have p0 : 0 ≤ r0 ∧ r0 ≤ 1000 := by rw [e0]; omega
    have p1 : 0 ≤ r1 ∧ r1 ≤ 1000 := by rw [e1]; omega
    have p2 : 0 ≤ r2 ∧ r2 ≤ 1000 := by rw [e2]; omega
    have p3 : 0 ≤ r3 ∧ r3 ≤ 1000 := by rw [e3]; omega
    have u0 : (r0 + 1) / 2 = h0 := by rw [← q0, Int.tdiv_eq_ediv_of_nonneg (by omega)]
    have u1 : (r1 + 1) / 2 = h1 := by rw [← q1, Int.tdiv_eq_ediv_of_nonneg (by omega)]
    have u2 : (r2 + 1) / 2 = h2 := by rw [← q2, Int.tdiv_eq_ediv_of_nonneg (by omega)]
    have u3 : (r3 + 1) / 2 = h3 := by rw [← q3, Int.tdiv_eq_ediv_of_nonneg (by omega)]
    obtain ⟨f0, f1, f2, f3, _⟩ := HX8.out.cells
    clear hr1 hr2 hcm hh e0 e1 e2 e3 e4 e5 e6 e7 HXY HRY HBY
    have HX9 := Lib.hid (RA.new w8 h0 h1 h2 h3)
    have HB9 : Hid (Below w8.heap.size w8 (w8.alloc (Obj.cells #[.int .i64 h0, .int .i64 h1, .int .i64 h2, .int .i64 h3] 23))) := Lib.hid ((Below.refl _ w8).alloc (Nat.le_refl _) _)
    have t1 : ((7 : Int) != 7) = false := by decide
    have t2 : ((4 : Int) != 4) = false := by decide
    go_wp2
    clear f0 f1 f2 f3 q0 q1 q2 q3 u0 u1 u2 u3 HX8 p0 p1 p2 p3 t1 t2
    have h9 := HA2.out.keep HB9.out (Nat.le_refl _)
    have h8 := HA1.out.keep HB9.out (Nat.le_refl _)
    obtain ⟨k0, k1, k2, k3, _⟩ := HX9.out.cells
    obtain ⟨ba, oa, A3, c3, hA2, hba, m0, hr3⟩ := h9.at (twice_low g P)
    obtain ⟨bb, ob, hA1⟩ : ∃ bb ob, A1 = some ⟨bb, ob, none⟩ := by
      obtain ⟨bb, ob, _, _, e, _⟩ := h8.at (i := 0) (l := flat (itG g 2).w (itG g 2).h (itP g P 2)) rfl
      exact ⟨bb, ob, e⟩
    subst hA2 hA1
    rw [flat_len] at m0 hr3
    change (w8.alloc _).cell? ⟨ba, oa, none⟩ = _ at m0
    have HA1' := Lib.hid h8
    have HA2' := Lib.hid h9
    have HR3 := Lib.hid hr3
    have HB9' := Lib.hid (HB8.out.trans (HB9.out.mono HB8.out.size))
    have hm2 : g.half.w * g.half.h ≤ 144 := Nat.mul_le_mul (Nat.le_trans (half_w g) hg.2.2.1) (Nat.le_trans (half_h g) hg.2.2.2)
    have hK := lift_bd (by decide) HBD.out
    have hD2 := fun W A c h => dsplit_K g.half (liftP g P) 2400003 1 A c W (by have := half_w g; have := half_h g; omega) (by omega) (by simp only [Geo.half]; omega) (by decide) (by decide) (fun k hk => by
      obtain rfl : k = 0 := by omega
      decide) (hK.less (half_w g) (half_h g)) h
    rw [HH.out] at hD2
    have HD2 := Lib.hid hD2
    clear h8 h9 HA1 HA2 HB8 HB9 hr3 hD2 hK hba
    generalize (w8.alloc (Obj.cells #[.int .i64 h0, .int .i64 h1, .int .i64 h2, .int .i64 h3] 23)) = W9 at *
    refine wp_region_still_tail 4 (by kernel_rfl) (by kernel_rfl) ?_
    simp only [List.take_succ_cons, List.take_zero, List.drop_succ_cons, List.drop_zero]
    repeat still_step
    refine wpStill_nil ?_
    change wpList _ _ _ _ _ W9.drew
    have HR3' := Lib.hid (HR3.out.drew (Drew.mk _ 1))
    have HA1d := Lib.hid (HA1'.out.drew (Drew.mk _ 1))
    have HA2d := Lib.hid (HA2'.out.drew (Drew.mk _ 1))
    have HBd := Lib.hid (below_drewN HB9'.out 1)
    clear k0 k1 k2 k3 m0 HX9 HR3 HA1' HA2' HB9'
    go_wp2_with fail
    refine (HD2.out _ _ _ HR3'.out).mono ?_
    rintro e w10 ⟨A4, c4, rfl, hr4, b10⟩
    have hc1 := HA1d.out.2.1
    have hc2 := HA2d.out.2.1
    have HA1e := HA1d.out.keep b10 (Nat.le_refl _)
    have HA2e := HA2d.out.keep b10 (Nat.le_refl _)
    have HB10 := Lib.hid (HBd.out.trans (b10.mono HBd.out.size))
    have x1 : RowsI w10 (some ⟨bb, ob, none⟩) 4 c1 (bandsL g.half (liftP g P) 1) := HA1e.take (k := 4) (by decide)
    have x2 : RowsI w10 (some ⟨bb, ob + 4, none⟩) 3 (c1 - 4) (highs g P 0) := HA1e.drop (k := 4) (by decide)
    have x3 : RowsI w10 (some ⟨ba, oa + 1, none⟩) 3 (c2 - 1) (highs g P 0) := HA2e.drop (k := 1) (by decide)
    have R1 := Lib.hid (fun m => (x1.drew (Drew.mk _ m) : RowsI (w10.drewN m) _ _ _ _))
    have R2 := Lib.hid (fun m => (x2.drew (Drew.mk _ m) : RowsI (w10.drewN m) _ _ _ _))
    have R3 := Lib.hid (fun m => (x3.drew (Drew.mk _ m) : RowsI (w10.drewN m) _ _ _ _))
    have R4 := Lib.hid (fun m => (hr4.drew (Drew.mk _ m) : RowsI (w10.drewN m) _ _ _ _))
    have n1 : ¬ c1 = 0 := by omega
    have n2 : ¬ c1 = 4 := by omega
    have n3 : ¬ c2 = 1 := by omega
    have n4 : (4 : Int) ≤ (c1 : Int) := by omega
    clear hr4 HA1e HA2e x1 x2 x3 hc1 hc2 b10 HA1d HA2d HBd HR3' HD2
    go_wp2
    go_quiet ((go_at_call 14; exact Calls.quiet_of (rows_yes (by first | (with_reducible exact R1.out _) | (with_reducible exact R2.out _)) (by first | (with_reducible exact R4.out _) | (with_reducible exact R3.out _)))))
    go_wp2
    go_ret
    exact ⟨rfl, below_drewN HB10.out _⟩
end Go.Proofs.Ytgadebfelomhpaa
