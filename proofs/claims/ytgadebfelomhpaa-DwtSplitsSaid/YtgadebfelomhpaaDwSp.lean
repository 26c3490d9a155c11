/- DwtSplits, walked. -/
import Derived.Test.YtgadebfelomhpaaDwG
import Derived.Test.YtgadebfelomhpaaRs
import Derived.Outline
set_option linter.unusedVariables false
set_option linter.unusedSimpArgs false
namespace Go.Proofs.Ytgadebfelomhpaa
open Go.RowKit
attribute [local go_sem ↓] appSem_eq in
set_option maxHeartbeats 8000000 in
set_option maxRecDepth 100000 in
set_option pp.deepTerms true in
set_option pp.maxSteps 10000000 in
theorem walk_dwtSplits (a0 a1 a2 a3 lv : Int) (b1 : Option Addr) (len1 cap1 : Nat) (z1 : List Int) (w : World) (w1 : IsRow .i64 w b1 len1 cap1 z1) :
    Calls Try.prog 3 #[.agg #[.int .i64 a0, .int .i64 a1, .int .i64 a2, .int .i64 a3], .int .i64 lv, .slice b1 len1 cap1] w fun e w' => e = .returned (.bool true) ∧ Below w.heap.size w w' := by
  have H1 := Lib.hid (rowI_is w1)
  clear w1
  go_enter Try.func3, Try.ntmps3
  go_wp2_with fail
  have HB0 : Hid (Below w.heap.size w (w.alloc (Obj.cells #[.int .i64 a0, .int .i64 a1, .int .i64 a2, .int .i64 a3] 23))) := Lib.hid ((Below.refl _ w).alloc (Nat.le_refl _) _)
  have HX0 := Lib.hid (RA.new w a0 a1 a2 a3)
  refine (known10 _).mono ?_
  rintro e wk ⟨rfl, bk⟩
  have HX1 := Lib.hid (HX0.out.keep bk HX0.out.lt)
  have HB1 := Lib.hid (HB0.out.trans (bk.mono HB0.out.size))
  obtain ⟨f0, f1, f2, f3, _⟩ := HX1.out.cells
  clear HX0 HB0 bk
  go_wp2_with fail
  refine (plane_any a0 a1 a2 a3 wk (H1.out.keep HB1.out (Nat.le_refl _))).mono ?_
  rintro e wp ⟨P, Ap, cp, rfl, hrow, hbd, hA, bp⟩
  have HX2 := Lib.hid (HX1.out.keep bp HX1.out.lt)
  have HB2 := Lib.hid (HB1.out.trans (bp.mono HB1.out.size))
  have hg := geoR_bd a0 a1 a2 a3
  generalize geoR a0 a1 a2 a3 = g at *
  obtain ⟨r0, r1, r2, r3, hr⟩ := rect_open g
  rw [hr]
  have HR := Lib.hid hr
  have hwh : g.w * g.h ≤ 144 := Nat.mul_le_mul hg.2.2.1 hg.2.2.2
  have HRW := Lib.hid hrow
  have HAW : Hid (∀ b o, Ap = some ⟨b, o, none⟩ → b ≠ w.heap.size) := Lib.hid (fun b o e => by have := hA b o e; have := HX1.out.lt; omega)
  have HBD := Lib.hid hbd
  clear f0 f1 f2 f3 HX1 HB1 bp hr hrow hbd hA H1
  obtain ⟨f0, f1, f2, f3, f4, f5, f6, f7⟩ := HX2.out.cells
  obtain ⟨N, hN⟩ : ∃ N, g.w * g.h = N := ⟨_, rfl⟩
  have hd2 := fun n W A c hn h => dsplit_any g P n A c W (by omega) (by omega) (by omega) hn HBD.out h
  rw [hN] at HRW hwh hd2 ⊢
  rw [HR.out] at hd2
  have HD := Lib.hid hd2
  have hf2 := fun n W A c hn h => rsplit_any g P n A c W (by omega) (by omega) (by omega) hn HBD.out h
  rw [hN] at hf2
  rw [HR.out] at hf2
  have HF := Lib.hid hf2
  have HN := Lib.hid hN
  clear hN hd2 hf2
  have HX3 : Hid (RA (setRect wp w.heap.size r0 r1 r2 r3) w.heap.size r0 r1 r2 r3) := Lib.hid (RA.setRect HX2.out)
  have HB3 : Hid (Below w.heap.size w (setRect wp w.heap.size r0 r1 r2 r3)) := Lib.hid ((((HB2.out.setCell (p := ⟨w.heap.size, 0, none⟩) (Nat.le_refl _) _).setCell (p := ⟨w.heap.size, 1, none⟩) (Nat.le_refl _) _).setCell (p := ⟨w.heap.size, 2, none⟩) (Nat.le_refl _) _).setCell (p := ⟨w.heap.size, 3, none⟩) (Nat.le_refl _) _)
  have HRW3 : Hid (RowI (setRect wp w.heap.size r0 r1 r2 r3) Ap N cp (flat g.w g.h P)) := Lib.hid (row_only HRW.out (setRect_only wp w.heap.size r0 r1 r2 r3) HAW.out)
  unfold setRect at HX3 HB3 HRW3
  clear HX2 HB2 HRW
  go_wp2_with fail
  obtain ⟨Z, hZ⟩ : ∃ Z, ((((wp.setCell ⟨w.heap.size, 0, none⟩ (.int .i64 r0)).setCell ⟨w.heap.size, 1, none⟩ (.int .i64 r1)).setCell ⟨w.heap.size, 2, none⟩ (.int .i64 r2)).setCell ⟨w.heap.size, 3, none⟩ (.int .i64 r3)) = Z := ⟨_, rfl⟩
  rw [hZ] at HX3 HB3 HRW3 ⊢
  clear hZ f0 f1 f2 f3 f4 f5 f6 f7
  refine (within10 lv 6 Z (by omega) (by omega)).mono ?_
  rintro e w' ⟨rfl, rfl⟩
  obtain ⟨n, hn⟩ : ∃ n : Nat, lv % 6 = (n : Int) := ⟨(lv % 6).toNat, by omega⟩
  have hn5 : n ≤ 5 := by omega
  rw [hn]
  clear hn
  have HA1 : Hid (Below Z.heap.size Z (Z.alloc (Obj.cells #[] 3))) := Lib.hid ((Below.refl _ Z).alloc (Nat.le_refl _) _)
  obtain ⟨v1, w1, hrun, hown, hg1, _⟩ := app_row (w := Z.alloc (Obj.cells #[] 3)) (base := Z.heap.size) (v := .slice (some ⟨Z.heap.size, 0, none⟩) 0 0) (n := 0) (X := []) (World.ownsRow_made Z #[] 0 (Nat.le_refl _) (by unfold maxLen; omega) rfl) (HRW3.out.keep HA1.out (Nat.le_refl _)) (by simp) (by omega)
  rw [Nat.zero_add, List.nil_append] at hown
  obtain ⟨Al, cl, rfl, _, _, _⟩ := own_any hown
  have hb1 : Below Z.heap.size Z w1 := HA1.out.grown hg1 (by simp) (by simp [Value.ownBlock])
  have HWS := Lib.hid (RowO.row (lo := Z.heap.size) hown)
  have HV4 := Lib.hid (HRW3.out.keep hb1 (Nat.le_refl _))
  have HX4 := Lib.hid (HX3.out.keep hb1 HX3.out.lt)
  have HB4 := Lib.hid (HB3.out.trans (hb1.mono HB3.out.size))
  clear hown hg1 hb1 HA1 HX3 HB3 HRW3
  go_wp2_with fail
  clear hrun
  obtain ⟨Y, hYe⟩ : ∃ Y, w1.drew = Y := ⟨_, rfl⟩
  have HXY : Hid (RA Y w.heap.size r0 r1 r2 r3) := Lib.hid (by rw [← hYe]; exact HX4.out)
  have HVY : Hid (RowI Y Ap N cp (flat g.w g.h P)) := Lib.hid (by rw [← hYe]; exact HV4.out.drew (Drew.mk _ 1))
  have HWY : Hid (RowI Y Al N cl (flat g.w g.h P)) := Lib.hid (by rw [← hYe]; exact HWS.out.drew (Drew.mk _ 1))
  have HBY : Hid (Below w.heap.size w Y) := Lib.hid (by rw [← hYe]; exact below_drewN HB4.out 1)
  have HYE := Lib.hid hYe
  clear hYe HX4 HV4 HWS HB4
  refine (wpIn_wide (n := 9)).1 (regionIn_inv (w := w1) (Inv := fun L a' w' => ∃ (A7 : Option Addr) (c7 : Nat) (A8 : Option Addr) (c8 : Nat), a' = { tmps := #[.agg #[.int .i64 a0, .int .i64 a1, .int .i64 a2, .int .i64 a3], .int .i64 (n : Int), .slice b1 len1 cap1, .pointer (some ⟨w.heap.size, 0, none⟩), undef, undef, bif L 14 then .bool true else .bool false, .slice Ap N cp, .slice Al N cl, .bool true, .bool false, .tuple #[.agg #[.int .i64 r0, .int .i64 r1, .int .i64 r2, .int .i64 r3], .slice Ap N cp], .agg #[.int .i64 a0, .int .i64 a1, .int .i64 a2, .int .i64 a3], .slice b1 len1 cap1, .tuple #[.agg #[.int .i64 r0, .int .i64 r1, .int .i64 r2, .int .i64 r3], .slice Ap N cp], .agg #[.int .i64 r0, .int .i64 r1, .int .i64 r2, .int .i64 r3], .slice Ap N cp, .int .i64 lv, .int .i64 (n : Int), .slice (some ⟨Z.heap.size, 0, none⟩) 0 0, .slice Ap N cp, .slice Al N cl, bif L 0 then .agg #[.int .i64 r0, .int .i64 r1, .int .i64 r2, .int .i64 r3] else undef, bif L 1 then .int .i64 (n : Int) else undef, bif L 2 then .slice Ap N cp else undef, bif L 3 then .slice A7 (3 * n + 1) c7 else undef, bif L 4 then .agg #[.int .i64 r0, .int .i64 r1, .int .i64 r2, .int .i64 r3] else undef, bif L 5 then .int .i64 (n : Int) else undef, bif L 6 then .slice Al N cl else undef, bif L 7 then .slice A8 (3 * n + 1) c8 else undef, bif L 8 then .bool true else undef, bif L 9 then .bool true else undef, bif L 10 then .slice Ap N cp else undef, bif L 11 then .slice Al N cl else undef, bif L 12 then .bool true else undef, bif L 13 then .bool true else undef], defers := [] } ∧ (Below Y.heap.size Y w') ∧ (bif L 8 then (Below Y.heap.size Y w') else (bif L 7 then (RowsI w' A7 (3 * n + 1) c7 (bandsL g P n) ∧ RowsI w' A8 (3 * n + 1) c8 (bandsL g P n)) else (bif L 3 then (RowsI w' A7 (3 * n + 1) c7 (bandsL g P n)) else True)))) (by kernel_rfl) (by kernel_rfl) ?start ?step ?fin)
  case start => exact ⟨none, 0, none, 0, rfl, (by rw [HYE.out]; exact Below.refl _ _ : Below Y.heap.size Y w1.drew), trivial⟩
  case step =>
    intro i hi L a' w' hI hs hu
    obtain ⟨A7, c7, A8, c8, rfl, hcm, hph⟩ := hI
    have hL := hu.1
    have hi : i < 15 := hi
    obtain rfl | rfl | rfl | rfl | rfl | rfl | rfl | rfl | rfl | rfl | rfl | rfl | rfl | rfl | rfl := (by omega : i = 0 ∨ i = 1 ∨ i = 2 ∨ i = 3 ∨ i = 4 ∨ i = 5 ∨ i = 6 ∨ i = 7 ∨ i = 8 ∨ i = 9 ∨ i = 10 ∨ i = 11 ∨ i = 12 ∨ i = 13 ∨ i = 14)
    · skip
      have n3 : L 3 = false := not_yet hL fun h => shut_at hs 3 0 (by kernel_rfl) (h)
      have n7 : L 7 = false := not_yet hL fun h => shut_at hs 3 0 (by kernel_rfl) (shut_at hs 7 3 (by kernel_rfl) (h))
      have n8 : L 8 = false := not_yet hL fun h => shut_at hs 3 0 (by kernel_rfl) (shut_at hs 8 3 (by kernel_rfl) (h))
      have n14 : L 14 = false := not_yet hL fun h => shut_at hs 14 0 (by kernel_rfl) (h)
      simp only [n3, n7, n8, n14, hL, cond_true, cond_false] at hph
      obtain ⟨k0, k1, k2, k3, _⟩ := (HXY.out.keep hcm HXY.out.lt).cells
      refine opIn_run (v := .agg #[.int .i64 r0, .int .i64 r1, .int .i64 r2, .int .i64 r3]) (w' := w') rfl rfl (fun c h => by cases h) (fun _ => trivial) ?_ ⟨A7, c7, A8, c8, by simp [Act.put, upd, n3, n7, n8, n14, hL], hcm, by simp only [upd, n3, n7, n8, n14, hL]; exact hph⟩
      simp only [n3, n7, n8, n14, hL, cond_true, cond_false]
      go_simp
    · skip
      have n3 : L 3 = false := not_yet hL fun h => shut_at hs 3 1 (by kernel_rfl) (h)
      have n7 : L 7 = false := not_yet hL fun h => shut_at hs 3 1 (by kernel_rfl) (shut_at hs 7 3 (by kernel_rfl) (h))
      have n8 : L 8 = false := not_yet hL fun h => shut_at hs 3 1 (by kernel_rfl) (shut_at hs 8 3 (by kernel_rfl) (h))
      have n14 : L 14 = false := not_yet hL fun h => shut_at hs 14 1 (by kernel_rfl) (h)
      refine opIn_run (v := .int .i64 (n : Int)) (w' := w') rfl rfl (fun c h => by cases h) (fun _ => trivial) ?_ ⟨A7, c7, A8, c8, by simp [Act.put, upd, n3, n7, n8, n14, hL], hcm, by simpa [upd] using hph⟩
      simp only [n3, n7, n8, n14, hL, cond_true, cond_false]
      go_simp
    · skip
      have n3 : L 3 = false := not_yet hL fun h => shut_at hs 3 2 (by kernel_rfl) (h)
      have n7 : L 7 = false := not_yet hL fun h => shut_at hs 3 2 (by kernel_rfl) (shut_at hs 7 3 (by kernel_rfl) (h))
      have n8 : L 8 = false := not_yet hL fun h => shut_at hs 3 2 (by kernel_rfl) (shut_at hs 8 3 (by kernel_rfl) (h))
      have n14 : L 14 = false := not_yet hL fun h => shut_at hs 14 2 (by kernel_rfl) (h)
      refine opIn_run (v := .slice Ap N cp) (w' := w') rfl rfl (fun c h => by cases h) (fun _ => trivial) ?_ ⟨A7, c7, A8, c8, by simp [Act.put, upd, n3, n7, n8, n14, hL], hcm, by simpa [upd] using hph⟩
      simp only [n3, n7, n8, n14, hL, cond_true, cond_false]
      go_simp
    · skip
      have y0 : L 0 = true := up_at hu 0 (by kernel_rfl)
      have y1 : L 1 = true := up_at hu 1 (by kernel_rfl)
      have y2 : L 2 = true := up_at hu 2 (by kernel_rfl)
      have n7 : L 7 = false := not_yet hL fun h => shut_at hs 7 3 (by kernel_rfl) (h)
      have n8 : L 8 = false := not_yet hL fun h => shut_at hs 8 3 (by kernel_rfl) (h)
      have n14 : L 14 = false := not_yet hL fun h => shut_at hs 14 3 (by kernel_rfl) (h)
      simp only [y0, y1, y2, n7, n8, n14, hL, cond_true, cond_false] at hph
      refine opIn_call (f := 15) (args := #[.agg #[.int .i64 r0, .int .i64 r1, .int .i64 r2, .int .i64 r3], .int .i64 (n : Int), .slice Ap N cp]) (w' := w') rfl rfl (fun c h => by cases h) (fun _ => trivial) rfl ?_ ((callsIn_wide.2 (HD.out n w' Ap cp hn5 (HVY.out.keep hcm (Nat.le_refl _)))).mono ?_)
      · simp only [y0, y1, y2, n7, n8, n14, hL, cond_true, cond_false]
        go_simp
      · rintro e w2 ⟨A9, c9, rfl, hr9, hb9⟩
        exact ⟨_, rfl, A9, c9, A8, c8, by simp [Act.put, upd, y0, y1, y2, n7, n8, n14, hL], hcm.trans (hb9.mono hcm.size), by simp only [upd, y0, y1, y2, n7, n8, n14, hL]; exact hr9⟩
    · skip
      have n7 : L 7 = false := not_yet hL fun h => shut_at hs 7 4 (by kernel_rfl) (h)
      have n8 : L 8 = false := not_yet hL fun h => shut_at hs 7 4 (by kernel_rfl) (shut_at hs 8 7 (by kernel_rfl) (h))
      have n14 : L 14 = false := not_yet hL fun h => shut_at hs 14 4 (by kernel_rfl) (h)
      simp only [n7, n8, n14, hL, cond_true, cond_false] at hph
      obtain ⟨k0, k1, k2, k3, _⟩ := (HXY.out.keep hcm HXY.out.lt).cells
      refine opIn_run (v := .agg #[.int .i64 r0, .int .i64 r1, .int .i64 r2, .int .i64 r3]) (w' := w') rfl rfl (fun c h => by cases h) (fun _ => trivial) ?_ ⟨A7, c7, A8, c8, by simp [Act.put, upd, n7, n8, n14, hL], hcm, by simp only [upd, n7, n8, n14, hL]; exact hph⟩
      simp only [n7, n8, n14, hL, cond_true, cond_false]
      go_simp
    · skip
      have n7 : L 7 = false := not_yet hL fun h => shut_at hs 7 5 (by kernel_rfl) (h)
      have n8 : L 8 = false := not_yet hL fun h => shut_at hs 7 5 (by kernel_rfl) (shut_at hs 8 7 (by kernel_rfl) (h))
      have n14 : L 14 = false := not_yet hL fun h => shut_at hs 14 5 (by kernel_rfl) (h)
      refine opIn_run (v := .int .i64 (n : Int)) (w' := w') rfl rfl (fun c h => by cases h) (fun _ => trivial) ?_ ⟨A7, c7, A8, c8, by simp [Act.put, upd, n7, n8, n14, hL], hcm, by simpa [upd] using hph⟩
      simp only [n7, n8, n14, hL, cond_true, cond_false]
      go_simp
    · skip
      have n7 : L 7 = false := not_yet hL fun h => shut_at hs 7 6 (by kernel_rfl) (h)
      have n8 : L 8 = false := not_yet hL fun h => shut_at hs 7 6 (by kernel_rfl) (shut_at hs 8 7 (by kernel_rfl) (h))
      have n14 : L 14 = false := not_yet hL fun h => shut_at hs 14 6 (by kernel_rfl) (h)
      refine opIn_run (v := .slice Al N cl) (w' := w') rfl rfl (fun c h => by cases h) (fun _ => trivial) ?_ ⟨A7, c7, A8, c8, by simp [Act.put, upd, n7, n8, n14, hL], hcm, by simpa [upd] using hph⟩
      simp only [n7, n8, n14, hL, cond_true, cond_false]
      go_simp
    · skip
      have y0 : L 0 = true := shut_at hs 3 0 (by kernel_rfl) (up_at hu 3 (by kernel_rfl))
      have y1 : L 1 = true := shut_at hs 3 1 (by kernel_rfl) (up_at hu 3 (by kernel_rfl))
      have y2 : L 2 = true := shut_at hs 3 2 (by kernel_rfl) (up_at hu 3 (by kernel_rfl))
      have y3 : L 3 = true := up_at hu 3 (by kernel_rfl)
      have y4 : L 4 = true := up_at hu 4 (by kernel_rfl)
      have y5 : L 5 = true := up_at hu 5 (by kernel_rfl)
      have y6 : L 6 = true := up_at hu 6 (by kernel_rfl)
      have n8 : L 8 = false := not_yet hL fun h => shut_at hs 8 7 (by kernel_rfl) (h)
      have n14 : L 14 = false := not_yet hL fun h => shut_at hs 14 7 (by kernel_rfl) (h)
      simp only [y0, y1, y2, y3, y4, y5, y6, n8, n14, hL, cond_true, cond_false] at hph
      refine opIn_call (f := 16) (args := #[.agg #[.int .i64 r0, .int .i64 r1, .int .i64 r2, .int .i64 r3], .int .i64 (n : Int), .slice Al N cl]) (w' := w') rfl rfl (fun c h => by cases h) (fun _ => trivial) rfl ?_ ((callsIn_wide.2 (HF.out n w' Al cl hn5 (HWY.out.keep hcm (Nat.le_refl _)))).mono ?_)
      · simp only [y0, y1, y2, y3, y4, y5, y6, n8, n14, hL, cond_true, cond_false]
        go_simp
      · rintro e w2 ⟨A9, c9, rfl, hr9, hb9⟩
        exact ⟨_, rfl, A7, c7, A9, c9, by simp [Act.put, upd, y0, y1, y2, y3, y4, y5, y6, n8, n14, hL], hcm.trans (hb9.mono hcm.size), by simp only [upd, y0, y1, y2, y3, y4, y5, y6, n8, n14, hL]; exact ⟨hph.keep hb9 (Nat.le_refl _), hr9⟩⟩
    · skip
      have y0 : L 0 = true := shut_at hs 3 0 (by kernel_rfl) (up_at hu 3 (by kernel_rfl))
      have y1 : L 1 = true := shut_at hs 3 1 (by kernel_rfl) (up_at hu 3 (by kernel_rfl))
      have y2 : L 2 = true := shut_at hs 3 2 (by kernel_rfl) (up_at hu 3 (by kernel_rfl))
      have y3 : L 3 = true := up_at hu 3 (by kernel_rfl)
      have y4 : L 4 = true := shut_at hs 7 4 (by kernel_rfl) (up_at hu 7 (by kernel_rfl))
      have y5 : L 5 = true := shut_at hs 7 5 (by kernel_rfl) (up_at hu 7 (by kernel_rfl))
      have y6 : L 6 = true := shut_at hs 7 6 (by kernel_rfl) (up_at hu 7 (by kernel_rfl))
      have y7 : L 7 = true := up_at hu 7 (by kernel_rfl)
      have n14 : L 14 = false := not_yet hL fun h => shut_at hs 14 8 (by kernel_rfl) (h)
      simp only [y0, y1, y2, y3, y4, y5, y6, y7, n14, hL, cond_true, cond_false] at hph
      refine opIn_call (f := 14) (args := #[.slice A7 (3 * n + 1) c7, .slice A8 (3 * n + 1) c8]) (w' := w') rfl rfl (fun c h => by cases h) (fun _ => trivial) rfl ?_ ((callsIn_wide.2 (rows_yes hph.1 hph.2)).mono ?_)
      · simp only [y0, y1, y2, y3, y4, y5, y6, y7, n14, hL, cond_true, cond_false]
        go_simp
      · rintro e w2 ⟨rfl, nd, rfl⟩
        exact ⟨_, rfl, A7, c7, A8, c8, by simp [Act.put, upd, y0, y1, y2, y3, y4, y5, y6, y7, n14, hL], below_drewN hcm nd, by simp only [upd, y0, y1, y2, y3, y4, y5, y6, y7, n14, hL]; exact below_drewN hcm nd⟩
    · skip
      have y0 : L 0 = true := shut_at hs 3 0 (by kernel_rfl) (shut_at hs 8 3 (by kernel_rfl) (up_at hu 8 (by kernel_rfl)))
      have y1 : L 1 = true := shut_at hs 3 1 (by kernel_rfl) (shut_at hs 8 3 (by kernel_rfl) (up_at hu 8 (by kernel_rfl)))
      have y2 : L 2 = true := shut_at hs 3 2 (by kernel_rfl) (shut_at hs 8 3 (by kernel_rfl) (up_at hu 8 (by kernel_rfl)))
      have y3 : L 3 = true := shut_at hs 8 3 (by kernel_rfl) (up_at hu 8 (by kernel_rfl))
      have y4 : L 4 = true := shut_at hs 7 4 (by kernel_rfl) (shut_at hs 8 7 (by kernel_rfl) (up_at hu 8 (by kernel_rfl)))
      have y5 : L 5 = true := shut_at hs 7 5 (by kernel_rfl) (shut_at hs 8 7 (by kernel_rfl) (up_at hu 8 (by kernel_rfl)))
      have y6 : L 6 = true := shut_at hs 7 6 (by kernel_rfl) (shut_at hs 8 7 (by kernel_rfl) (up_at hu 8 (by kernel_rfl)))
      have y7 : L 7 = true := shut_at hs 8 7 (by kernel_rfl) (up_at hu 8 (by kernel_rfl))
      have y8 : L 8 = true := up_at hu 8 (by kernel_rfl)
      have n14 : L 14 = false := not_yet hL fun h => shut_at hs 14 9 (by kernel_rfl) (h)
      refine opIn_run (v := .bool true) (w' := w') rfl rfl (fun c h => by cases h) (fun _ => trivial) ?_ ⟨A7, c7, A8, c8, by simp [Act.put, upd, y0, y1, y2, y3, y4, y5, y6, y7, y8, n14, hL], hcm, by simpa [upd] using hph⟩
      simp only [y0, y1, y2, y3, y4, y5, y6, y7, y8, n14, hL, cond_true, cond_false]
      go_simp
    · skip
      have y0 : L 0 = true := shut_at hs 3 0 (by kernel_rfl) (shut_at hs 8 3 (by kernel_rfl) (shut_at hs 9 8 (by kernel_rfl) (up_at hu 9 (by kernel_rfl))))
      have y1 : L 1 = true := shut_at hs 3 1 (by kernel_rfl) (shut_at hs 8 3 (by kernel_rfl) (shut_at hs 9 8 (by kernel_rfl) (up_at hu 9 (by kernel_rfl))))
      have y2 : L 2 = true := shut_at hs 3 2 (by kernel_rfl) (shut_at hs 8 3 (by kernel_rfl) (shut_at hs 9 8 (by kernel_rfl) (up_at hu 9 (by kernel_rfl))))
      have y3 : L 3 = true := shut_at hs 8 3 (by kernel_rfl) (shut_at hs 9 8 (by kernel_rfl) (up_at hu 9 (by kernel_rfl)))
      have y4 : L 4 = true := shut_at hs 7 4 (by kernel_rfl) (shut_at hs 8 7 (by kernel_rfl) (shut_at hs 9 8 (by kernel_rfl) (up_at hu 9 (by kernel_rfl))))
      have y5 : L 5 = true := shut_at hs 7 5 (by kernel_rfl) (shut_at hs 8 7 (by kernel_rfl) (shut_at hs 9 8 (by kernel_rfl) (up_at hu 9 (by kernel_rfl))))
      have y6 : L 6 = true := shut_at hs 7 6 (by kernel_rfl) (shut_at hs 8 7 (by kernel_rfl) (shut_at hs 9 8 (by kernel_rfl) (up_at hu 9 (by kernel_rfl))))
      have y7 : L 7 = true := shut_at hs 8 7 (by kernel_rfl) (shut_at hs 9 8 (by kernel_rfl) (up_at hu 9 (by kernel_rfl)))
      have y8 : L 8 = true := shut_at hs 9 8 (by kernel_rfl) (up_at hu 9 (by kernel_rfl))
      have y9 : L 9 = true := up_at hu 9 (by kernel_rfl)
      have n14 : L 14 = false := not_yet hL fun h => shut_at hs 14 10 (by kernel_rfl) (h)
      refine opIn_run_g (v := .slice Ap N cp) (w' := w') (j := 9) (b := true) rfl rfl (by simp [yielded, y0, y1, y2, y3, y4, y5, y6, y7, y8, y9, n14, hL]) (fun c h => by cases h) (fun _ => trivial) ?_ ⟨A7, c7, A8, c8, by simp [Act.put, upd, y0, y1, y2, y3, y4, y5, y6, y7, y8, y9, n14, hL], hcm, by simpa [upd] using hph⟩
      simp only [y0, y1, y2, y3, y4, y5, y6, y7, y8, y9, n14, hL, cond_true, cond_false]
      go_simp
    · skip
      have y0 : L 0 = true := shut_at hs 3 0 (by kernel_rfl) (shut_at hs 8 3 (by kernel_rfl) (shut_at hs 9 8 (by kernel_rfl) (up_at hu 9 (by kernel_rfl))))
      have y1 : L 1 = true := shut_at hs 3 1 (by kernel_rfl) (shut_at hs 8 3 (by kernel_rfl) (shut_at hs 9 8 (by kernel_rfl) (up_at hu 9 (by kernel_rfl))))
      have y2 : L 2 = true := shut_at hs 3 2 (by kernel_rfl) (shut_at hs 8 3 (by kernel_rfl) (shut_at hs 9 8 (by kernel_rfl) (up_at hu 9 (by kernel_rfl))))
      have y3 : L 3 = true := shut_at hs 8 3 (by kernel_rfl) (shut_at hs 9 8 (by kernel_rfl) (up_at hu 9 (by kernel_rfl)))
      have y4 : L 4 = true := shut_at hs 7 4 (by kernel_rfl) (shut_at hs 8 7 (by kernel_rfl) (shut_at hs 9 8 (by kernel_rfl) (up_at hu 9 (by kernel_rfl))))
      have y5 : L 5 = true := shut_at hs 7 5 (by kernel_rfl) (shut_at hs 8 7 (by kernel_rfl) (shut_at hs 9 8 (by kernel_rfl) (up_at hu 9 (by kernel_rfl))))
      have y6 : L 6 = true := shut_at hs 7 6 (by kernel_rfl) (shut_at hs 8 7 (by kernel_rfl) (shut_at hs 9 8 (by kernel_rfl) (up_at hu 9 (by kernel_rfl))))
      have y7 : L 7 = true := shut_at hs 8 7 (by kernel_rfl) (shut_at hs 9 8 (by kernel_rfl) (up_at hu 9 (by kernel_rfl)))
      have y8 : L 8 = true := shut_at hs 9 8 (by kernel_rfl) (up_at hu 9 (by kernel_rfl))
      have y9 : L 9 = true := up_at hu 9 (by kernel_rfl)
      have n14 : L 14 = false := not_yet hL fun h => shut_at hs 14 11 (by kernel_rfl) (h)
      refine opIn_run_g (v := .slice Al N cl) (w' := w') (j := 9) (b := true) rfl rfl (by simp [yielded, y0, y1, y2, y3, y4, y5, y6, y7, y8, y9, n14, hL]) (fun c h => by cases h) (fun _ => trivial) ?_ ⟨A7, c7, A8, c8, by simp [Act.put, upd, y0, y1, y2, y3, y4, y5, y6, y7, y8, y9, n14, hL], hcm, by simpa [upd] using hph⟩
      simp only [y0, y1, y2, y3, y4, y5, y6, y7, y8, y9, n14, hL, cond_true, cond_false]
      go_simp
    · skip
      have y0 : L 0 = true := shut_at hs 3 0 (by kernel_rfl) (shut_at hs 8 3 (by kernel_rfl) (shut_at hs 9 8 (by kernel_rfl) (up_at hu 9 (by kernel_rfl))))
      have y1 : L 1 = true := shut_at hs 3 1 (by kernel_rfl) (shut_at hs 8 3 (by kernel_rfl) (shut_at hs 9 8 (by kernel_rfl) (up_at hu 9 (by kernel_rfl))))
      have y2 : L 2 = true := shut_at hs 3 2 (by kernel_rfl) (shut_at hs 8 3 (by kernel_rfl) (shut_at hs 9 8 (by kernel_rfl) (up_at hu 9 (by kernel_rfl))))
      have y3 : L 3 = true := shut_at hs 8 3 (by kernel_rfl) (shut_at hs 9 8 (by kernel_rfl) (up_at hu 9 (by kernel_rfl)))
      have y4 : L 4 = true := shut_at hs 7 4 (by kernel_rfl) (shut_at hs 8 7 (by kernel_rfl) (shut_at hs 9 8 (by kernel_rfl) (up_at hu 9 (by kernel_rfl))))
      have y5 : L 5 = true := shut_at hs 7 5 (by kernel_rfl) (shut_at hs 8 7 (by kernel_rfl) (shut_at hs 9 8 (by kernel_rfl) (up_at hu 9 (by kernel_rfl))))
      have y6 : L 6 = true := shut_at hs 7 6 (by kernel_rfl) (shut_at hs 8 7 (by kernel_rfl) (shut_at hs 9 8 (by kernel_rfl) (up_at hu 9 (by kernel_rfl))))
      have y7 : L 7 = true := shut_at hs 8 7 (by kernel_rfl) (shut_at hs 9 8 (by kernel_rfl) (up_at hu 9 (by kernel_rfl)))
      have y8 : L 8 = true := shut_at hs 9 8 (by kernel_rfl) (up_at hu 9 (by kernel_rfl))
      have y9 : L 9 = true := up_at hu 9 (by kernel_rfl)
      have y10 : L 10 = true := up_at hu 10 (by kernel_rfl)
      have y11 : L 11 = true := up_at hu 11 (by kernel_rfl)
      have n14 : L 14 = false := not_yet hL fun h => shut_at hs 14 12 (by kernel_rfl) (h)
      simp only [y0, y1, y2, y3, y4, y5, y6, y7, y8, y9, y10, y11, n14, hL, cond_true, cond_false] at hph
      refine opIn_call_g (f := 17) (args := #[.slice Ap N cp, .slice Al N cl]) (w' := w') (j := 9) (b := true) rfl rfl (by simp [yielded, y0, y1, y2, y3, y4, y5, y6, y7, y8, y9, y10, y11, n14, hL]) (fun c h => by cases h) (fun _ => trivial) rfl ?_ ((callsIn_wide.2 (ints_q (HVY.out.keep hcm (Nat.le_refl _)) (HWY.out.keep hcm (Nat.le_refl _)))).mono ?_)
      · simp only [y0, y1, y2, y3, y4, y5, y6, y7, y8, y9, y10, y11, n14, hL, cond_true, cond_false]
        go_simp
      · rintro e w2 ⟨rfl, nd, rfl⟩
        exact ⟨_, rfl, A7, c7, A8, c8, by simp [Act.put, upd, y0, y1, y2, y3, y4, y5, y6, y7, y8, y9, y10, y11, n14, hL], below_drewN hcm nd, by simp only [upd, y0, y1, y2, y3, y4, y5, y6, y7, y8, y9, y10, y11, n14, hL]; exact below_drewN hcm nd⟩
    · skip
      have y0 : L 0 = true := shut_at hs 3 0 (by kernel_rfl) (shut_at hs 8 3 (by kernel_rfl) (shut_at hs 9 8 (by kernel_rfl) (up_at hu 9 (by kernel_rfl))))
      have y1 : L 1 = true := shut_at hs 3 1 (by kernel_rfl) (shut_at hs 8 3 (by kernel_rfl) (shut_at hs 9 8 (by kernel_rfl) (up_at hu 9 (by kernel_rfl))))
      have y2 : L 2 = true := shut_at hs 3 2 (by kernel_rfl) (shut_at hs 8 3 (by kernel_rfl) (shut_at hs 9 8 (by kernel_rfl) (up_at hu 9 (by kernel_rfl))))
      have y3 : L 3 = true := shut_at hs 8 3 (by kernel_rfl) (shut_at hs 9 8 (by kernel_rfl) (up_at hu 9 (by kernel_rfl)))
      have y4 : L 4 = true := shut_at hs 7 4 (by kernel_rfl) (shut_at hs 8 7 (by kernel_rfl) (shut_at hs 9 8 (by kernel_rfl) (up_at hu 9 (by kernel_rfl))))
      have y5 : L 5 = true := shut_at hs 7 5 (by kernel_rfl) (shut_at hs 8 7 (by kernel_rfl) (shut_at hs 9 8 (by kernel_rfl) (up_at hu 9 (by kernel_rfl))))
      have y6 : L 6 = true := shut_at hs 7 6 (by kernel_rfl) (shut_at hs 8 7 (by kernel_rfl) (shut_at hs 9 8 (by kernel_rfl) (up_at hu 9 (by kernel_rfl))))
      have y7 : L 7 = true := shut_at hs 8 7 (by kernel_rfl) (shut_at hs 9 8 (by kernel_rfl) (up_at hu 9 (by kernel_rfl)))
      have y8 : L 8 = true := shut_at hs 9 8 (by kernel_rfl) (up_at hu 9 (by kernel_rfl))
      have y9 : L 9 = true := up_at hu 9 (by kernel_rfl)
      have y10 : L 10 = true := shut_at hs 12 10 (by kernel_rfl) (up_at hu 12 (by kernel_rfl))
      have y11 : L 11 = true := shut_at hs 12 11 (by kernel_rfl) (up_at hu 12 (by kernel_rfl))
      have y12 : L 12 = true := up_at hu 12 (by kernel_rfl)
      have n14 : L 14 = false := not_yet hL fun h => shut_at hs 14 13 (by kernel_rfl) (h)
      refine opIn_run (v := .bool true) (w' := w') rfl rfl (fun c h => by cases h) (fun _ => trivial) ?_ ⟨A7, c7, A8, c8, by simp [Act.put, upd, y0, y1, y2, y3, y4, y5, y6, y7, y8, y9, y10, y11, y12, n14, hL], hcm, by simpa [upd] using hph⟩
      simp only [y0, y1, y2, y3, y4, y5, y6, y7, y8, y9, y10, y11, y12, n14, hL, cond_true, cond_false]
      go_simp
    · skip
      have y0 : L 0 = true := up_at hu 0 (by kernel_rfl)
      have y1 : L 1 = true := up_at hu 1 (by kernel_rfl)
      have y2 : L 2 = true := up_at hu 2 (by kernel_rfl)
      have y3 : L 3 = true := up_at hu 3 (by kernel_rfl)
      have y4 : L 4 = true := up_at hu 4 (by kernel_rfl)
      have y5 : L 5 = true := up_at hu 5 (by kernel_rfl)
      have y6 : L 6 = true := up_at hu 6 (by kernel_rfl)
      have y7 : L 7 = true := up_at hu 7 (by kernel_rfl)
      have y8 : L 8 = true := up_at hu 8 (by kernel_rfl)
      have y9 : L 9 = true := up_at hu 9 (by kernel_rfl)
      have y10 : L 10 = true := up_at hu 10 (by kernel_rfl)
      have y11 : L 11 = true := up_at hu 11 (by kernel_rfl)
      have y12 : L 12 = true := up_at hu 12 (by kernel_rfl)
      have y13 : L 13 = true := up_at hu 13 (by kernel_rfl)
      refine opIn_run (v := .bool true) (w' := w') rfl rfl (fun c h => by cases h) (fun _ => trivial) ?_ ⟨A7, c7, A8, c8, by simp [Act.put, upd, y0, y1, y2, y3, y4, y5, y6, y7, y8, y9, y10, y11, y12, y13, hL], hcm, by simpa [upd] using hph⟩
      simp only [y0, y1, y2, y3, y4, y5, y6, y7, y8, y9, y10, y11, y12, y13, hL, cond_true, cond_false]
      go_simp
  case fin =>
    intro L a' w' hall hI
    obtain ⟨A7, c7, A8, c8, rfl, hcm, hph⟩ := hI
    have l0 := hall 0 (by decide)
    have l1 := hall 1 (by decide)
    have l2 := hall 2 (by decide)
    have l3 := hall 3 (by decide)
    have l4 := hall 4 (by decide)
    have l5 := hall 5 (by decide)
    have l6 := hall 6 (by decide)
    have l7 := hall 7 (by decide)
    have l8 := hall 8 (by decide)
    have l9 := hall 9 (by decide)
    have l10 := hall 10 (by decide)
    have l11 := hall 11 (by decide)
    have l12 := hall 12 (by decide)
    have l13 := hall 13 (by decide)
    have l14 := hall 14 (by decide)
    simp only [l0, l1, l2, l3, l4, l5, l6, l7, l8, l9, l10, l11, l12, l13, l14, cond_true] at hph ⊢
    clear l0 l1 l2 l3 l4 l5 l6 l7 l8 l9 l10 l11 l12 l13 l14 hall
    have HE := Lib.hid (HBY.out.trans (hcm.mono HBY.out.size))
    clear hph hcm
    go_wp2
    go_ret
    exact ⟨rfl, HE.out⟩
end Go.Proofs.Ytgadebfelomhpaa
