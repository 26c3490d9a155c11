/- DwtBack, walked. -/
import Derived.Test.YtgadebfelomhpaaDwG
import Derived.Outline
set_option linter.unusedVariables false
set_option linter.unusedSimpArgs false
namespace Go.Proofs.Ytgadebfelomhpaa
open Go.RowKit

set_option maxHeartbeats 8000000 in
set_option maxRecDepth 100000 in
set_option pp.deepTerms true in
set_option pp.maxSteps 10000000 in
theorem walk_dwtBack (a0 a1 a2 a3 lv : Int) (b1 : Option Addr) (len1 cap1 : Nat) (z1 : List Int) (ls : Int) (w : World) (w1 : IsRow .i64 w b1 len1 cap1 z1) :
    Calls Try.prog 4 #[.agg #[.int .i64 a0, .int .i64 a1, .int .i64 a2, .int .i64 a3], .int .i64 lv, .slice b1 len1 cap1, .int .i64 ls] w fun e w' => e = .returned (.bool true) ∧ Below w.heap.size w w' := by
  have H1 := Lib.hid (rowI_is w1)
  clear w1
  go_enter Try.func4, Try.ntmps4
  go_wp2_with fail
  have HB0 : Hid (Below w.heap.size w (w.alloc (Obj.cells #[.int .i64 a0, .int .i64 a1, .int .i64 a2, .int .i64 a3] 23))) := Lib.hid ((Below.refl _ w).alloc (Nat.le_refl _) _)
  have HX0 := Lib.hid (RA.new w a0 a1 a2 a3)
  refine (known10 _).mono ?_
  rintro e wk ⟨rfl, bk⟩
  have HX1 := Lib.hid (HX0.out.keep bk HX0.out.lt)
  have HB1 := Lib.hid (HB0.out.trans (bk.mono HB0.out.size))
  obtain ⟨f0, f1, f2, f3, _⟩ := HX1.out.cells
  clear HX0 HB0 bk
  go_wp2_with fail
  refine (plane_any a0 a1 a2 a3 wk (H1.out.keep HB1.out (Nat.le_refl _))).mono ?_
  rintro e wp ⟨P, Ap, cp, rfl, hrow, hbd, hA, bp⟩
  have HX2 := Lib.hid (HX1.out.keep bp HX1.out.lt)
  have HB2 := Lib.hid (HB1.out.trans (bp.mono HB1.out.size))
  have hg := geoR_bd a0 a1 a2 a3
  generalize geoR a0 a1 a2 a3 = g at *
  obtain ⟨r0, r1, r2, r3, hr⟩ := rect_open g
  rw [hr]
  have HR := Lib.hid hr
  have hwh : g.w * g.h ≤ 144 := Nat.mul_le_mul hg.2.2.1 hg.2.2.2
  have HRW := Lib.hid hrow
  have HAW : Hid (∀ b o, Ap = some ⟨b, o, none⟩ → b ≠ w.heap.size) := Lib.hid (fun b o e => by have := hA b o e; have := HX1.out.lt; omega)
  have HBD := Lib.hid hbd
  clear f0 f1 f2 f3 HX1 HB1 bp hr hrow hbd hA H1
  obtain ⟨f0, f1, f2, f3, f4, f5, f6, f7⟩ := HX2.out.cells
  obtain ⟨N, hN⟩ : ∃ N, g.w * g.h = N := ⟨_, rfl⟩
  have hd2 := fun n W A c hn h => dsplit_any g P n A c W (by omega) (by omega) (by omega) hn HBD.out h
  rw [hN] at HRW hwh hd2 ⊢
  rw [HR.out] at hd2
  have HD := Lib.hid hd2
  have HN := Lib.hid hN
  clear hN hd2
  have HX3 : Hid (RA (setRect wp w.heap.size r0 r1 r2 r3) w.heap.size r0 r1 r2 r3) := Lib.hid (RA.setRect HX2.out)
  have HB3 : Hid (Below w.heap.size w (setRect wp w.heap.size r0 r1 r2 r3)) := Lib.hid ((((HB2.out.setCell (p := ⟨w.heap.size, 0, none⟩) (Nat.le_refl _) _).setCell (p := ⟨w.heap.size, 1, none⟩) (Nat.le_refl _) _).setCell (p := ⟨w.heap.size, 2, none⟩) (Nat.le_refl _) _).setCell (p := ⟨w.heap.size, 3, none⟩) (Nat.le_refl _) _)
  have HRW3 : Hid (RowI (setRect wp w.heap.size r0 r1 r2 r3) Ap N cp (flat g.w g.h P)) := Lib.hid (row_only HRW.out (setRect_only wp w.heap.size r0 r1 r2 r3) HAW.out)
  unfold setRect at HX3 HB3 HRW3
  clear HX2 HB2 HRW
  go_wp2_with fail
  obtain ⟨Z, hZ⟩ : ∃ Z, ((((wp.setCell ⟨w.heap.size, 0, none⟩ (.int .i64 r0)).setCell ⟨w.heap.size, 1, none⟩ (.int .i64 r1)).setCell ⟨w.heap.size, 2, none⟩ (.int .i64 r2)).setCell ⟨w.heap.size, 3, none⟩ (.int .i64 r3)) = Z := ⟨_, rfl⟩
  rw [hZ] at HX3 HB3 HRW3 ⊢
  clear hZ f0 f1 f2 f3 f4 f5 f6 f7
  refine (within10 lv 6 Z (by omega) (by omega)).mono ?_
  rintro e w' ⟨rfl, rfl⟩
  obtain ⟨n, hn⟩ : ∃ n : Nat, lv % 6 = (n : Int) := ⟨(lv % 6).toNat, by omega⟩
  have hn5 : n ≤ 5 := by omega
  rw [hn]
  clear hn
  obtain ⟨n1, hn1⟩ : ∃ n1, n + 1 = n1 := ⟨_, rfl⟩
  have e1 : (n : Int) + 1 = (n1 : Int) := by omega
  go_wp2_with fail
  refine (within10 ls (n1 : Int) Z (by omega) (by omega)).mono ?_
  rintro e w' ⟨rfl, rfl⟩
  obtain ⟨s, hs⟩ : ∃ s : Nat, ls % (n1 : Int) = (s : Int) := ⟨(ls % (n1 : Int)).toNat, by
    have := Int.emod_nonneg ls (show (n1 : Int) ≠ 0 by omega)
    omega⟩
  have hsn : s ≤ n := by
    have := Int.emod_lt_of_pos ls (show 0 < (n1 : Int) by omega)
    omega
  rw [hs]
  clear hs
  obtain ⟨f0, f1, f2, f3, _⟩ := HX3.out.cells
  obtain ⟨m3, hm3⟩ : ∃ m3, 3 * n + 1 = m3 := ⟨_, rfl⟩
  obtain ⟨m4, hm4⟩ : ∃ m4, 3 * s + 1 = m4 := ⟨_, rfl⟩
  go_wp2_with fail
  refine (HD.out n _ _ _ (by omega) HRW3.out).mono ?_
  rintro e w5 ⟨A5, c5, rfl, hb5, b5⟩
  rw [hm3] at hb5 ⊢
  have HX5 := Lib.hid (HX3.out.keep b5 HX3.out.lt)
  have HB5 := Lib.hid (HB3.out.trans (b5.mono HB3.out.size))
  have HRW5 := Lib.hid (HRW3.out.keep b5 (Nat.le_refl _))
  have HS5 := Lib.hid hb5
  clear HX3 HB3 HRW3 hb5 b5 f0 f1 f2 f3
  obtain ⟨f0, f1, f2, f3, _⟩ := HX5.out.cells
  go_wp2_with fail
  refine (HD.out s _ _ _ (by omega) HRW5.out).mono ?_
  rintro e w6 ⟨A6, c6, rfl, hb6, b6⟩
  rw [hm4] at hb6 ⊢
  have HX6 := Lib.hid (HX5.out.keep b6 HX5.out.lt)
  have HB6 := Lib.hid (HB5.out.trans (b6.mono HB5.out.size))
  have HRW6 := Lib.hid (HRW5.out.keep b6 (Nat.le_refl _))
  have HS6 := Lib.hid (HS5.out.keep b6 (Nat.le_refl _))
  have HT6 := Lib.hid hb6
  have HM3 := Lib.hid hm3
  have HM4 := Lib.hid hm4
  have HN1 := Lib.hid hn1
  clear HX5 HB5 HRW5 HS5 hb6 b6 f0 f1 f2 f3 hm3 hm4 hn1 e1
  go_wp2
  obtain ⟨Y, hY⟩ : ∃ Y, w6.drew = Y := ⟨_, rfl⟩
  have HXY : Hid (RA Y w.heap.size r0 r1 r2 r3) := Lib.hid (by rw [← hY]; exact HX6.out)
  have HRY : Hid (RowI Y Ap N cp (flat g.w g.h P)) := Lib.hid (by rw [← hY]; exact HRW6.out.drew (Drew.mk _ 1))
  have HBY : Hid (Below w.heap.size w Y) := Lib.hid (by rw [← hY]; exact below_drewN HB6.out 1)
  have hSY : RowsI Y A5 m3 c5 (bandsL g P n) := by rw [← hY]; exact HS6.out.drew (Drew.mk _ 1)
  have hTY : RowsI Y A6 m4 c6 (bandsL g P s) := by rw [← hY]; exact HT6.out.drew (Drew.mk _ 1)
  have HYE := Lib.hid hY
  obtain ⟨bq, oq, A7, c7, hA6, hbq, hc7, hr7⟩ := hTY.at (bandsL_zero g P s)
  subst hA6
  change Y.cell? ⟨bq, oq, none⟩ = _ at hc7
  obtain ⟨L2, hL2⟩ : ∃ L2, (lowest g P s).length = L2 := ⟨_, rfl⟩
  rw [hL2] at hc7 hr7
  have HC7 := Lib.hid hc7
  have HR7 := Lib.hid hr7
  obtain ⟨k3, hk3⟩ : ∃ k3, 3 * n = k3 := ⟨_, rfl⟩
  obtain ⟨k4, hk4⟩ : ∃ k4, 3 * s = k4 := ⟨_, rfl⟩
  obtain ⟨d, hd⟩ : ∃ d, n1 = s + d := ⟨n1 - s, by have := HN1.out; omega⟩
  have hd1 : 1 ≤ d ∧ d + s = n + 1 := by have := HN1.out; omega
  have hb := HM3.out
  have hb' := HM4.out
  have hb'' := HN1.out
  have p1 : IntKind.i64.wrap (3 * (n : Int)) = (k3 : Int) := wr3 hk3 (by omega)
  have p2 : IntKind.i64.wrap ((k3 : Int) + 1) = (m3 : Int) := wrk (j := 1) (by omega) (by omega)
  have p3 : IntKind.i64.wrap (3 * (s : Int)) = (k4 : Int) := wr3 hk4 (by omega)
  have p4 : IntKind.i64.wrap ((k4 : Int) + 1) = (m4 : Int) := wrk (j := 1) (by omega) (by omega)
  have p5 : IntKind.i64.wrap ((n : Int) + 1) = (n1 : Int) := wrk (j := 1) hb'' (by omega)
  have p6 : IntKind.i64.wrap ((n1 : Int) - (s : Int)) = (d : Int) := wrn hd (by omega)
  have q1 : ((m3 : Int) == (m3 : Int)) = true := beq_self_eq_true _
  have q2 : ((m4 : Int) == (m4 : Int)) = true := beq_self_eq_true _
  have hj1 := fun W A c h => djoin_6 g P n n1 0 N A c W (by omega) (by rw [HN.out]; omega) (by omega) hn5 HBD.out (by omega) (by rw [← HN.out]; exact flat_len _ _ _) h
  have hj2 := fun W A c h => djoin_6 g P n d s L2 A c W (by omega) (by rw [HN.out]; omega) (by omega) hn5 HBD.out hd1 hL2 h
  rw [HR.out, hb] at hj1 hj2
  have HJ1 : Hid (∀ w', Below Y.heap.size Y w' → Calls Try.prog 18 #[.agg #[.int .i64 r0, .int .i64 r1, .int .i64 r2, .int .i64 r3], .int .i64 (n : Int), .slice A5 m3 c5, .int .i64 (n1 : Int)] w' fun e w'' => ∃ A' c', e = .returned (.slice A' N c') ∧ RowI w'' A' N c' (flat g.w g.h P) ∧ Below w'.heap.size w' w'') := Lib.hid (fun w' hb => hj1 w' A5 c5 (hSY.keep hb (Nat.le_refl _)))
  have HJ2 : Hid (∀ w', Below Y.heap.size Y w' → Calls Try.prog 18 #[.agg #[.int .i64 r0, .int .i64 r1, .int .i64 r2, .int .i64 r3], .int .i64 (n : Int), .slice A5 m3 c5, .int .i64 (d : Int)] w' fun e w'' => ∃ A' c', e = .returned (.slice A' L2 c') ∧ RowI w'' A' L2 c' (lowest g P s) ∧ Below w'.heap.size w' w'') := Lib.hid (fun w' hb => hj2 w' A5 c5 (hSY.keep hb (Nat.le_refl _)))
  have h04 : (0 : Int) < (m4 : Int) := by omega
  have h05 : 0 < m4 := by omega
  have h06 : ¬ m4 = 0 := by omega
  clear hY hSY hTY hc7 hr7 hL2 hk3 hk4 hd hb hb' hb'' hj1 hj2 HX6 HRW6 HB6 HS6 HT6
  refine (wpIn_wide (n := 9)).1 (regionIn_inv (w := w6) (Inv := fun L a' w' => ∃ (A1 : Option Addr) (c1 : Nat) (A2 : Option Addr) (c2 : Nat), a' = { tmps := #[.agg #[.int .i64 a0, .int .i64 a1, .int .i64 a2, .int .i64 a3], .int .i64 (n : Int), .slice b1 len1 cap1, .int .i64 (s : Int), .pointer (some ⟨w.heap.size, 0, none⟩), undef, undef, undef, bif L 38 then .bool true else .bool false, .slice Ap N cp, .slice A5 m3 c5, .slice (some ⟨bq, oq, none⟩) m4 c6, .bool true, .bool false, .tuple #[.agg #[.int .i64 r0, .int .i64 r1, .int .i64 r2, .int .i64 r3], .slice Ap N cp], .agg #[.int .i64 a0, .int .i64 a1, .int .i64 a2, .int .i64 a3], .slice b1 len1 cap1, .tuple #[.agg #[.int .i64 r0, .int .i64 r1, .int .i64 r2, .int .i64 r3], .slice Ap N cp], .agg #[.int .i64 r0, .int .i64 r1, .int .i64 r2, .int .i64 r3], .slice Ap N cp, .int .i64 lv, .int .i64 (n : Int), .int .i64 ls, .int .i64 (n : Int), .int .i64 (n1 : Int), .int .i64 (s : Int), .agg #[.int .i64 r0, .int .i64 r1, .int .i64 r2, .int .i64 r3], .int .i64 (n : Int), .slice Ap N cp, .slice A5 m3 c5, .agg #[.int .i64 r0, .int .i64 r1, .int .i64 r2, .int .i64 r3], .int .i64 (s : Int), .slice Ap N cp, .slice (some ⟨bq, oq, none⟩) m4 c6, bif L 0 then .slice A5 m3 c5 else undef, bif L 1 then .int .i64 (m3 : Int) else undef, bif L 2 then .int .i64 (n : Int) else undef, bif L 3 then .int .i64 (k3 : Int) else undef, bif L 4 then .int .i64 (m3 : Int) else undef, bif L 5 then .bool true else undef, bif L 6 then .bool true else undef, bif L 7 then .slice (some ⟨bq, oq, none⟩) m4 c6 else undef, bif L 8 then .int .i64 (m4 : Int) else undef, bif L 9 then .int .i64 (s : Int) else undef, bif L 10 then .int .i64 (k4 : Int) else undef, bif L 11 then .int .i64 (m4 : Int) else undef, bif L 12 then .bool true else undef, bif L 13 then .bool true else undef, bif L 14 then .bool true else undef, bif L 15 then .agg #[.int .i64 r0, .int .i64 r1, .int .i64 r2, .int .i64 r3] else undef, bif L 16 then .int .i64 (n : Int) else undef, bif L 17 then .slice A5 m3 c5 else undef, bif L 18 then .int .i64 (n : Int) else undef, bif L 19 then .int .i64 (n1 : Int) else undef, bif L 20 then .slice A1 N c1 else undef, bif L 21 then .slice Ap N cp else undef, bif L 22 then .bool true else undef, bif L 23 then .bool true else undef, bif L 24 then .bool true else undef, bif L 25 then .agg #[.int .i64 r0, .int .i64 r1, .int .i64 r2, .int .i64 r3] else undef, bif L 26 then .int .i64 (n : Int) else undef, bif L 27 then .slice A5 m3 c5 else undef, bif L 28 then .int .i64 (n : Int) else undef, bif L 29 then .int .i64 (n1 : Int) else undef, bif L 30 then .int .i64 (s : Int) else undef, bif L 31 then .int .i64 (d : Int) else undef, bif L 32 then .slice A2 L2 c2 else undef, bif L 33 then .slice (some ⟨bq, oq, none⟩) m4 c6 else undef, bif L 34 then .pointer (some ⟨bq, oq, none⟩) else undef, bif L 35 then .slice A7 L2 c7 else undef, bif L 36 then .bool true else undef, bif L 37 then .bool true else undef], defers := [] } ∧ (Below Y.heap.size Y w') ∧ (bif L 32 then (RowI w' A2 L2 c2 (lowest g P s)) else (bif L 20 then (RowI w' A1 N c1 (flat g.w g.h P)) else True))) (by kernel_rfl) (by kernel_rfl) ?start ?step ?fin)
  case start => exact ⟨none, 0, none, 0, rfl, (by rw [HYE.out]; exact Below.refl _ _ : Below Y.heap.size Y w6.drew), trivial⟩
  case step =>
    intro i hi L a' w' hI hs hu
    obtain ⟨A1, c1, A2, c2, rfl, hcm, hph⟩ := hI
    have hL := hu.1
    have hi : i < 39 := hi
    obtain rfl | rfl | rfl | rfl | rfl | rfl | rfl | rfl | rfl | rfl | rfl | rfl | rfl | rfl | rfl | rfl | rfl | rfl | rfl | rfl | rfl | rfl | rfl | rfl | rfl | rfl | rfl | rfl | rfl | rfl | rfl | rfl | rfl | rfl | rfl | rfl | rfl | rfl | rfl := (by omega : i = 0 ∨ i = 1 ∨ i = 2 ∨ i = 3 ∨ i = 4 ∨ i = 5 ∨ i = 6 ∨ i = 7 ∨ i = 8 ∨ i = 9 ∨ i = 10 ∨ i = 11 ∨ i = 12 ∨ i = 13 ∨ i = 14 ∨ i = 15 ∨ i = 16 ∨ i = 17 ∨ i = 18 ∨ i = 19 ∨ i = 20 ∨ i = 21 ∨ i = 22 ∨ i = 23 ∨ i = 24 ∨ i = 25 ∨ i = 26 ∨ i = 27 ∨ i = 28 ∨ i = 29 ∨ i = 30 ∨ i = 31 ∨ i = 32 ∨ i = 33 ∨ i = 34 ∨ i = 35 ∨ i = 36 ∨ i = 37 ∨ i = 38)
    · skip
      have n20 : L 20 = false := not_yet hL fun h => shut_at hs 1 0 (by kernel_rfl) (shut_at hs 5 1 (by kernel_rfl) (shut_at hs 6 5 (by kernel_rfl) (shut_at hs 14 6 (by kernel_rfl) (shut_at hs 20 14 (by kernel_rfl) (h)))))
      have n32 : L 32 = false := not_yet hL fun h => shut_at hs 1 0 (by kernel_rfl) (shut_at hs 5 1 (by kernel_rfl) (shut_at hs 6 5 (by kernel_rfl) (shut_at hs 14 6 (by kernel_rfl) (shut_at hs 22 14 (by kernel_rfl) (shut_at hs 24 22 (by kernel_rfl) (shut_at hs 32 24 (by kernel_rfl) (h)))))))
      refine opIn_run (v := .slice A5 m3 c5) (w' := w') rfl rfl (fun c h => by cases h) (fun _ => trivial) ?_ ⟨A1, c1, A2, c2, by simp [Act.put, upd, n20, n32, hL], hcm, by simpa [upd] using hph⟩
      simp only [n20, n32, hL, cond_true, cond_false]
      go_simp
    · skip
      have y0 : L 0 = true := up_at hu 0 (by kernel_rfl)
      have n20 : L 20 = false := not_yet hL fun h => shut_at hs 5 1 (by kernel_rfl) (shut_at hs 6 5 (by kernel_rfl) (shut_at hs 14 6 (by kernel_rfl) (shut_at hs 20 14 (by kernel_rfl) (h))))
      have n32 : L 32 = false := not_yet hL fun h => shut_at hs 5 1 (by kernel_rfl) (shut_at hs 6 5 (by kernel_rfl) (shut_at hs 14 6 (by kernel_rfl) (shut_at hs 22 14 (by kernel_rfl) (shut_at hs 24 22 (by kernel_rfl) (shut_at hs 32 24 (by kernel_rfl) (h))))))
      refine opIn_run (v := .int .i64 (m3 : Int)) (w' := w') rfl rfl (fun c h => by cases h) (fun _ => trivial) ?_ ⟨A1, c1, A2, c2, by simp [Act.put, upd, y0, n20, n32, hL], hcm, by simpa [upd] using hph⟩
      simp only [y0, n20, n32, hL, cond_true, cond_false]
      go_simp
    · skip
      have n20 : L 20 = false := not_yet hL fun h => shut_at hs 3 2 (by kernel_rfl) (shut_at hs 4 3 (by kernel_rfl) (shut_at hs 5 4 (by kernel_rfl) (shut_at hs 6 5 (by kernel_rfl) (shut_at hs 14 6 (by kernel_rfl) (shut_at hs 20 14 (by kernel_rfl) (h))))))
      have n32 : L 32 = false := not_yet hL fun h => shut_at hs 3 2 (by kernel_rfl) (shut_at hs 4 3 (by kernel_rfl) (shut_at hs 5 4 (by kernel_rfl) (shut_at hs 6 5 (by kernel_rfl) (shut_at hs 14 6 (by kernel_rfl) (shut_at hs 22 14 (by kernel_rfl) (shut_at hs 24 22 (by kernel_rfl) (shut_at hs 32 24 (by kernel_rfl) (h))))))))
      refine opIn_run (v := .int .i64 (n : Int)) (w' := w') rfl rfl (fun c h => by cases h) (fun _ => trivial) ?_ ⟨A1, c1, A2, c2, by simp [Act.put, upd, n20, n32, hL], hcm, by simpa [upd] using hph⟩
      simp only [n20, n32, hL, cond_true, cond_false]
      go_simp
    · skip
      have y2 : L 2 = true := up_at hu 2 (by kernel_rfl)
      have n20 : L 20 = false := not_yet hL fun h => shut_at hs 4 3 (by kernel_rfl) (shut_at hs 5 4 (by kernel_rfl) (shut_at hs 6 5 (by kernel_rfl) (shut_at hs 14 6 (by kernel_rfl) (shut_at hs 20 14 (by kernel_rfl) (h)))))
      have n32 : L 32 = false := not_yet hL fun h => shut_at hs 4 3 (by kernel_rfl) (shut_at hs 5 4 (by kernel_rfl) (shut_at hs 6 5 (by kernel_rfl) (shut_at hs 14 6 (by kernel_rfl) (shut_at hs 22 14 (by kernel_rfl) (shut_at hs 24 22 (by kernel_rfl) (shut_at hs 32 24 (by kernel_rfl) (h)))))))
      refine opIn_run (v := .int .i64 (k3 : Int)) (w' := w') rfl rfl (fun c h => by cases h) (fun _ => trivial) ?_ ⟨A1, c1, A2, c2, by simp [Act.put, upd, y2, n20, n32, hL], hcm, by simpa [upd] using hph⟩
      simp only [y2, n20, n32, hL, cond_true, cond_false]
      go_simp
    · skip
      have y2 : L 2 = true := shut_at hs 3 2 (by kernel_rfl) (up_at hu 3 (by kernel_rfl))
      have y3 : L 3 = true := up_at hu 3 (by kernel_rfl)
      have n20 : L 20 = false := not_yet hL fun h => shut_at hs 5 4 (by kernel_rfl) (shut_at hs 6 5 (by kernel_rfl) (shut_at hs 14 6 (by kernel_rfl) (shut_at hs 20 14 (by kernel_rfl) (h))))
      have n32 : L 32 = false := not_yet hL fun h => shut_at hs 5 4 (by kernel_rfl) (shut_at hs 6 5 (by kernel_rfl) (shut_at hs 14 6 (by kernel_rfl) (shut_at hs 22 14 (by kernel_rfl) (shut_at hs 24 22 (by kernel_rfl) (shut_at hs 32 24 (by kernel_rfl) (h))))))
      refine opIn_run (v := .int .i64 (m3 : Int)) (w' := w') rfl rfl (fun c h => by cases h) (fun _ => trivial) ?_ ⟨A1, c1, A2, c2, by simp [Act.put, upd, y2, y3, n20, n32, hL], hcm, by simpa [upd] using hph⟩
      simp only [y2, y3, n20, n32, hL, cond_true, cond_false]
      go_simp
    · skip
      have y0 : L 0 = true := shut_at hs 1 0 (by kernel_rfl) (up_at hu 1 (by kernel_rfl))
      have y1 : L 1 = true := up_at hu 1 (by kernel_rfl)
      have y2 : L 2 = true := shut_at hs 3 2 (by kernel_rfl) (shut_at hs 4 3 (by kernel_rfl) (up_at hu 4 (by kernel_rfl)))
      have y3 : L 3 = true := shut_at hs 4 3 (by kernel_rfl) (up_at hu 4 (by kernel_rfl))
      have y4 : L 4 = true := up_at hu 4 (by kernel_rfl)
      have n20 : L 20 = false := not_yet hL fun h => shut_at hs 6 5 (by kernel_rfl) (shut_at hs 14 6 (by kernel_rfl) (shut_at hs 20 14 (by kernel_rfl) (h)))
      have n32 : L 32 = false := not_yet hL fun h => shut_at hs 6 5 (by kernel_rfl) (shut_at hs 14 6 (by kernel_rfl) (shut_at hs 22 14 (by kernel_rfl) (shut_at hs 24 22 (by kernel_rfl) (shut_at hs 32 24 (by kernel_rfl) (h)))))
      refine opIn_run (v := .bool true) (w' := w') rfl rfl (fun c h => by cases h) (fun _ => trivial) ?_ ⟨A1, c1, A2, c2, by simp [Act.put, upd, y0, y1, y2, y3, y4, n20, n32, hL], hcm, by simpa [upd] using hph⟩
      simp only [y0, y1, y2, y3, y4, n20, n32, hL, cond_true, cond_false]
      go_simp
    · skip
      have y0 : L 0 = true := shut_at hs 1 0 (by kernel_rfl) (shut_at hs 5 1 (by kernel_rfl) (up_at hu 5 (by kernel_rfl)))
      have y1 : L 1 = true := shut_at hs 5 1 (by kernel_rfl) (up_at hu 5 (by kernel_rfl))
      have y2 : L 2 = true := shut_at hs 3 2 (by kernel_rfl) (shut_at hs 4 3 (by kernel_rfl) (shut_at hs 5 4 (by kernel_rfl) (up_at hu 5 (by kernel_rfl))))
      have y3 : L 3 = true := shut_at hs 4 3 (by kernel_rfl) (shut_at hs 5 4 (by kernel_rfl) (up_at hu 5 (by kernel_rfl)))
      have y4 : L 4 = true := shut_at hs 5 4 (by kernel_rfl) (up_at hu 5 (by kernel_rfl))
      have y5 : L 5 = true := up_at hu 5 (by kernel_rfl)
      have n20 : L 20 = false := not_yet hL fun h => shut_at hs 14 6 (by kernel_rfl) (shut_at hs 20 14 (by kernel_rfl) (h))
      have n32 : L 32 = false := not_yet hL fun h => shut_at hs 14 6 (by kernel_rfl) (shut_at hs 22 14 (by kernel_rfl) (shut_at hs 24 22 (by kernel_rfl) (shut_at hs 32 24 (by kernel_rfl) (h))))
      refine opIn_run (v := .bool true) (w' := w') rfl rfl (fun c h => by cases h) (fun _ => trivial) ?_ ⟨A1, c1, A2, c2, by simp [Act.put, upd, y0, y1, y2, y3, y4, y5, n20, n32, hL], hcm, by simpa [upd] using hph⟩
      simp only [y0, y1, y2, y3, y4, y5, n20, n32, hL, cond_true, cond_false]
      go_simp
    · skip
      have y0 : L 0 = true := shut_at hs 1 0 (by kernel_rfl) (shut_at hs 5 1 (by kernel_rfl) (shut_at hs 6 5 (by kernel_rfl) (up_at hu 6 (by kernel_rfl))))
      have y1 : L 1 = true := shut_at hs 5 1 (by kernel_rfl) (shut_at hs 6 5 (by kernel_rfl) (up_at hu 6 (by kernel_rfl)))
      have y2 : L 2 = true := shut_at hs 3 2 (by kernel_rfl) (shut_at hs 4 3 (by kernel_rfl) (shut_at hs 5 4 (by kernel_rfl) (shut_at hs 6 5 (by kernel_rfl) (up_at hu 6 (by kernel_rfl)))))
      have y3 : L 3 = true := shut_at hs 4 3 (by kernel_rfl) (shut_at hs 5 4 (by kernel_rfl) (shut_at hs 6 5 (by kernel_rfl) (up_at hu 6 (by kernel_rfl))))
      have y4 : L 4 = true := shut_at hs 5 4 (by kernel_rfl) (shut_at hs 6 5 (by kernel_rfl) (up_at hu 6 (by kernel_rfl)))
      have y5 : L 5 = true := shut_at hs 6 5 (by kernel_rfl) (up_at hu 6 (by kernel_rfl))
      have y6 : L 6 = true := up_at hu 6 (by kernel_rfl)
      have n20 : L 20 = false := not_yet hL fun h => shut_at hs 8 7 (by kernel_rfl) (shut_at hs 12 8 (by kernel_rfl) (shut_at hs 13 12 (by kernel_rfl) (shut_at hs 14 13 (by kernel_rfl) (shut_at hs 20 14 (by kernel_rfl) (h)))))
      have n32 : L 32 = false := not_yet hL fun h => shut_at hs 8 7 (by kernel_rfl) (shut_at hs 12 8 (by kernel_rfl) (shut_at hs 13 12 (by kernel_rfl) (shut_at hs 14 13 (by kernel_rfl) (shut_at hs 22 14 (by kernel_rfl) (shut_at hs 24 22 (by kernel_rfl) (shut_at hs 32 24 (by kernel_rfl) (h)))))))
      refine opIn_run_g (v := .slice (some ⟨bq, oq, none⟩) m4 c6) (w' := w') (j := 6) (b := true) rfl rfl (by simp [yielded, y0, y1, y2, y3, y4, y5, y6, n20, n32, hL]) (fun c h => by cases h) (fun _ => trivial) ?_ ⟨A1, c1, A2, c2, by simp [Act.put, upd, y0, y1, y2, y3, y4, y5, y6, n20, n32, hL], hcm, by simpa [upd] using hph⟩
      simp only [y0, y1, y2, y3, y4, y5, y6, n20, n32, hL, cond_true, cond_false]
      go_simp
    · skip
      have y0 : L 0 = true := shut_at hs 1 0 (by kernel_rfl) (shut_at hs 5 1 (by kernel_rfl) (shut_at hs 6 5 (by kernel_rfl) (up_at hu 6 (by kernel_rfl))))
      have y1 : L 1 = true := shut_at hs 5 1 (by kernel_rfl) (shut_at hs 6 5 (by kernel_rfl) (up_at hu 6 (by kernel_rfl)))
      have y2 : L 2 = true := shut_at hs 3 2 (by kernel_rfl) (shut_at hs 4 3 (by kernel_rfl) (shut_at hs 5 4 (by kernel_rfl) (shut_at hs 6 5 (by kernel_rfl) (up_at hu 6 (by kernel_rfl)))))
      have y3 : L 3 = true := shut_at hs 4 3 (by kernel_rfl) (shut_at hs 5 4 (by kernel_rfl) (shut_at hs 6 5 (by kernel_rfl) (up_at hu 6 (by kernel_rfl))))
      have y4 : L 4 = true := shut_at hs 5 4 (by kernel_rfl) (shut_at hs 6 5 (by kernel_rfl) (up_at hu 6 (by kernel_rfl)))
      have y5 : L 5 = true := shut_at hs 6 5 (by kernel_rfl) (up_at hu 6 (by kernel_rfl))
      have y6 : L 6 = true := up_at hu 6 (by kernel_rfl)
      have y7 : L 7 = true := up_at hu 7 (by kernel_rfl)
      have n20 : L 20 = false := not_yet hL fun h => shut_at hs 12 8 (by kernel_rfl) (shut_at hs 13 12 (by kernel_rfl) (shut_at hs 14 13 (by kernel_rfl) (shut_at hs 20 14 (by kernel_rfl) (h))))
      have n32 : L 32 = false := not_yet hL fun h => shut_at hs 12 8 (by kernel_rfl) (shut_at hs 13 12 (by kernel_rfl) (shut_at hs 14 13 (by kernel_rfl) (shut_at hs 22 14 (by kernel_rfl) (shut_at hs 24 22 (by kernel_rfl) (shut_at hs 32 24 (by kernel_rfl) (h))))))
      refine opIn_run_g (v := .int .i64 (m4 : Int)) (w' := w') (j := 6) (b := true) rfl rfl (by simp [yielded, y0, y1, y2, y3, y4, y5, y6, y7, n20, n32, hL]) (fun c h => by cases h) (fun _ => trivial) ?_ ⟨A1, c1, A2, c2, by simp [Act.put, upd, y0, y1, y2, y3, y4, y5, y6, y7, n20, n32, hL], hcm, by simpa [upd] using hph⟩
      simp only [y0, y1, y2, y3, y4, y5, y6, y7, n20, n32, hL, cond_true, cond_false]
      go_simp
    · skip
      have y0 : L 0 = true := shut_at hs 1 0 (by kernel_rfl) (shut_at hs 5 1 (by kernel_rfl) (shut_at hs 6 5 (by kernel_rfl) (up_at hu 6 (by kernel_rfl))))
      have y1 : L 1 = true := shut_at hs 5 1 (by kernel_rfl) (shut_at hs 6 5 (by kernel_rfl) (up_at hu 6 (by kernel_rfl)))
      have y2 : L 2 = true := shut_at hs 3 2 (by kernel_rfl) (shut_at hs 4 3 (by kernel_rfl) (shut_at hs 5 4 (by kernel_rfl) (shut_at hs 6 5 (by kernel_rfl) (up_at hu 6 (by kernel_rfl)))))
      have y3 : L 3 = true := shut_at hs 4 3 (by kernel_rfl) (shut_at hs 5 4 (by kernel_rfl) (shut_at hs 6 5 (by kernel_rfl) (up_at hu 6 (by kernel_rfl))))
      have y4 : L 4 = true := shut_at hs 5 4 (by kernel_rfl) (shut_at hs 6 5 (by kernel_rfl) (up_at hu 6 (by kernel_rfl)))
      have y5 : L 5 = true := shut_at hs 6 5 (by kernel_rfl) (up_at hu 6 (by kernel_rfl))
      have y6 : L 6 = true := up_at hu 6 (by kernel_rfl)
      have n20 : L 20 = false := not_yet hL fun h => shut_at hs 10 9 (by kernel_rfl) (shut_at hs 11 10 (by kernel_rfl) (shut_at hs 12 11 (by kernel_rfl) (shut_at hs 13 12 (by kernel_rfl) (shut_at hs 14 13 (by kernel_rfl) (shut_at hs 20 14 (by kernel_rfl) (h))))))
      have n32 : L 32 = false := not_yet hL fun h => shut_at hs 10 9 (by kernel_rfl) (shut_at hs 11 10 (by kernel_rfl) (shut_at hs 12 11 (by kernel_rfl) (shut_at hs 13 12 (by kernel_rfl) (shut_at hs 14 13 (by kernel_rfl) (shut_at hs 22 14 (by kernel_rfl) (shut_at hs 24 22 (by kernel_rfl) (shut_at hs 32 24 (by kernel_rfl) (h))))))))
      refine opIn_run_g (v := .int .i64 (s : Int)) (w' := w') (j := 6) (b := true) rfl rfl (by simp [yielded, y0, y1, y2, y3, y4, y5, y6, n20, n32, hL]) (fun c h => by cases h) (fun _ => trivial) ?_ ⟨A1, c1, A2, c2, by simp [Act.put, upd, y0, y1, y2, y3, y4, y5, y6, n20, n32, hL], hcm, by simpa [upd] using hph⟩
      simp only [y0, y1, y2, y3, y4, y5, y6, n20, n32, hL, cond_true, cond_false]
      go_simp
    · skip
      have y0 : L 0 = true := shut_at hs 1 0 (by kernel_rfl) (shut_at hs 5 1 (by kernel_rfl) (shut_at hs 6 5 (by kernel_rfl) (up_at hu 6 (by kernel_rfl))))
      have y1 : L 1 = true := shut_at hs 5 1 (by kernel_rfl) (shut_at hs 6 5 (by kernel_rfl) (up_at hu 6 (by kernel_rfl)))
      have y2 : L 2 = true := shut_at hs 3 2 (by kernel_rfl) (shut_at hs 4 3 (by kernel_rfl) (shut_at hs 5 4 (by kernel_rfl) (shut_at hs 6 5 (by kernel_rfl) (up_at hu 6 (by kernel_rfl)))))
      have y3 : L 3 = true := shut_at hs 4 3 (by kernel_rfl) (shut_at hs 5 4 (by kernel_rfl) (shut_at hs 6 5 (by kernel_rfl) (up_at hu 6 (by kernel_rfl))))
      have y4 : L 4 = true := shut_at hs 5 4 (by kernel_rfl) (shut_at hs 6 5 (by kernel_rfl) (up_at hu 6 (by kernel_rfl)))
      have y5 : L 5 = true := shut_at hs 6 5 (by kernel_rfl) (up_at hu 6 (by kernel_rfl))
      have y6 : L 6 = true := up_at hu 6 (by kernel_rfl)
      have y9 : L 9 = true := up_at hu 9 (by kernel_rfl)
      have n20 : L 20 = false := not_yet hL fun h => shut_at hs 11 10 (by kernel_rfl) (shut_at hs 12 11 (by kernel_rfl) (shut_at hs 13 12 (by kernel_rfl) (shut_at hs 14 13 (by kernel_rfl) (shut_at hs 20 14 (by kernel_rfl) (h)))))
      have n32 : L 32 = false := not_yet hL fun h => shut_at hs 11 10 (by kernel_rfl) (shut_at hs 12 11 (by kernel_rfl) (shut_at hs 13 12 (by kernel_rfl) (shut_at hs 14 13 (by kernel_rfl) (shut_at hs 22 14 (by kernel_rfl) (shut_at hs 24 22 (by kernel_rfl) (shut_at hs 32 24 (by kernel_rfl) (h)))))))
      refine opIn_run_g (v := .int .i64 (k4 : Int)) (w' := w') (j := 6) (b := true) rfl rfl (by simp [yielded, y0, y1, y2, y3, y4, y5, y6, y9, n20, n32, hL]) (fun c h => by cases h) (fun _ => trivial) ?_ ⟨A1, c1, A2, c2, by simp [Act.put, upd, y0, y1, y2, y3, y4, y5, y6, y9, n20, n32, hL], hcm, by simpa [upd] using hph⟩
      simp only [y0, y1, y2, y3, y4, y5, y6, y9, n20, n32, hL, cond_true, cond_false]
      go_simp
    · skip
      have y0 : L 0 = true := shut_at hs 1 0 (by kernel_rfl) (shut_at hs 5 1 (by kernel_rfl) (shut_at hs 6 5 (by kernel_rfl) (up_at hu 6 (by kernel_rfl))))
      have y1 : L 1 = true := shut_at hs 5 1 (by kernel_rfl) (shut_at hs 6 5 (by kernel_rfl) (up_at hu 6 (by kernel_rfl)))
      have y2 : L 2 = true := shut_at hs 3 2 (by kernel_rfl) (shut_at hs 4 3 (by kernel_rfl) (shut_at hs 5 4 (by kernel_rfl) (shut_at hs 6 5 (by kernel_rfl) (up_at hu 6 (by kernel_rfl)))))
      have y3 : L 3 = true := shut_at hs 4 3 (by kernel_rfl) (shut_at hs 5 4 (by kernel_rfl) (shut_at hs 6 5 (by kernel_rfl) (up_at hu 6 (by kernel_rfl))))
      have y4 : L 4 = true := shut_at hs 5 4 (by kernel_rfl) (shut_at hs 6 5 (by kernel_rfl) (up_at hu 6 (by kernel_rfl)))
      have y5 : L 5 = true := shut_at hs 6 5 (by kernel_rfl) (up_at hu 6 (by kernel_rfl))
      have y6 : L 6 = true := up_at hu 6 (by kernel_rfl)
      have y9 : L 9 = true := shut_at hs 10 9 (by kernel_rfl) (up_at hu 10 (by kernel_rfl))
      have y10 : L 10 = true := up_at hu 10 (by kernel_rfl)
      have n20 : L 20 = false := not_yet hL fun h => shut_at hs 12 11 (by kernel_rfl) (shut_at hs 13 12 (by kernel_rfl) (shut_at hs 14 13 (by kernel_rfl) (shut_at hs 20 14 (by kernel_rfl) (h))))
      have n32 : L 32 = false := not_yet hL fun h => shut_at hs 12 11 (by kernel_rfl) (shut_at hs 13 12 (by kernel_rfl) (shut_at hs 14 13 (by kernel_rfl) (shut_at hs 22 14 (by kernel_rfl) (shut_at hs 24 22 (by kernel_rfl) (shut_at hs 32 24 (by kernel_rfl) (h))))))
      refine opIn_run_g (v := .int .i64 (m4 : Int)) (w' := w') (j := 6) (b := true) rfl rfl (by simp [yielded, y0, y1, y2, y3, y4, y5, y6, y9, y10, n20, n32, hL]) (fun c h => by cases h) (fun _ => trivial) ?_ ⟨A1, c1, A2, c2, by simp [Act.put, upd, y0, y1, y2, y3, y4, y5, y6, y9, y10, n20, n32, hL], hcm, by simpa [upd] using hph⟩
      simp only [y0, y1, y2, y3, y4, y5, y6, y9, y10, n20, n32, hL, cond_true, cond_false]
      go_simp
    · skip
      have y0 : L 0 = true := shut_at hs 1 0 (by kernel_rfl) (shut_at hs 5 1 (by kernel_rfl) (shut_at hs 6 5 (by kernel_rfl) (up_at hu 6 (by kernel_rfl))))
      have y1 : L 1 = true := shut_at hs 5 1 (by kernel_rfl) (shut_at hs 6 5 (by kernel_rfl) (up_at hu 6 (by kernel_rfl)))
      have y2 : L 2 = true := shut_at hs 3 2 (by kernel_rfl) (shut_at hs 4 3 (by kernel_rfl) (shut_at hs 5 4 (by kernel_rfl) (shut_at hs 6 5 (by kernel_rfl) (up_at hu 6 (by kernel_rfl)))))
      have y3 : L 3 = true := shut_at hs 4 3 (by kernel_rfl) (shut_at hs 5 4 (by kernel_rfl) (shut_at hs 6 5 (by kernel_rfl) (up_at hu 6 (by kernel_rfl))))
      have y4 : L 4 = true := shut_at hs 5 4 (by kernel_rfl) (shut_at hs 6 5 (by kernel_rfl) (up_at hu 6 (by kernel_rfl)))
      have y5 : L 5 = true := shut_at hs 6 5 (by kernel_rfl) (up_at hu 6 (by kernel_rfl))
      have y6 : L 6 = true := up_at hu 6 (by kernel_rfl)
      have y7 : L 7 = true := shut_at hs 8 7 (by kernel_rfl) (up_at hu 8 (by kernel_rfl))
      have y8 : L 8 = true := up_at hu 8 (by kernel_rfl)
      have y9 : L 9 = true := shut_at hs 10 9 (by kernel_rfl) (shut_at hs 11 10 (by kernel_rfl) (up_at hu 11 (by kernel_rfl)))
      have y10 : L 10 = true := shut_at hs 11 10 (by kernel_rfl) (up_at hu 11 (by kernel_rfl))
      have y11 : L 11 = true := up_at hu 11 (by kernel_rfl)
      have n20 : L 20 = false := not_yet hL fun h => shut_at hs 13 12 (by kernel_rfl) (shut_at hs 14 13 (by kernel_rfl) (shut_at hs 20 14 (by kernel_rfl) (h)))
      have n32 : L 32 = false := not_yet hL fun h => shut_at hs 13 12 (by kernel_rfl) (shut_at hs 14 13 (by kernel_rfl) (shut_at hs 22 14 (by kernel_rfl) (shut_at hs 24 22 (by kernel_rfl) (shut_at hs 32 24 (by kernel_rfl) (h)))))
      refine opIn_run_g (v := .bool true) (w' := w') (j := 6) (b := true) rfl rfl (by simp [yielded, y0, y1, y2, y3, y4, y5, y6, y7, y8, y9, y10, y11, n20, n32, hL]) (fun c h => by cases h) (fun _ => trivial) ?_ ⟨A1, c1, A2, c2, by simp [Act.put, upd, y0, y1, y2, y3, y4, y5, y6, y7, y8, y9, y10, y11, n20, n32, hL], hcm, by simpa [upd] using hph⟩
      simp only [y0, y1, y2, y3, y4, y5, y6, y7, y8, y9, y10, y11, n20, n32, hL, cond_true, cond_false]
      go_simp
    · skip
      have y0 : L 0 = true := shut_at hs 1 0 (by kernel_rfl) (shut_at hs 5 1 (by kernel_rfl) (shut_at hs 6 5 (by kernel_rfl) (up_at hu 6 (by kernel_rfl))))
      have y1 : L 1 = true := shut_at hs 5 1 (by kernel_rfl) (shut_at hs 6 5 (by kernel_rfl) (up_at hu 6 (by kernel_rfl)))
      have y2 : L 2 = true := shut_at hs 3 2 (by kernel_rfl) (shut_at hs 4 3 (by kernel_rfl) (shut_at hs 5 4 (by kernel_rfl) (shut_at hs 6 5 (by kernel_rfl) (up_at hu 6 (by kernel_rfl)))))
      have y3 : L 3 = true := shut_at hs 4 3 (by kernel_rfl) (shut_at hs 5 4 (by kernel_rfl) (shut_at hs 6 5 (by kernel_rfl) (up_at hu 6 (by kernel_rfl))))
      have y4 : L 4 = true := shut_at hs 5 4 (by kernel_rfl) (shut_at hs 6 5 (by kernel_rfl) (up_at hu 6 (by kernel_rfl)))
      have y5 : L 5 = true := shut_at hs 6 5 (by kernel_rfl) (up_at hu 6 (by kernel_rfl))
      have y6 : L 6 = true := up_at hu 6 (by kernel_rfl)
      have y7 : L 7 = true := shut_at hs 8 7 (by kernel_rfl) (shut_at hs 12 8 (by kernel_rfl) (up_at hu 12 (by kernel_rfl)))
      have y8 : L 8 = true := shut_at hs 12 8 (by kernel_rfl) (up_at hu 12 (by kernel_rfl))
      have y9 : L 9 = true := shut_at hs 10 9 (by kernel_rfl) (shut_at hs 11 10 (by kernel_rfl) (shut_at hs 12 11 (by kernel_rfl) (up_at hu 12 (by kernel_rfl))))
      have y10 : L 10 = true := shut_at hs 11 10 (by kernel_rfl) (shut_at hs 12 11 (by kernel_rfl) (up_at hu 12 (by kernel_rfl)))
      have y11 : L 11 = true := shut_at hs 12 11 (by kernel_rfl) (up_at hu 12 (by kernel_rfl))
      have y12 : L 12 = true := up_at hu 12 (by kernel_rfl)
      have n20 : L 20 = false := not_yet hL fun h => shut_at hs 14 13 (by kernel_rfl) (shut_at hs 20 14 (by kernel_rfl) (h))
      have n32 : L 32 = false := not_yet hL fun h => shut_at hs 14 13 (by kernel_rfl) (shut_at hs 22 14 (by kernel_rfl) (shut_at hs 24 22 (by kernel_rfl) (shut_at hs 32 24 (by kernel_rfl) (h))))
      refine opIn_run (v := .bool true) (w' := w') rfl rfl (fun c h => by cases h) (fun _ => trivial) ?_ ⟨A1, c1, A2, c2, by simp [Act.put, upd, y0, y1, y2, y3, y4, y5, y6, y7, y8, y9, y10, y11, y12, n20, n32, hL], hcm, by simpa [upd] using hph⟩
      simp only [y0, y1, y2, y3, y4, y5, y6, y7, y8, y9, y10, y11, y12, n20, n32, hL, cond_true, cond_false]
      go_simp
    · skip
      have y0 : L 0 = true := shut_at hs 1 0 (by kernel_rfl) (shut_at hs 5 1 (by kernel_rfl) (shut_at hs 6 5 (by kernel_rfl) (up_at hu 6 (by kernel_rfl))))
      have y1 : L 1 = true := shut_at hs 5 1 (by kernel_rfl) (shut_at hs 6 5 (by kernel_rfl) (up_at hu 6 (by kernel_rfl)))
      have y2 : L 2 = true := shut_at hs 3 2 (by kernel_rfl) (shut_at hs 4 3 (by kernel_rfl) (shut_at hs 5 4 (by kernel_rfl) (shut_at hs 6 5 (by kernel_rfl) (up_at hu 6 (by kernel_rfl)))))
      have y3 : L 3 = true := shut_at hs 4 3 (by kernel_rfl) (shut_at hs 5 4 (by kernel_rfl) (shut_at hs 6 5 (by kernel_rfl) (up_at hu 6 (by kernel_rfl))))
      have y4 : L 4 = true := shut_at hs 5 4 (by kernel_rfl) (shut_at hs 6 5 (by kernel_rfl) (up_at hu 6 (by kernel_rfl)))
      have y5 : L 5 = true := shut_at hs 6 5 (by kernel_rfl) (up_at hu 6 (by kernel_rfl))
      have y6 : L 6 = true := up_at hu 6 (by kernel_rfl)
      have y7 : L 7 = true := shut_at hs 8 7 (by kernel_rfl) (shut_at hs 12 8 (by kernel_rfl) (shut_at hs 13 12 (by kernel_rfl) (up_at hu 13 (by kernel_rfl))))
      have y8 : L 8 = true := shut_at hs 12 8 (by kernel_rfl) (shut_at hs 13 12 (by kernel_rfl) (up_at hu 13 (by kernel_rfl)))
      have y9 : L 9 = true := shut_at hs 10 9 (by kernel_rfl) (shut_at hs 11 10 (by kernel_rfl) (shut_at hs 12 11 (by kernel_rfl) (shut_at hs 13 12 (by kernel_rfl) (up_at hu 13 (by kernel_rfl)))))
      have y10 : L 10 = true := shut_at hs 11 10 (by kernel_rfl) (shut_at hs 12 11 (by kernel_rfl) (shut_at hs 13 12 (by kernel_rfl) (up_at hu 13 (by kernel_rfl))))
      have y11 : L 11 = true := shut_at hs 12 11 (by kernel_rfl) (shut_at hs 13 12 (by kernel_rfl) (up_at hu 13 (by kernel_rfl)))
      have y12 : L 12 = true := shut_at hs 13 12 (by kernel_rfl) (up_at hu 13 (by kernel_rfl))
      have y13 : L 13 = true := up_at hu 13 (by kernel_rfl)
      have n20 : L 20 = false := not_yet hL fun h => shut_at hs 20 14 (by kernel_rfl) (h)
      have n32 : L 32 = false := not_yet hL fun h => shut_at hs 22 14 (by kernel_rfl) (shut_at hs 24 22 (by kernel_rfl) (shut_at hs 32 24 (by kernel_rfl) (h)))
      refine opIn_run (v := .bool true) (w' := w') rfl rfl (fun c h => by cases h) (fun _ => trivial) ?_ ⟨A1, c1, A2, c2, by simp [Act.put, upd, y0, y1, y2, y3, y4, y5, y6, y7, y8, y9, y10, y11, y12, y13, n20, n32, hL], hcm, by simpa [upd] using hph⟩
      simp only [y0, y1, y2, y3, y4, y5, y6, y7, y8, y9, y10, y11, y12, y13, n20, n32, hL, cond_true, cond_false]
      go_simp
    · skip
      have y0 : L 0 = true := shut_at hs 1 0 (by kernel_rfl) (shut_at hs 5 1 (by kernel_rfl) (shut_at hs 6 5 (by kernel_rfl) (shut_at hs 14 6 (by kernel_rfl) (up_at hu 14 (by kernel_rfl)))))
      have y1 : L 1 = true := shut_at hs 5 1 (by kernel_rfl) (shut_at hs 6 5 (by kernel_rfl) (shut_at hs 14 6 (by kernel_rfl) (up_at hu 14 (by kernel_rfl))))
      have y2 : L 2 = true := shut_at hs 3 2 (by kernel_rfl) (shut_at hs 4 3 (by kernel_rfl) (shut_at hs 5 4 (by kernel_rfl) (shut_at hs 6 5 (by kernel_rfl) (shut_at hs 14 6 (by kernel_rfl) (up_at hu 14 (by kernel_rfl))))))
      have y3 : L 3 = true := shut_at hs 4 3 (by kernel_rfl) (shut_at hs 5 4 (by kernel_rfl) (shut_at hs 6 5 (by kernel_rfl) (shut_at hs 14 6 (by kernel_rfl) (up_at hu 14 (by kernel_rfl)))))
      have y4 : L 4 = true := shut_at hs 5 4 (by kernel_rfl) (shut_at hs 6 5 (by kernel_rfl) (shut_at hs 14 6 (by kernel_rfl) (up_at hu 14 (by kernel_rfl))))
      have y5 : L 5 = true := shut_at hs 6 5 (by kernel_rfl) (shut_at hs 14 6 (by kernel_rfl) (up_at hu 14 (by kernel_rfl)))
      have y6 : L 6 = true := shut_at hs 14 6 (by kernel_rfl) (up_at hu 14 (by kernel_rfl))
      have y7 : L 7 = true := shut_at hs 8 7 (by kernel_rfl) (shut_at hs 12 8 (by kernel_rfl) (shut_at hs 13 12 (by kernel_rfl) (shut_at hs 14 13 (by kernel_rfl) (up_at hu 14 (by kernel_rfl)))))
      have y8 : L 8 = true := shut_at hs 12 8 (by kernel_rfl) (shut_at hs 13 12 (by kernel_rfl) (shut_at hs 14 13 (by kernel_rfl) (up_at hu 14 (by kernel_rfl))))
      have y9 : L 9 = true := shut_at hs 10 9 (by kernel_rfl) (shut_at hs 11 10 (by kernel_rfl) (shut_at hs 12 11 (by kernel_rfl) (shut_at hs 13 12 (by kernel_rfl) (shut_at hs 14 13 (by kernel_rfl) (up_at hu 14 (by kernel_rfl))))))
      have y10 : L 10 = true := shut_at hs 11 10 (by kernel_rfl) (shut_at hs 12 11 (by kernel_rfl) (shut_at hs 13 12 (by kernel_rfl) (shut_at hs 14 13 (by kernel_rfl) (up_at hu 14 (by kernel_rfl)))))
      have y11 : L 11 = true := shut_at hs 12 11 (by kernel_rfl) (shut_at hs 13 12 (by kernel_rfl) (shut_at hs 14 13 (by kernel_rfl) (up_at hu 14 (by kernel_rfl))))
      have y12 : L 12 = true := shut_at hs 13 12 (by kernel_rfl) (shut_at hs 14 13 (by kernel_rfl) (up_at hu 14 (by kernel_rfl)))
      have y13 : L 13 = true := shut_at hs 14 13 (by kernel_rfl) (up_at hu 14 (by kernel_rfl))
      have y14 : L 14 = true := up_at hu 14 (by kernel_rfl)
      have n20 : L 20 = false := not_yet hL fun h => shut_at hs 20 15 (by kernel_rfl) (h)
      have n32 : L 32 = false := not_yet hL fun h => shut_at hs 20 15 (by kernel_rfl) (shut_at hs 22 20 (by kernel_rfl) (shut_at hs 24 22 (by kernel_rfl) (shut_at hs 32 24 (by kernel_rfl) (h))))
      refine opIn_run_g (v := .agg #[.int .i64 r0, .int .i64 r1, .int .i64 r2, .int .i64 r3]) (w' := w') (j := 14) (b := true) rfl rfl (by simp [yielded, y0, y1, y2, y3, y4, y5, y6, y7, y8, y9, y10, y11, y12, y13, y14, n20, n32, hL]) (fun c h => by cases h) (fun _ => trivial) ?_ ⟨A1, c1, A2, c2, by simp [Act.put, upd, y0, y1, y2, y3, y4, y5, y6, y7, y8, y9, y10, y11, y12, y13, y14, n20, n32, hL], hcm, by simpa [upd] using hph⟩
      simp only [y0, y1, y2, y3, y4, y5, y6, y7, y8, y9, y10, y11, y12, y13, y14, n20, n32, hL, cond_true, cond_false]
      obtain ⟨x0, x1, x2, x3, _⟩ := (HXY.out.keep hcm HXY.out.lt).cells; go_simp
    · skip
      have y0 : L 0 = true := shut_at hs 1 0 (by kernel_rfl) (shut_at hs 5 1 (by kernel_rfl) (shut_at hs 6 5 (by kernel_rfl) (shut_at hs 14 6 (by kernel_rfl) (up_at hu 14 (by kernel_rfl)))))
      have y1 : L 1 = true := shut_at hs 5 1 (by kernel_rfl) (shut_at hs 6 5 (by kernel_rfl) (shut_at hs 14 6 (by kernel_rfl) (up_at hu 14 (by kernel_rfl))))
      have y2 : L 2 = true := shut_at hs 3 2 (by kernel_rfl) (shut_at hs 4 3 (by kernel_rfl) (shut_at hs 5 4 (by kernel_rfl) (shut_at hs 6 5 (by kernel_rfl) (shut_at hs 14 6 (by kernel_rfl) (up_at hu 14 (by kernel_rfl))))))
      have y3 : L 3 = true := shut_at hs 4 3 (by kernel_rfl) (shut_at hs 5 4 (by kernel_rfl) (shut_at hs 6 5 (by kernel_rfl) (shut_at hs 14 6 (by kernel_rfl) (up_at hu 14 (by kernel_rfl)))))
      have y4 : L 4 = true := shut_at hs 5 4 (by kernel_rfl) (shut_at hs 6 5 (by kernel_rfl) (shut_at hs 14 6 (by kernel_rfl) (up_at hu 14 (by kernel_rfl))))
      have y5 : L 5 = true := shut_at hs 6 5 (by kernel_rfl) (shut_at hs 14 6 (by kernel_rfl) (up_at hu 14 (by kernel_rfl)))
      have y6 : L 6 = true := shut_at hs 14 6 (by kernel_rfl) (up_at hu 14 (by kernel_rfl))
      have y7 : L 7 = true := shut_at hs 8 7 (by kernel_rfl) (shut_at hs 12 8 (by kernel_rfl) (shut_at hs 13 12 (by kernel_rfl) (shut_at hs 14 13 (by kernel_rfl) (up_at hu 14 (by kernel_rfl)))))
      have y8 : L 8 = true := shut_at hs 12 8 (by kernel_rfl) (shut_at hs 13 12 (by kernel_rfl) (shut_at hs 14 13 (by kernel_rfl) (up_at hu 14 (by kernel_rfl))))
      have y9 : L 9 = true := shut_at hs 10 9 (by kernel_rfl) (shut_at hs 11 10 (by kernel_rfl) (shut_at hs 12 11 (by kernel_rfl) (shut_at hs 13 12 (by kernel_rfl) (shut_at hs 14 13 (by kernel_rfl) (up_at hu 14 (by kernel_rfl))))))
      have y10 : L 10 = true := shut_at hs 11 10 (by kernel_rfl) (shut_at hs 12 11 (by kernel_rfl) (shut_at hs 13 12 (by kernel_rfl) (shut_at hs 14 13 (by kernel_rfl) (up_at hu 14 (by kernel_rfl)))))
      have y11 : L 11 = true := shut_at hs 12 11 (by kernel_rfl) (shut_at hs 13 12 (by kernel_rfl) (shut_at hs 14 13 (by kernel_rfl) (up_at hu 14 (by kernel_rfl))))
      have y12 : L 12 = true := shut_at hs 13 12 (by kernel_rfl) (shut_at hs 14 13 (by kernel_rfl) (up_at hu 14 (by kernel_rfl)))
      have y13 : L 13 = true := shut_at hs 14 13 (by kernel_rfl) (up_at hu 14 (by kernel_rfl))
      have y14 : L 14 = true := up_at hu 14 (by kernel_rfl)
      have n20 : L 20 = false := not_yet hL fun h => shut_at hs 20 16 (by kernel_rfl) (h)
      have n32 : L 32 = false := not_yet hL fun h => shut_at hs 20 16 (by kernel_rfl) (shut_at hs 22 20 (by kernel_rfl) (shut_at hs 24 22 (by kernel_rfl) (shut_at hs 32 24 (by kernel_rfl) (h))))
      refine opIn_run_g (v := .int .i64 (n : Int)) (w' := w') (j := 14) (b := true) rfl rfl (by simp [yielded, y0, y1, y2, y3, y4, y5, y6, y7, y8, y9, y10, y11, y12, y13, y14, n20, n32, hL]) (fun c h => by cases h) (fun _ => trivial) ?_ ⟨A1, c1, A2, c2, by simp [Act.put, upd, y0, y1, y2, y3, y4, y5, y6, y7, y8, y9, y10, y11, y12, y13, y14, n20, n32, hL], hcm, by simpa [upd] using hph⟩
      simp only [y0, y1, y2, y3, y4, y5, y6, y7, y8, y9, y10, y11, y12, y13, y14, n20, n32, hL, cond_true, cond_false]
      go_simp
    · skip
      have y0 : L 0 = true := shut_at hs 1 0 (by kernel_rfl) (shut_at hs 5 1 (by kernel_rfl) (shut_at hs 6 5 (by kernel_rfl) (shut_at hs 14 6 (by kernel_rfl) (up_at hu 14 (by kernel_rfl)))))
      have y1 : L 1 = true := shut_at hs 5 1 (by kernel_rfl) (shut_at hs 6 5 (by kernel_rfl) (shut_at hs 14 6 (by kernel_rfl) (up_at hu 14 (by kernel_rfl))))
      have y2 : L 2 = true := shut_at hs 3 2 (by kernel_rfl) (shut_at hs 4 3 (by kernel_rfl) (shut_at hs 5 4 (by kernel_rfl) (shut_at hs 6 5 (by kernel_rfl) (shut_at hs 14 6 (by kernel_rfl) (up_at hu 14 (by kernel_rfl))))))
      have y3 : L 3 = true := shut_at hs 4 3 (by kernel_rfl) (shut_at hs 5 4 (by kernel_rfl) (shut_at hs 6 5 (by kernel_rfl) (shut_at hs 14 6 (by kernel_rfl) (up_at hu 14 (by kernel_rfl)))))
      have y4 : L 4 = true := shut_at hs 5 4 (by kernel_rfl) (shut_at hs 6 5 (by kernel_rfl) (shut_at hs 14 6 (by kernel_rfl) (up_at hu 14 (by kernel_rfl))))
      have y5 : L 5 = true := shut_at hs 6 5 (by kernel_rfl) (shut_at hs 14 6 (by kernel_rfl) (up_at hu 14 (by kernel_rfl)))
      have y6 : L 6 = true := shut_at hs 14 6 (by kernel_rfl) (up_at hu 14 (by kernel_rfl))
      have y7 : L 7 = true := shut_at hs 8 7 (by kernel_rfl) (shut_at hs 12 8 (by kernel_rfl) (shut_at hs 13 12 (by kernel_rfl) (shut_at hs 14 13 (by kernel_rfl) (up_at hu 14 (by kernel_rfl)))))
      have y8 : L 8 = true := shut_at hs 12 8 (by kernel_rfl) (shut_at hs 13 12 (by kernel_rfl) (shut_at hs 14 13 (by kernel_rfl) (up_at hu 14 (by kernel_rfl))))
      have y9 : L 9 = true := shut_at hs 10 9 (by kernel_rfl) (shut_at hs 11 10 (by kernel_rfl) (shut_at hs 12 11 (by kernel_rfl) (shut_at hs 13 12 (by kernel_rfl) (shut_at hs 14 13 (by kernel_rfl) (up_at hu 14 (by kernel_rfl))))))
      have y10 : L 10 = true := shut_at hs 11 10 (by kernel_rfl) (shut_at hs 12 11 (by kernel_rfl) (shut_at hs 13 12 (by kernel_rfl) (shut_at hs 14 13 (by kernel_rfl) (up_at hu 14 (by kernel_rfl)))))
      have y11 : L 11 = true := shut_at hs 12 11 (by kernel_rfl) (shut_at hs 13 12 (by kernel_rfl) (shut_at hs 14 13 (by kernel_rfl) (up_at hu 14 (by kernel_rfl))))
      have y12 : L 12 = true := shut_at hs 13 12 (by kernel_rfl) (shut_at hs 14 13 (by kernel_rfl) (up_at hu 14 (by kernel_rfl)))
      have y13 : L 13 = true := shut_at hs 14 13 (by kernel_rfl) (up_at hu 14 (by kernel_rfl))
      have y14 : L 14 = true := up_at hu 14 (by kernel_rfl)
      have n20 : L 20 = false := not_yet hL fun h => shut_at hs 20 17 (by kernel_rfl) (h)
      have n32 : L 32 = false := not_yet hL fun h => shut_at hs 20 17 (by kernel_rfl) (shut_at hs 22 20 (by kernel_rfl) (shut_at hs 24 22 (by kernel_rfl) (shut_at hs 32 24 (by kernel_rfl) (h))))
      refine opIn_run_g (v := .slice A5 m3 c5) (w' := w') (j := 14) (b := true) rfl rfl (by simp [yielded, y0, y1, y2, y3, y4, y5, y6, y7, y8, y9, y10, y11, y12, y13, y14, n20, n32, hL]) (fun c h => by cases h) (fun _ => trivial) ?_ ⟨A1, c1, A2, c2, by simp [Act.put, upd, y0, y1, y2, y3, y4, y5, y6, y7, y8, y9, y10, y11, y12, y13, y14, n20, n32, hL], hcm, by simpa [upd] using hph⟩
      simp only [y0, y1, y2, y3, y4, y5, y6, y7, y8, y9, y10, y11, y12, y13, y14, n20, n32, hL, cond_true, cond_false]
      go_simp
    · skip
      have y0 : L 0 = true := shut_at hs 1 0 (by kernel_rfl) (shut_at hs 5 1 (by kernel_rfl) (shut_at hs 6 5 (by kernel_rfl) (shut_at hs 14 6 (by kernel_rfl) (up_at hu 14 (by kernel_rfl)))))
      have y1 : L 1 = true := shut_at hs 5 1 (by kernel_rfl) (shut_at hs 6 5 (by kernel_rfl) (shut_at hs 14 6 (by kernel_rfl) (up_at hu 14 (by kernel_rfl))))
      have y2 : L 2 = true := shut_at hs 3 2 (by kernel_rfl) (shut_at hs 4 3 (by kernel_rfl) (shut_at hs 5 4 (by kernel_rfl) (shut_at hs 6 5 (by kernel_rfl) (shut_at hs 14 6 (by kernel_rfl) (up_at hu 14 (by kernel_rfl))))))
      have y3 : L 3 = true := shut_at hs 4 3 (by kernel_rfl) (shut_at hs 5 4 (by kernel_rfl) (shut_at hs 6 5 (by kernel_rfl) (shut_at hs 14 6 (by kernel_rfl) (up_at hu 14 (by kernel_rfl)))))
      have y4 : L 4 = true := shut_at hs 5 4 (by kernel_rfl) (shut_at hs 6 5 (by kernel_rfl) (shut_at hs 14 6 (by kernel_rfl) (up_at hu 14 (by kernel_rfl))))
      have y5 : L 5 = true := shut_at hs 6 5 (by kernel_rfl) (shut_at hs 14 6 (by kernel_rfl) (up_at hu 14 (by kernel_rfl)))
      have y6 : L 6 = true := shut_at hs 14 6 (by kernel_rfl) (up_at hu 14 (by kernel_rfl))
      have y7 : L 7 = true := shut_at hs 8 7 (by kernel_rfl) (shut_at hs 12 8 (by kernel_rfl) (shut_at hs 13 12 (by kernel_rfl) (shut_at hs 14 13 (by kernel_rfl) (up_at hu 14 (by kernel_rfl)))))
      have y8 : L 8 = true := shut_at hs 12 8 (by kernel_rfl) (shut_at hs 13 12 (by kernel_rfl) (shut_at hs 14 13 (by kernel_rfl) (up_at hu 14 (by kernel_rfl))))
      have y9 : L 9 = true := shut_at hs 10 9 (by kernel_rfl) (shut_at hs 11 10 (by kernel_rfl) (shut_at hs 12 11 (by kernel_rfl) (shut_at hs 13 12 (by kernel_rfl) (shut_at hs 14 13 (by kernel_rfl) (up_at hu 14 (by kernel_rfl))))))
      have y10 : L 10 = true := shut_at hs 11 10 (by kernel_rfl) (shut_at hs 12 11 (by kernel_rfl) (shut_at hs 13 12 (by kernel_rfl) (shut_at hs 14 13 (by kernel_rfl) (up_at hu 14 (by kernel_rfl)))))
      have y11 : L 11 = true := shut_at hs 12 11 (by kernel_rfl) (shut_at hs 13 12 (by kernel_rfl) (shut_at hs 14 13 (by kernel_rfl) (up_at hu 14 (by kernel_rfl))))
      have y12 : L 12 = true := shut_at hs 13 12 (by kernel_rfl) (shut_at hs 14 13 (by kernel_rfl) (up_at hu 14 (by kernel_rfl)))
      have y13 : L 13 = true := shut_at hs 14 13 (by kernel_rfl) (up_at hu 14 (by kernel_rfl))
      have y14 : L 14 = true := up_at hu 14 (by kernel_rfl)
      have n20 : L 20 = false := not_yet hL fun h => shut_at hs 19 18 (by kernel_rfl) (shut_at hs 20 19 (by kernel_rfl) (h))
      have n32 : L 32 = false := not_yet hL fun h => shut_at hs 19 18 (by kernel_rfl) (shut_at hs 20 19 (by kernel_rfl) (shut_at hs 22 20 (by kernel_rfl) (shut_at hs 24 22 (by kernel_rfl) (shut_at hs 32 24 (by kernel_rfl) (h)))))
      refine opIn_run_g (v := .int .i64 (n : Int)) (w' := w') (j := 14) (b := true) rfl rfl (by simp [yielded, y0, y1, y2, y3, y4, y5, y6, y7, y8, y9, y10, y11, y12, y13, y14, n20, n32, hL]) (fun c h => by cases h) (fun _ => trivial) ?_ ⟨A1, c1, A2, c2, by simp [Act.put, upd, y0, y1, y2, y3, y4, y5, y6, y7, y8, y9, y10, y11, y12, y13, y14, n20, n32, hL], hcm, by simpa [upd] using hph⟩
      simp only [y0, y1, y2, y3, y4, y5, y6, y7, y8, y9, y10, y11, y12, y13, y14, n20, n32, hL, cond_true, cond_false]
      go_simp
    · skip
      have y0 : L 0 = true := shut_at hs 1 0 (by kernel_rfl) (shut_at hs 5 1 (by kernel_rfl) (shut_at hs 6 5 (by kernel_rfl) (shut_at hs 14 6 (by kernel_rfl) (up_at hu 14 (by kernel_rfl)))))
      have y1 : L 1 = true := shut_at hs 5 1 (by kernel_rfl) (shut_at hs 6 5 (by kernel_rfl) (shut_at hs 14 6 (by kernel_rfl) (up_at hu 14 (by kernel_rfl))))
      have y2 : L 2 = true := shut_at hs 3 2 (by kernel_rfl) (shut_at hs 4 3 (by kernel_rfl) (shut_at hs 5 4 (by kernel_rfl) (shut_at hs 6 5 (by kernel_rfl) (shut_at hs 14 6 (by kernel_rfl) (up_at hu 14 (by kernel_rfl))))))
      have y3 : L 3 = true := shut_at hs 4 3 (by kernel_rfl) (shut_at hs 5 4 (by kernel_rfl) (shut_at hs 6 5 (by kernel_rfl) (shut_at hs 14 6 (by kernel_rfl) (up_at hu 14 (by kernel_rfl)))))
      have y4 : L 4 = true := shut_at hs 5 4 (by kernel_rfl) (shut_at hs 6 5 (by kernel_rfl) (shut_at hs 14 6 (by kernel_rfl) (up_at hu 14 (by kernel_rfl))))
      have y5 : L 5 = true := shut_at hs 6 5 (by kernel_rfl) (shut_at hs 14 6 (by kernel_rfl) (up_at hu 14 (by kernel_rfl)))
      have y6 : L 6 = true := shut_at hs 14 6 (by kernel_rfl) (up_at hu 14 (by kernel_rfl))
      have y7 : L 7 = true := shut_at hs 8 7 (by kernel_rfl) (shut_at hs 12 8 (by kernel_rfl) (shut_at hs 13 12 (by kernel_rfl) (shut_at hs 14 13 (by kernel_rfl) (up_at hu 14 (by kernel_rfl)))))
      have y8 : L 8 = true := shut_at hs 12 8 (by kernel_rfl) (shut_at hs 13 12 (by kernel_rfl) (shut_at hs 14 13 (by kernel_rfl) (up_at hu 14 (by kernel_rfl))))
      have y9 : L 9 = true := shut_at hs 10 9 (by kernel_rfl) (shut_at hs 11 10 (by kernel_rfl) (shut_at hs 12 11 (by kernel_rfl) (shut_at hs 13 12 (by kernel_rfl) (shut_at hs 14 13 (by kernel_rfl) (up_at hu 14 (by kernel_rfl))))))
      have y10 : L 10 = true := shut_at hs 11 10 (by kernel_rfl) (shut_at hs 12 11 (by kernel_rfl) (shut_at hs 13 12 (by kernel_rfl) (shut_at hs 14 13 (by kernel_rfl) (up_at hu 14 (by kernel_rfl)))))
      have y11 : L 11 = true := shut_at hs 12 11 (by kernel_rfl) (shut_at hs 13 12 (by kernel_rfl) (shut_at hs 14 13 (by kernel_rfl) (up_at hu 14 (by kernel_rfl))))
      have y12 : L 12 = true := shut_at hs 13 12 (by kernel_rfl) (shut_at hs 14 13 (by kernel_rfl) (up_at hu 14 (by kernel_rfl)))
      have y13 : L 13 = true := shut_at hs 14 13 (by kernel_rfl) (up_at hu 14 (by kernel_rfl))
      have y14 : L 14 = true := up_at hu 14 (by kernel_rfl)
      have y18 : L 18 = true := up_at hu 18 (by kernel_rfl)
      have n20 : L 20 = false := not_yet hL fun h => shut_at hs 20 19 (by kernel_rfl) (h)
      have n32 : L 32 = false := not_yet hL fun h => shut_at hs 20 19 (by kernel_rfl) (shut_at hs 22 20 (by kernel_rfl) (shut_at hs 24 22 (by kernel_rfl) (shut_at hs 32 24 (by kernel_rfl) (h))))
      refine opIn_run_g (v := .int .i64 (n1 : Int)) (w' := w') (j := 14) (b := true) rfl rfl (by simp [yielded, y0, y1, y2, y3, y4, y5, y6, y7, y8, y9, y10, y11, y12, y13, y14, y18, n20, n32, hL]) (fun c h => by cases h) (fun _ => trivial) ?_ ⟨A1, c1, A2, c2, by simp [Act.put, upd, y0, y1, y2, y3, y4, y5, y6, y7, y8, y9, y10, y11, y12, y13, y14, y18, n20, n32, hL], hcm, by simpa [upd] using hph⟩
      simp only [y0, y1, y2, y3, y4, y5, y6, y7, y8, y9, y10, y11, y12, y13, y14, y18, n20, n32, hL, cond_true, cond_false]
      go_simp
    · skip
      have y0 : L 0 = true := shut_at hs 1 0 (by kernel_rfl) (shut_at hs 5 1 (by kernel_rfl) (shut_at hs 6 5 (by kernel_rfl) (shut_at hs 14 6 (by kernel_rfl) (up_at hu 14 (by kernel_rfl)))))
      have y1 : L 1 = true := shut_at hs 5 1 (by kernel_rfl) (shut_at hs 6 5 (by kernel_rfl) (shut_at hs 14 6 (by kernel_rfl) (up_at hu 14 (by kernel_rfl))))
      have y2 : L 2 = true := shut_at hs 3 2 (by kernel_rfl) (shut_at hs 4 3 (by kernel_rfl) (shut_at hs 5 4 (by kernel_rfl) (shut_at hs 6 5 (by kernel_rfl) (shut_at hs 14 6 (by kernel_rfl) (up_at hu 14 (by kernel_rfl))))))
      have y3 : L 3 = true := shut_at hs 4 3 (by kernel_rfl) (shut_at hs 5 4 (by kernel_rfl) (shut_at hs 6 5 (by kernel_rfl) (shut_at hs 14 6 (by kernel_rfl) (up_at hu 14 (by kernel_rfl)))))
      have y4 : L 4 = true := shut_at hs 5 4 (by kernel_rfl) (shut_at hs 6 5 (by kernel_rfl) (shut_at hs 14 6 (by kernel_rfl) (up_at hu 14 (by kernel_rfl))))
      have y5 : L 5 = true := shut_at hs 6 5 (by kernel_rfl) (shut_at hs 14 6 (by kernel_rfl) (up_at hu 14 (by kernel_rfl)))
      have y6 : L 6 = true := shut_at hs 14 6 (by kernel_rfl) (up_at hu 14 (by kernel_rfl))
      have y7 : L 7 = true := shut_at hs 8 7 (by kernel_rfl) (shut_at hs 12 8 (by kernel_rfl) (shut_at hs 13 12 (by kernel_rfl) (shut_at hs 14 13 (by kernel_rfl) (up_at hu 14 (by kernel_rfl)))))
      have y8 : L 8 = true := shut_at hs 12 8 (by kernel_rfl) (shut_at hs 13 12 (by kernel_rfl) (shut_at hs 14 13 (by kernel_rfl) (up_at hu 14 (by kernel_rfl))))
      have y9 : L 9 = true := shut_at hs 10 9 (by kernel_rfl) (shut_at hs 11 10 (by kernel_rfl) (shut_at hs 12 11 (by kernel_rfl) (shut_at hs 13 12 (by kernel_rfl) (shut_at hs 14 13 (by kernel_rfl) (up_at hu 14 (by kernel_rfl))))))
      have y10 : L 10 = true := shut_at hs 11 10 (by kernel_rfl) (shut_at hs 12 11 (by kernel_rfl) (shut_at hs 13 12 (by kernel_rfl) (shut_at hs 14 13 (by kernel_rfl) (up_at hu 14 (by kernel_rfl)))))
      have y11 : L 11 = true := shut_at hs 12 11 (by kernel_rfl) (shut_at hs 13 12 (by kernel_rfl) (shut_at hs 14 13 (by kernel_rfl) (up_at hu 14 (by kernel_rfl))))
      have y12 : L 12 = true := shut_at hs 13 12 (by kernel_rfl) (shut_at hs 14 13 (by kernel_rfl) (up_at hu 14 (by kernel_rfl)))
      have y13 : L 13 = true := shut_at hs 14 13 (by kernel_rfl) (up_at hu 14 (by kernel_rfl))
      have y14 : L 14 = true := up_at hu 14 (by kernel_rfl)
      have y15 : L 15 = true := up_at hu 15 (by kernel_rfl)
      have y16 : L 16 = true := up_at hu 16 (by kernel_rfl)
      have y17 : L 17 = true := up_at hu 17 (by kernel_rfl)
      have y18 : L 18 = true := shut_at hs 19 18 (by kernel_rfl) (up_at hu 19 (by kernel_rfl))
      have y19 : L 19 = true := up_at hu 19 (by kernel_rfl)
      have n32 : L 32 = false := not_yet hL fun h => shut_at hs 22 20 (by kernel_rfl) (shut_at hs 24 22 (by kernel_rfl) (shut_at hs 32 24 (by kernel_rfl) (h)))
      simp only [y0, y1, y2, y3, y4, y5, y6, y7, y8, y9, y10, y11, y12, y13, y14, y15, y16, y17, y18, y19, n32, hL, cond_true, cond_false] at hph
      refine opIn_call_g (f := 18) (args := #[.agg #[.int .i64 r0, .int .i64 r1, .int .i64 r2, .int .i64 r3], .int .i64 (n : Int), .slice A5 m3 c5, .int .i64 (n1 : Int)]) (w' := w') (j := 14) (b := true) rfl rfl (by simp [yielded, y0, y1, y2, y3, y4, y5, y6, y7, y8, y9, y10, y11, y12, y13, y14, y15, y16, y17, y18, y19, n32, hL]) (fun c h => by cases h) (fun _ => trivial) rfl ?_ ((callsIn_wide.2 (HJ1.out w' hcm)).mono ?_)
      · simp only [y0, y1, y2, y3, y4, y5, y6, y7, y8, y9, y10, y11, y12, y13, y14, y15, y16, y17, y18, y19, n32, hL, cond_true, cond_false]
        go_simp
      · rintro e w2 ⟨A', c', rfl, hr, hb⟩
        exact ⟨_, rfl, A', c', A2, c2, by simp [Act.put, upd, y0, y1, y2, y3, y4, y5, y6, y7, y8, y9, y10, y11, y12, y13, y14, y15, y16, y17, y18, y19, n32, hL], hcm.trans (hb.mono hcm.size), by simp only [upd, y0, y1, y2, y3, y4, y5, y6, y7, y8, y9, y10, y11, y12, y13, y14, y15, y16, y17, y18, y19, n32, hL]; exact hr⟩
    · skip
      have y0 : L 0 = true := shut_at hs 1 0 (by kernel_rfl) (shut_at hs 5 1 (by kernel_rfl) (shut_at hs 6 5 (by kernel_rfl) (shut_at hs 14 6 (by kernel_rfl) (up_at hu 14 (by kernel_rfl)))))
      have y1 : L 1 = true := shut_at hs 5 1 (by kernel_rfl) (shut_at hs 6 5 (by kernel_rfl) (shut_at hs 14 6 (by kernel_rfl) (up_at hu 14 (by kernel_rfl))))
      have y2 : L 2 = true := shut_at hs 3 2 (by kernel_rfl) (shut_at hs 4 3 (by kernel_rfl) (shut_at hs 5 4 (by kernel_rfl) (shut_at hs 6 5 (by kernel_rfl) (shut_at hs 14 6 (by kernel_rfl) (up_at hu 14 (by kernel_rfl))))))
      have y3 : L 3 = true := shut_at hs 4 3 (by kernel_rfl) (shut_at hs 5 4 (by kernel_rfl) (shut_at hs 6 5 (by kernel_rfl) (shut_at hs 14 6 (by kernel_rfl) (up_at hu 14 (by kernel_rfl)))))
      have y4 : L 4 = true := shut_at hs 5 4 (by kernel_rfl) (shut_at hs 6 5 (by kernel_rfl) (shut_at hs 14 6 (by kernel_rfl) (up_at hu 14 (by kernel_rfl))))
      have y5 : L 5 = true := shut_at hs 6 5 (by kernel_rfl) (shut_at hs 14 6 (by kernel_rfl) (up_at hu 14 (by kernel_rfl)))
      have y6 : L 6 = true := shut_at hs 14 6 (by kernel_rfl) (up_at hu 14 (by kernel_rfl))
      have y7 : L 7 = true := shut_at hs 8 7 (by kernel_rfl) (shut_at hs 12 8 (by kernel_rfl) (shut_at hs 13 12 (by kernel_rfl) (shut_at hs 14 13 (by kernel_rfl) (up_at hu 14 (by kernel_rfl)))))
      have y8 : L 8 = true := shut_at hs 12 8 (by kernel_rfl) (shut_at hs 13 12 (by kernel_rfl) (shut_at hs 14 13 (by kernel_rfl) (up_at hu 14 (by kernel_rfl))))
      have y9 : L 9 = true := shut_at hs 10 9 (by kernel_rfl) (shut_at hs 11 10 (by kernel_rfl) (shut_at hs 12 11 (by kernel_rfl) (shut_at hs 13 12 (by kernel_rfl) (shut_at hs 14 13 (by kernel_rfl) (up_at hu 14 (by kernel_rfl))))))
      have y10 : L 10 = true := shut_at hs 11 10 (by kernel_rfl) (shut_at hs 12 11 (by kernel_rfl) (shut_at hs 13 12 (by kernel_rfl) (shut_at hs 14 13 (by kernel_rfl) (up_at hu 14 (by kernel_rfl)))))
      have y11 : L 11 = true := shut_at hs 12 11 (by kernel_rfl) (shut_at hs 13 12 (by kernel_rfl) (shut_at hs 14 13 (by kernel_rfl) (up_at hu 14 (by kernel_rfl))))
      have y12 : L 12 = true := shut_at hs 13 12 (by kernel_rfl) (shut_at hs 14 13 (by kernel_rfl) (up_at hu 14 (by kernel_rfl)))
      have y13 : L 13 = true := shut_at hs 14 13 (by kernel_rfl) (up_at hu 14 (by kernel_rfl))
      have y14 : L 14 = true := up_at hu 14 (by kernel_rfl)
      have n32 : L 32 = false := not_yet hL fun h => shut_at hs 22 21 (by kernel_rfl) (shut_at hs 24 22 (by kernel_rfl) (shut_at hs 32 24 (by kernel_rfl) (h)))
      refine opIn_run_g (v := .slice Ap N cp) (w' := w') (j := 14) (b := true) rfl rfl (by simp [yielded, y0, y1, y2, y3, y4, y5, y6, y7, y8, y9, y10, y11, y12, y13, y14, n32, hL]) (fun c h => by cases h) (fun _ => trivial) ?_ ⟨A1, c1, A2, c2, by simp [Act.put, upd, y0, y1, y2, y3, y4, y5, y6, y7, y8, y9, y10, y11, y12, y13, y14, n32, hL], hcm, by simpa [upd] using hph⟩
      simp only [y0, y1, y2, y3, y4, y5, y6, y7, y8, y9, y10, y11, y12, y13, y14, n32, hL, cond_true, cond_false]
      go_simp
    · skip
      have y0 : L 0 = true := shut_at hs 1 0 (by kernel_rfl) (shut_at hs 5 1 (by kernel_rfl) (shut_at hs 6 5 (by kernel_rfl) (shut_at hs 14 6 (by kernel_rfl) (up_at hu 14 (by kernel_rfl)))))
      have y1 : L 1 = true := shut_at hs 5 1 (by kernel_rfl) (shut_at hs 6 5 (by kernel_rfl) (shut_at hs 14 6 (by kernel_rfl) (up_at hu 14 (by kernel_rfl))))
      have y2 : L 2 = true := shut_at hs 3 2 (by kernel_rfl) (shut_at hs 4 3 (by kernel_rfl) (shut_at hs 5 4 (by kernel_rfl) (shut_at hs 6 5 (by kernel_rfl) (shut_at hs 14 6 (by kernel_rfl) (up_at hu 14 (by kernel_rfl))))))
      have y3 : L 3 = true := shut_at hs 4 3 (by kernel_rfl) (shut_at hs 5 4 (by kernel_rfl) (shut_at hs 6 5 (by kernel_rfl) (shut_at hs 14 6 (by kernel_rfl) (up_at hu 14 (by kernel_rfl)))))
      have y4 : L 4 = true := shut_at hs 5 4 (by kernel_rfl) (shut_at hs 6 5 (by kernel_rfl) (shut_at hs 14 6 (by kernel_rfl) (up_at hu 14 (by kernel_rfl))))
      have y5 : L 5 = true := shut_at hs 6 5 (by kernel_rfl) (shut_at hs 14 6 (by kernel_rfl) (up_at hu 14 (by kernel_rfl)))
      have y6 : L 6 = true := shut_at hs 14 6 (by kernel_rfl) (up_at hu 14 (by kernel_rfl))
      have y7 : L 7 = true := shut_at hs 8 7 (by kernel_rfl) (shut_at hs 12 8 (by kernel_rfl) (shut_at hs 13 12 (by kernel_rfl) (shut_at hs 14 13 (by kernel_rfl) (up_at hu 14 (by kernel_rfl)))))
      have y8 : L 8 = true := shut_at hs 12 8 (by kernel_rfl) (shut_at hs 13 12 (by kernel_rfl) (shut_at hs 14 13 (by kernel_rfl) (up_at hu 14 (by kernel_rfl))))
      have y9 : L 9 = true := shut_at hs 10 9 (by kernel_rfl) (shut_at hs 11 10 (by kernel_rfl) (shut_at hs 12 11 (by kernel_rfl) (shut_at hs 13 12 (by kernel_rfl) (shut_at hs 14 13 (by kernel_rfl) (up_at hu 14 (by kernel_rfl))))))
      have y10 : L 10 = true := shut_at hs 11 10 (by kernel_rfl) (shut_at hs 12 11 (by kernel_rfl) (shut_at hs 13 12 (by kernel_rfl) (shut_at hs 14 13 (by kernel_rfl) (up_at hu 14 (by kernel_rfl)))))
      have y11 : L 11 = true := shut_at hs 12 11 (by kernel_rfl) (shut_at hs 13 12 (by kernel_rfl) (shut_at hs 14 13 (by kernel_rfl) (up_at hu 14 (by kernel_rfl))))
      have y12 : L 12 = true := shut_at hs 13 12 (by kernel_rfl) (shut_at hs 14 13 (by kernel_rfl) (up_at hu 14 (by kernel_rfl)))
      have y13 : L 13 = true := shut_at hs 14 13 (by kernel_rfl) (up_at hu 14 (by kernel_rfl))
      have y14 : L 14 = true := up_at hu 14 (by kernel_rfl)
      have y15 : L 15 = true := shut_at hs 20 15 (by kernel_rfl) (up_at hu 20 (by kernel_rfl))
      have y16 : L 16 = true := shut_at hs 20 16 (by kernel_rfl) (up_at hu 20 (by kernel_rfl))
      have y17 : L 17 = true := shut_at hs 20 17 (by kernel_rfl) (up_at hu 20 (by kernel_rfl))
      have y18 : L 18 = true := shut_at hs 19 18 (by kernel_rfl) (shut_at hs 20 19 (by kernel_rfl) (up_at hu 20 (by kernel_rfl)))
      have y19 : L 19 = true := shut_at hs 20 19 (by kernel_rfl) (up_at hu 20 (by kernel_rfl))
      have y20 : L 20 = true := up_at hu 20 (by kernel_rfl)
      have y21 : L 21 = true := up_at hu 21 (by kernel_rfl)
      have n32 : L 32 = false := not_yet hL fun h => shut_at hs 24 22 (by kernel_rfl) (shut_at hs 32 24 (by kernel_rfl) (h))
      simp only [y0, y1, y2, y3, y4, y5, y6, y7, y8, y9, y10, y11, y12, y13, y14, y15, y16, y17, y18, y19, y20, y21, n32, hL, cond_true, cond_false] at hph
      refine opIn_call_g (f := 17) (args := #[.slice A1 N c1, .slice Ap N cp]) (w' := w') (j := 14) (b := true) rfl rfl (by simp [yielded, y0, y1, y2, y3, y4, y5, y6, y7, y8, y9, y10, y11, y12, y13, y14, y15, y16, y17, y18, y19, y20, y21, n32, hL]) (fun c h => by cases h) (fun _ => trivial) rfl ?_ ((callsIn_wide.2 (ints_q hph (HRY.out.keep hcm (Nat.le_refl _)))).mono ?_)
      · simp only [y0, y1, y2, y3, y4, y5, y6, y7, y8, y9, y10, y11, y12, y13, y14, y15, y16, y17, y18, y19, y20, y21, n32, hL, cond_true, cond_false]
        go_simp
      · rintro e w2 ⟨rfl, hd⟩
        exact ⟨_, rfl, A1, c1, A2, c2, by simp [Act.put, upd, y0, y1, y2, y3, y4, y5, y6, y7, y8, y9, y10, y11, y12, y13, y14, y15, y16, y17, y18, y19, y20, y21, n32, hL], hcm.trans ((Drew.blw hd).mono hcm.size), by simp only [upd, y0, y1, y2, y3, y4, y5, y6, y7, y8, y9, y10, y11, y12, y13, y14, y15, y16, y17, y18, y19, y20, y21, n32, hL]; exact hph.keep (Drew.blw hd) (Nat.le_refl _)⟩
    · skip
      have y0 : L 0 = true := shut_at hs 1 0 (by kernel_rfl) (shut_at hs 5 1 (by kernel_rfl) (shut_at hs 6 5 (by kernel_rfl) (shut_at hs 14 6 (by kernel_rfl) (up_at hu 14 (by kernel_rfl)))))
      have y1 : L 1 = true := shut_at hs 5 1 (by kernel_rfl) (shut_at hs 6 5 (by kernel_rfl) (shut_at hs 14 6 (by kernel_rfl) (up_at hu 14 (by kernel_rfl))))
      have y2 : L 2 = true := shut_at hs 3 2 (by kernel_rfl) (shut_at hs 4 3 (by kernel_rfl) (shut_at hs 5 4 (by kernel_rfl) (shut_at hs 6 5 (by kernel_rfl) (shut_at hs 14 6 (by kernel_rfl) (up_at hu 14 (by kernel_rfl))))))
      have y3 : L 3 = true := shut_at hs 4 3 (by kernel_rfl) (shut_at hs 5 4 (by kernel_rfl) (shut_at hs 6 5 (by kernel_rfl) (shut_at hs 14 6 (by kernel_rfl) (up_at hu 14 (by kernel_rfl)))))
      have y4 : L 4 = true := shut_at hs 5 4 (by kernel_rfl) (shut_at hs 6 5 (by kernel_rfl) (shut_at hs 14 6 (by kernel_rfl) (up_at hu 14 (by kernel_rfl))))
      have y5 : L 5 = true := shut_at hs 6 5 (by kernel_rfl) (shut_at hs 14 6 (by kernel_rfl) (up_at hu 14 (by kernel_rfl)))
      have y6 : L 6 = true := shut_at hs 14 6 (by kernel_rfl) (up_at hu 14 (by kernel_rfl))
      have y7 : L 7 = true := shut_at hs 8 7 (by kernel_rfl) (shut_at hs 12 8 (by kernel_rfl) (shut_at hs 13 12 (by kernel_rfl) (shut_at hs 14 13 (by kernel_rfl) (up_at hu 14 (by kernel_rfl)))))
      have y8 : L 8 = true := shut_at hs 12 8 (by kernel_rfl) (shut_at hs 13 12 (by kernel_rfl) (shut_at hs 14 13 (by kernel_rfl) (up_at hu 14 (by kernel_rfl))))
      have y9 : L 9 = true := shut_at hs 10 9 (by kernel_rfl) (shut_at hs 11 10 (by kernel_rfl) (shut_at hs 12 11 (by kernel_rfl) (shut_at hs 13 12 (by kernel_rfl) (shut_at hs 14 13 (by kernel_rfl) (up_at hu 14 (by kernel_rfl))))))
      have y10 : L 10 = true := shut_at hs 11 10 (by kernel_rfl) (shut_at hs 12 11 (by kernel_rfl) (shut_at hs 13 12 (by kernel_rfl) (shut_at hs 14 13 (by kernel_rfl) (up_at hu 14 (by kernel_rfl)))))
      have y11 : L 11 = true := shut_at hs 12 11 (by kernel_rfl) (shut_at hs 13 12 (by kernel_rfl) (shut_at hs 14 13 (by kernel_rfl) (up_at hu 14 (by kernel_rfl))))
      have y12 : L 12 = true := shut_at hs 13 12 (by kernel_rfl) (shut_at hs 14 13 (by kernel_rfl) (up_at hu 14 (by kernel_rfl)))
      have y13 : L 13 = true := shut_at hs 14 13 (by kernel_rfl) (up_at hu 14 (by kernel_rfl))
      have y14 : L 14 = true := up_at hu 14 (by kernel_rfl)
      have y15 : L 15 = true := shut_at hs 20 15 (by kernel_rfl) (shut_at hs 22 20 (by kernel_rfl) (up_at hu 22 (by kernel_rfl)))
      have y16 : L 16 = true := shut_at hs 20 16 (by kernel_rfl) (shut_at hs 22 20 (by kernel_rfl) (up_at hu 22 (by kernel_rfl)))
      have y17 : L 17 = true := shut_at hs 20 17 (by kernel_rfl) (shut_at hs 22 20 (by kernel_rfl) (up_at hu 22 (by kernel_rfl)))
      have y18 : L 18 = true := shut_at hs 19 18 (by kernel_rfl) (shut_at hs 20 19 (by kernel_rfl) (shut_at hs 22 20 (by kernel_rfl) (up_at hu 22 (by kernel_rfl))))
      have y19 : L 19 = true := shut_at hs 20 19 (by kernel_rfl) (shut_at hs 22 20 (by kernel_rfl) (up_at hu 22 (by kernel_rfl)))
      have y20 : L 20 = true := shut_at hs 22 20 (by kernel_rfl) (up_at hu 22 (by kernel_rfl))
      have y21 : L 21 = true := shut_at hs 22 21 (by kernel_rfl) (up_at hu 22 (by kernel_rfl))
      have y22 : L 22 = true := up_at hu 22 (by kernel_rfl)
      have n32 : L 32 = false := not_yet hL fun h => shut_at hs 24 23 (by kernel_rfl) (shut_at hs 32 24 (by kernel_rfl) (h))
      refine opIn_run (v := .bool true) (w' := w') rfl rfl (fun c h => by cases h) (fun _ => trivial) ?_ ⟨A1, c1, A2, c2, by simp [Act.put, upd, y0, y1, y2, y3, y4, y5, y6, y7, y8, y9, y10, y11, y12, y13, y14, y15, y16, y17, y18, y19, y20, y21, y22, n32, hL], hcm, by simpa [upd] using hph⟩
      simp only [y0, y1, y2, y3, y4, y5, y6, y7, y8, y9, y10, y11, y12, y13, y14, y15, y16, y17, y18, y19, y20, y21, y22, n32, hL, cond_true, cond_false]
      go_simp
    · skip
      have y0 : L 0 = true := shut_at hs 1 0 (by kernel_rfl) (shut_at hs 5 1 (by kernel_rfl) (shut_at hs 6 5 (by kernel_rfl) (shut_at hs 14 6 (by kernel_rfl) (shut_at hs 22 14 (by kernel_rfl) (up_at hu 22 (by kernel_rfl))))))
      have y1 : L 1 = true := shut_at hs 5 1 (by kernel_rfl) (shut_at hs 6 5 (by kernel_rfl) (shut_at hs 14 6 (by kernel_rfl) (shut_at hs 22 14 (by kernel_rfl) (up_at hu 22 (by kernel_rfl)))))
      have y2 : L 2 = true := shut_at hs 3 2 (by kernel_rfl) (shut_at hs 4 3 (by kernel_rfl) (shut_at hs 5 4 (by kernel_rfl) (shut_at hs 6 5 (by kernel_rfl) (shut_at hs 14 6 (by kernel_rfl) (shut_at hs 22 14 (by kernel_rfl) (up_at hu 22 (by kernel_rfl)))))))
      have y3 : L 3 = true := shut_at hs 4 3 (by kernel_rfl) (shut_at hs 5 4 (by kernel_rfl) (shut_at hs 6 5 (by kernel_rfl) (shut_at hs 14 6 (by kernel_rfl) (shut_at hs 22 14 (by kernel_rfl) (up_at hu 22 (by kernel_rfl))))))
      have y4 : L 4 = true := shut_at hs 5 4 (by kernel_rfl) (shut_at hs 6 5 (by kernel_rfl) (shut_at hs 14 6 (by kernel_rfl) (shut_at hs 22 14 (by kernel_rfl) (up_at hu 22 (by kernel_rfl)))))
      have y5 : L 5 = true := shut_at hs 6 5 (by kernel_rfl) (shut_at hs 14 6 (by kernel_rfl) (shut_at hs 22 14 (by kernel_rfl) (up_at hu 22 (by kernel_rfl))))
      have y6 : L 6 = true := shut_at hs 14 6 (by kernel_rfl) (shut_at hs 22 14 (by kernel_rfl) (up_at hu 22 (by kernel_rfl)))
      have y7 : L 7 = true := shut_at hs 8 7 (by kernel_rfl) (shut_at hs 12 8 (by kernel_rfl) (shut_at hs 13 12 (by kernel_rfl) (shut_at hs 14 13 (by kernel_rfl) (shut_at hs 22 14 (by kernel_rfl) (up_at hu 22 (by kernel_rfl))))))
      have y8 : L 8 = true := shut_at hs 12 8 (by kernel_rfl) (shut_at hs 13 12 (by kernel_rfl) (shut_at hs 14 13 (by kernel_rfl) (shut_at hs 22 14 (by kernel_rfl) (up_at hu 22 (by kernel_rfl)))))
      have y9 : L 9 = true := shut_at hs 10 9 (by kernel_rfl) (shut_at hs 11 10 (by kernel_rfl) (shut_at hs 12 11 (by kernel_rfl) (shut_at hs 13 12 (by kernel_rfl) (shut_at hs 14 13 (by kernel_rfl) (shut_at hs 22 14 (by kernel_rfl) (up_at hu 22 (by kernel_rfl)))))))
      have y10 : L 10 = true := shut_at hs 11 10 (by kernel_rfl) (shut_at hs 12 11 (by kernel_rfl) (shut_at hs 13 12 (by kernel_rfl) (shut_at hs 14 13 (by kernel_rfl) (shut_at hs 22 14 (by kernel_rfl) (up_at hu 22 (by kernel_rfl))))))
      have y11 : L 11 = true := shut_at hs 12 11 (by kernel_rfl) (shut_at hs 13 12 (by kernel_rfl) (shut_at hs 14 13 (by kernel_rfl) (shut_at hs 22 14 (by kernel_rfl) (up_at hu 22 (by kernel_rfl)))))
      have y12 : L 12 = true := shut_at hs 13 12 (by kernel_rfl) (shut_at hs 14 13 (by kernel_rfl) (shut_at hs 22 14 (by kernel_rfl) (up_at hu 22 (by kernel_rfl))))
      have y13 : L 13 = true := shut_at hs 14 13 (by kernel_rfl) (shut_at hs 22 14 (by kernel_rfl) (up_at hu 22 (by kernel_rfl)))
      have y14 : L 14 = true := shut_at hs 22 14 (by kernel_rfl) (up_at hu 22 (by kernel_rfl))
      have y15 : L 15 = true := shut_at hs 20 15 (by kernel_rfl) (shut_at hs 22 20 (by kernel_rfl) (up_at hu 22 (by kernel_rfl)))
      have y16 : L 16 = true := shut_at hs 20 16 (by kernel_rfl) (shut_at hs 22 20 (by kernel_rfl) (up_at hu 22 (by kernel_rfl)))
      have y17 : L 17 = true := shut_at hs 20 17 (by kernel_rfl) (shut_at hs 22 20 (by kernel_rfl) (up_at hu 22 (by kernel_rfl)))
      have y18 : L 18 = true := shut_at hs 19 18 (by kernel_rfl) (shut_at hs 20 19 (by kernel_rfl) (shut_at hs 22 20 (by kernel_rfl) (up_at hu 22 (by kernel_rfl))))
      have y19 : L 19 = true := shut_at hs 20 19 (by kernel_rfl) (shut_at hs 22 20 (by kernel_rfl) (up_at hu 22 (by kernel_rfl)))
      have y20 : L 20 = true := shut_at hs 22 20 (by kernel_rfl) (up_at hu 22 (by kernel_rfl))
      have y21 : L 21 = true := shut_at hs 22 21 (by kernel_rfl) (up_at hu 22 (by kernel_rfl))
      have y22 : L 22 = true := up_at hu 22 (by kernel_rfl)
      have y23 : L 23 = true := up_at hu 23 (by kernel_rfl)
      have n32 : L 32 = false := not_yet hL fun h => shut_at hs 32 24 (by kernel_rfl) (h)
      refine opIn_run (v := .bool true) (w' := w') rfl rfl (fun c h => by cases h) (fun _ => trivial) ?_ ⟨A1, c1, A2, c2, by simp [Act.put, upd, y0, y1, y2, y3, y4, y5, y6, y7, y8, y9, y10, y11, y12, y13, y14, y15, y16, y17, y18, y19, y20, y21, y22, y23, n32, hL], hcm, by simpa [upd] using hph⟩
      simp only [y0, y1, y2, y3, y4, y5, y6, y7, y8, y9, y10, y11, y12, y13, y14, y15, y16, y17, y18, y19, y20, y21, y22, y23, n32, hL, cond_true, cond_false]
      go_simp
    · skip
      have y0 : L 0 = true := shut_at hs 1 0 (by kernel_rfl) (shut_at hs 5 1 (by kernel_rfl) (shut_at hs 6 5 (by kernel_rfl) (shut_at hs 14 6 (by kernel_rfl) (shut_at hs 22 14 (by kernel_rfl) (shut_at hs 24 22 (by kernel_rfl) (up_at hu 24 (by kernel_rfl)))))))
      have y1 : L 1 = true := shut_at hs 5 1 (by kernel_rfl) (shut_at hs 6 5 (by kernel_rfl) (shut_at hs 14 6 (by kernel_rfl) (shut_at hs 22 14 (by kernel_rfl) (shut_at hs 24 22 (by kernel_rfl) (up_at hu 24 (by kernel_rfl))))))
      have y2 : L 2 = true := shut_at hs 3 2 (by kernel_rfl) (shut_at hs 4 3 (by kernel_rfl) (shut_at hs 5 4 (by kernel_rfl) (shut_at hs 6 5 (by kernel_rfl) (shut_at hs 14 6 (by kernel_rfl) (shut_at hs 22 14 (by kernel_rfl) (shut_at hs 24 22 (by kernel_rfl) (up_at hu 24 (by kernel_rfl))))))))
      have y3 : L 3 = true := shut_at hs 4 3 (by kernel_rfl) (shut_at hs 5 4 (by kernel_rfl) (shut_at hs 6 5 (by kernel_rfl) (shut_at hs 14 6 (by kernel_rfl) (shut_at hs 22 14 (by kernel_rfl) (shut_at hs 24 22 (by kernel_rfl) (up_at hu 24 (by kernel_rfl)))))))
      have y4 : L 4 = true := shut_at hs 5 4 (by kernel_rfl) (shut_at hs 6 5 (by kernel_rfl) (shut_at hs 14 6 (by kernel_rfl) (shut_at hs 22 14 (by kernel_rfl) (shut_at hs 24 22 (by kernel_rfl) (up_at hu 24 (by kernel_rfl))))))
      have y5 : L 5 = true := shut_at hs 6 5 (by kernel_rfl) (shut_at hs 14 6 (by kernel_rfl) (shut_at hs 22 14 (by kernel_rfl) (shut_at hs 24 22 (by kernel_rfl) (up_at hu 24 (by kernel_rfl)))))
      have y6 : L 6 = true := shut_at hs 14 6 (by kernel_rfl) (shut_at hs 22 14 (by kernel_rfl) (shut_at hs 24 22 (by kernel_rfl) (up_at hu 24 (by kernel_rfl))))
      have y7 : L 7 = true := shut_at hs 8 7 (by kernel_rfl) (shut_at hs 12 8 (by kernel_rfl) (shut_at hs 13 12 (by kernel_rfl) (shut_at hs 14 13 (by kernel_rfl) (shut_at hs 22 14 (by kernel_rfl) (shut_at hs 24 22 (by kernel_rfl) (up_at hu 24 (by kernel_rfl)))))))
      have y8 : L 8 = true := shut_at hs 12 8 (by kernel_rfl) (shut_at hs 13 12 (by kernel_rfl) (shut_at hs 14 13 (by kernel_rfl) (shut_at hs 22 14 (by kernel_rfl) (shut_at hs 24 22 (by kernel_rfl) (up_at hu 24 (by kernel_rfl))))))
      have y9 : L 9 = true := shut_at hs 10 9 (by kernel_rfl) (shut_at hs 11 10 (by kernel_rfl) (shut_at hs 12 11 (by kernel_rfl) (shut_at hs 13 12 (by kernel_rfl) (shut_at hs 14 13 (by kernel_rfl) (shut_at hs 22 14 (by kernel_rfl) (shut_at hs 24 22 (by kernel_rfl) (up_at hu 24 (by kernel_rfl))))))))
      have y10 : L 10 = true := shut_at hs 11 10 (by kernel_rfl) (shut_at hs 12 11 (by kernel_rfl) (shut_at hs 13 12 (by kernel_rfl) (shut_at hs 14 13 (by kernel_rfl) (shut_at hs 22 14 (by kernel_rfl) (shut_at hs 24 22 (by kernel_rfl) (up_at hu 24 (by kernel_rfl)))))))
      have y11 : L 11 = true := shut_at hs 12 11 (by kernel_rfl) (shut_at hs 13 12 (by kernel_rfl) (shut_at hs 14 13 (by kernel_rfl) (shut_at hs 22 14 (by kernel_rfl) (shut_at hs 24 22 (by kernel_rfl) (up_at hu 24 (by kernel_rfl))))))
      have y12 : L 12 = true := shut_at hs 13 12 (by kernel_rfl) (shut_at hs 14 13 (by kernel_rfl) (shut_at hs 22 14 (by kernel_rfl) (shut_at hs 24 22 (by kernel_rfl) (up_at hu 24 (by kernel_rfl)))))
      have y13 : L 13 = true := shut_at hs 14 13 (by kernel_rfl) (shut_at hs 22 14 (by kernel_rfl) (shut_at hs 24 22 (by kernel_rfl) (up_at hu 24 (by kernel_rfl))))
      have y14 : L 14 = true := shut_at hs 22 14 (by kernel_rfl) (shut_at hs 24 22 (by kernel_rfl) (up_at hu 24 (by kernel_rfl)))
      have y15 : L 15 = true := shut_at hs 20 15 (by kernel_rfl) (shut_at hs 22 20 (by kernel_rfl) (shut_at hs 24 22 (by kernel_rfl) (up_at hu 24 (by kernel_rfl))))
      have y16 : L 16 = true := shut_at hs 20 16 (by kernel_rfl) (shut_at hs 22 20 (by kernel_rfl) (shut_at hs 24 22 (by kernel_rfl) (up_at hu 24 (by kernel_rfl))))
      have y17 : L 17 = true := shut_at hs 20 17 (by kernel_rfl) (shut_at hs 22 20 (by kernel_rfl) (shut_at hs 24 22 (by kernel_rfl) (up_at hu 24 (by kernel_rfl))))
      have y18 : L 18 = true := shut_at hs 19 18 (by kernel_rfl) (shut_at hs 20 19 (by kernel_rfl) (shut_at hs 22 20 (by kernel_rfl) (shut_at hs 24 22 (by kernel_rfl) (up_at hu 24 (by kernel_rfl)))))
      have y19 : L 19 = true := shut_at hs 20 19 (by kernel_rfl) (shut_at hs 22 20 (by kernel_rfl) (shut_at hs 24 22 (by kernel_rfl) (up_at hu 24 (by kernel_rfl))))
      have y20 : L 20 = true := shut_at hs 22 20 (by kernel_rfl) (shut_at hs 24 22 (by kernel_rfl) (up_at hu 24 (by kernel_rfl)))
      have y21 : L 21 = true := shut_at hs 22 21 (by kernel_rfl) (shut_at hs 24 22 (by kernel_rfl) (up_at hu 24 (by kernel_rfl)))
      have y22 : L 22 = true := shut_at hs 24 22 (by kernel_rfl) (up_at hu 24 (by kernel_rfl))
      have y23 : L 23 = true := shut_at hs 24 23 (by kernel_rfl) (up_at hu 24 (by kernel_rfl))
      have y24 : L 24 = true := up_at hu 24 (by kernel_rfl)
      have n32 : L 32 = false := not_yet hL fun h => shut_at hs 32 25 (by kernel_rfl) (h)
      refine opIn_run_g (v := .agg #[.int .i64 r0, .int .i64 r1, .int .i64 r2, .int .i64 r3]) (w' := w') (j := 24) (b := true) rfl rfl (by simp [yielded, y0, y1, y2, y3, y4, y5, y6, y7, y8, y9, y10, y11, y12, y13, y14, y15, y16, y17, y18, y19, y20, y21, y22, y23, y24, n32, hL]) (fun c h => by cases h) (fun _ => trivial) ?_ ⟨A1, c1, A2, c2, by simp [Act.put, upd, y0, y1, y2, y3, y4, y5, y6, y7, y8, y9, y10, y11, y12, y13, y14, y15, y16, y17, y18, y19, y20, y21, y22, y23, y24, n32, hL], hcm, by simpa [upd] using hph⟩
      simp only [y0, y1, y2, y3, y4, y5, y6, y7, y8, y9, y10, y11, y12, y13, y14, y15, y16, y17, y18, y19, y20, y21, y22, y23, y24, n32, hL, cond_true, cond_false]
      obtain ⟨x0, x1, x2, x3, _⟩ := (HXY.out.keep hcm HXY.out.lt).cells; go_simp
    · skip
      have y0 : L 0 = true := shut_at hs 1 0 (by kernel_rfl) (shut_at hs 5 1 (by kernel_rfl) (shut_at hs 6 5 (by kernel_rfl) (shut_at hs 14 6 (by kernel_rfl) (shut_at hs 22 14 (by kernel_rfl) (shut_at hs 24 22 (by kernel_rfl) (up_at hu 24 (by kernel_rfl)))))))
      have y1 : L 1 = true := shut_at hs 5 1 (by kernel_rfl) (shut_at hs 6 5 (by kernel_rfl) (shut_at hs 14 6 (by kernel_rfl) (shut_at hs 22 14 (by kernel_rfl) (shut_at hs 24 22 (by kernel_rfl) (up_at hu 24 (by kernel_rfl))))))
      have y2 : L 2 = true := shut_at hs 3 2 (by kernel_rfl) (shut_at hs 4 3 (by kernel_rfl) (shut_at hs 5 4 (by kernel_rfl) (shut_at hs 6 5 (by kernel_rfl) (shut_at hs 14 6 (by kernel_rfl) (shut_at hs 22 14 (by kernel_rfl) (shut_at hs 24 22 (by kernel_rfl) (up_at hu 24 (by kernel_rfl))))))))
      have y3 : L 3 = true := shut_at hs 4 3 (by kernel_rfl) (shut_at hs 5 4 (by kernel_rfl) (shut_at hs 6 5 (by kernel_rfl) (shut_at hs 14 6 (by kernel_rfl) (shut_at hs 22 14 (by kernel_rfl) (shut_at hs 24 22 (by kernel_rfl) (up_at hu 24 (by kernel_rfl)))))))
      have y4 : L 4 = true := shut_at hs 5 4 (by kernel_rfl) (shut_at hs 6 5 (by kernel_rfl) (shut_at hs 14 6 (by kernel_rfl) (shut_at hs 22 14 (by kernel_rfl) (shut_at hs 24 22 (by kernel_rfl) (up_at hu 24 (by kernel_rfl))))))
      have y5 : L 5 = true := shut_at hs 6 5 (by kernel_rfl) (shut_at hs 14 6 (by kernel_rfl) (shut_at hs 22 14 (by kernel_rfl) (shut_at hs 24 22 (by kernel_rfl) (up_at hu 24 (by kernel_rfl)))))
      have y6 : L 6 = true := shut_at hs 14 6 (by kernel_rfl) (shut_at hs 22 14 (by kernel_rfl) (shut_at hs 24 22 (by kernel_rfl) (up_at hu 24 (by kernel_rfl))))
      have y7 : L 7 = true := shut_at hs 8 7 (by kernel_rfl) (shut_at hs 12 8 (by kernel_rfl) (shut_at hs 13 12 (by kernel_rfl) (shut_at hs 14 13 (by kernel_rfl) (shut_at hs 22 14 (by kernel_rfl) (shut_at hs 24 22 (by kernel_rfl) (up_at hu 24 (by kernel_rfl)))))))
      have y8 : L 8 = true := shut_at hs 12 8 (by kernel_rfl) (shut_at hs 13 12 (by kernel_rfl) (shut_at hs 14 13 (by kernel_rfl) (shut_at hs 22 14 (by kernel_rfl) (shut_at hs 24 22 (by kernel_rfl) (up_at hu 24 (by kernel_rfl))))))
      have y9 : L 9 = true := shut_at hs 10 9 (by kernel_rfl) (shut_at hs 11 10 (by kernel_rfl) (shut_at hs 12 11 (by kernel_rfl) (shut_at hs 13 12 (by kernel_rfl) (shut_at hs 14 13 (by kernel_rfl) (shut_at hs 22 14 (by kernel_rfl) (shut_at hs 24 22 (by kernel_rfl) (up_at hu 24 (by kernel_rfl))))))))
      have y10 : L 10 = true := shut_at hs 11 10 (by kernel_rfl) (shut_at hs 12 11 (by kernel_rfl) (shut_at hs 13 12 (by kernel_rfl) (shut_at hs 14 13 (by kernel_rfl) (shut_at hs 22 14 (by kernel_rfl) (shut_at hs 24 22 (by kernel_rfl) (up_at hu 24 (by kernel_rfl)))))))
      have y11 : L 11 = true := shut_at hs 12 11 (by kernel_rfl) (shut_at hs 13 12 (by kernel_rfl) (shut_at hs 14 13 (by kernel_rfl) (shut_at hs 22 14 (by kernel_rfl) (shut_at hs 24 22 (by kernel_rfl) (up_at hu 24 (by kernel_rfl))))))
      have y12 : L 12 = true := shut_at hs 13 12 (by kernel_rfl) (shut_at hs 14 13 (by kernel_rfl) (shut_at hs 22 14 (by kernel_rfl) (shut_at hs 24 22 (by kernel_rfl) (up_at hu 24 (by kernel_rfl)))))
      have y13 : L 13 = true := shut_at hs 14 13 (by kernel_rfl) (shut_at hs 22 14 (by kernel_rfl) (shut_at hs 24 22 (by kernel_rfl) (up_at hu 24 (by kernel_rfl))))
      have y14 : L 14 = true := shut_at hs 22 14 (by kernel_rfl) (shut_at hs 24 22 (by kernel_rfl) (up_at hu 24 (by kernel_rfl)))
      have y15 : L 15 = true := shut_at hs 20 15 (by kernel_rfl) (shut_at hs 22 20 (by kernel_rfl) (shut_at hs 24 22 (by kernel_rfl) (up_at hu 24 (by kernel_rfl))))
      have y16 : L 16 = true := shut_at hs 20 16 (by kernel_rfl) (shut_at hs 22 20 (by kernel_rfl) (shut_at hs 24 22 (by kernel_rfl) (up_at hu 24 (by kernel_rfl))))
      have y17 : L 17 = true := shut_at hs 20 17 (by kernel_rfl) (shut_at hs 22 20 (by kernel_rfl) (shut_at hs 24 22 (by kernel_rfl) (up_at hu 24 (by kernel_rfl))))
      have y18 : L 18 = true := shut_at hs 19 18 (by kernel_rfl) (shut_at hs 20 19 (by kernel_rfl) (shut_at hs 22 20 (by kernel_rfl) (shut_at hs 24 22 (by kernel_rfl) (up_at hu 24 (by kernel_rfl)))))
      have y19 : L 19 = true := shut_at hs 20 19 (by kernel_rfl) (shut_at hs 22 20 (by kernel_rfl) (shut_at hs 24 22 (by kernel_rfl) (up_at hu 24 (by kernel_rfl))))
      have y20 : L 20 = true := shut_at hs 22 20 (by kernel_rfl) (shut_at hs 24 22 (by kernel_rfl) (up_at hu 24 (by kernel_rfl)))
      have y21 : L 21 = true := shut_at hs 22 21 (by kernel_rfl) (shut_at hs 24 22 (by kernel_rfl) (up_at hu 24 (by kernel_rfl)))
      have y22 : L 22 = true := shut_at hs 24 22 (by kernel_rfl) (up_at hu 24 (by kernel_rfl))
      have y23 : L 23 = true := shut_at hs 24 23 (by kernel_rfl) (up_at hu 24 (by kernel_rfl))
      have y24 : L 24 = true := up_at hu 24 (by kernel_rfl)
      have n32 : L 32 = false := not_yet hL fun h => shut_at hs 32 26 (by kernel_rfl) (h)
      refine opIn_run_g (v := .int .i64 (n : Int)) (w' := w') (j := 24) (b := true) rfl rfl (by simp [yielded, y0, y1, y2, y3, y4, y5, y6, y7, y8, y9, y10, y11, y12, y13, y14, y15, y16, y17, y18, y19, y20, y21, y22, y23, y24, n32, hL]) (fun c h => by cases h) (fun _ => trivial) ?_ ⟨A1, c1, A2, c2, by simp [Act.put, upd, y0, y1, y2, y3, y4, y5, y6, y7, y8, y9, y10, y11, y12, y13, y14, y15, y16, y17, y18, y19, y20, y21, y22, y23, y24, n32, hL], hcm, by simpa [upd] using hph⟩
      simp only [y0, y1, y2, y3, y4, y5, y6, y7, y8, y9, y10, y11, y12, y13, y14, y15, y16, y17, y18, y19, y20, y21, y22, y23, y24, n32, hL, cond_true, cond_false]
      go_simp
    · skip
      have y0 : L 0 = true := shut_at hs 1 0 (by kernel_rfl) (shut_at hs 5 1 (by kernel_rfl) (shut_at hs 6 5 (by kernel_rfl) (shut_at hs 14 6 (by kernel_rfl) (shut_at hs 22 14 (by kernel_rfl) (shut_at hs 24 22 (by kernel_rfl) (up_at hu 24 (by kernel_rfl)))))))
      have y1 : L 1 = true := shut_at hs 5 1 (by kernel_rfl) (shut_at hs 6 5 (by kernel_rfl) (shut_at hs 14 6 (by kernel_rfl) (shut_at hs 22 14 (by kernel_rfl) (shut_at hs 24 22 (by kernel_rfl) (up_at hu 24 (by kernel_rfl))))))
      have y2 : L 2 = true := shut_at hs 3 2 (by kernel_rfl) (shut_at hs 4 3 (by kernel_rfl) (shut_at hs 5 4 (by kernel_rfl) (shut_at hs 6 5 (by kernel_rfl) (shut_at hs 14 6 (by kernel_rfl) (shut_at hs 22 14 (by kernel_rfl) (shut_at hs 24 22 (by kernel_rfl) (up_at hu 24 (by kernel_rfl))))))))
      have y3 : L 3 = true := shut_at hs 4 3 (by kernel_rfl) (shut_at hs 5 4 (by kernel_rfl) (shut_at hs 6 5 (by kernel_rfl) (shut_at hs 14 6 (by kernel_rfl) (shut_at hs 22 14 (by kernel_rfl) (shut_at hs 24 22 (by kernel_rfl) (up_at hu 24 (by kernel_rfl)))))))
      have y4 : L 4 = true := shut_at hs 5 4 (by kernel_rfl) (shut_at hs 6 5 (by kernel_rfl) (shut_at hs 14 6 (by kernel_rfl) (shut_at hs 22 14 (by kernel_rfl) (shut_at hs 24 22 (by kernel_rfl) (up_at hu 24 (by kernel_rfl))))))
      have y5 : L 5 = true := shut_at hs 6 5 (by kernel_rfl) (shut_at hs 14 6 (by kernel_rfl) (shut_at hs 22 14 (by kernel_rfl) (shut_at hs 24 22 (by kernel_rfl) (up_at hu 24 (by kernel_rfl)))))
      have y6 : L 6 = true := shut_at hs 14 6 (by kernel_rfl) (shut_at hs 22 14 (by kernel_rfl) (shut_at hs 24 22 (by kernel_rfl) (up_at hu 24 (by kernel_rfl))))
      have y7 : L 7 = true := shut_at hs 8 7 (by kernel_rfl) (shut_at hs 12 8 (by kernel_rfl) (shut_at hs 13 12 (by kernel_rfl) (shut_at hs 14 13 (by kernel_rfl) (shut_at hs 22 14 (by kernel_rfl) (shut_at hs 24 22 (by kernel_rfl) (up_at hu 24 (by kernel_rfl)))))))
      have y8 : L 8 = true := shut_at hs 12 8 (by kernel_rfl) (shut_at hs 13 12 (by kernel_rfl) (shut_at hs 14 13 (by kernel_rfl) (shut_at hs 22 14 (by kernel_rfl) (shut_at hs 24 22 (by kernel_rfl) (up_at hu 24 (by kernel_rfl))))))
      have y9 : L 9 = true := shut_at hs 10 9 (by kernel_rfl) (shut_at hs 11 10 (by kernel_rfl) (shut_at hs 12 11 (by kernel_rfl) (shut_at hs 13 12 (by kernel_rfl) (shut_at hs 14 13 (by kernel_rfl) (shut_at hs 22 14 (by kernel_rfl) (shut_at hs 24 22 (by kernel_rfl) (up_at hu 24 (by kernel_rfl))))))))
      have y10 : L 10 = true := shut_at hs 11 10 (by kernel_rfl) (shut_at hs 12 11 (by kernel_rfl) (shut_at hs 13 12 (by kernel_rfl) (shut_at hs 14 13 (by kernel_rfl) (shut_at hs 22 14 (by kernel_rfl) (shut_at hs 24 22 (by kernel_rfl) (up_at hu 24 (by kernel_rfl)))))))
      have y11 : L 11 = true := shut_at hs 12 11 (by kernel_rfl) (shut_at hs 13 12 (by kernel_rfl) (shut_at hs 14 13 (by kernel_rfl) (shut_at hs 22 14 (by kernel_rfl) (shut_at hs 24 22 (by kernel_rfl) (up_at hu 24 (by kernel_rfl))))))
      have y12 : L 12 = true := shut_at hs 13 12 (by kernel_rfl) (shut_at hs 14 13 (by kernel_rfl) (shut_at hs 22 14 (by kernel_rfl) (shut_at hs 24 22 (by kernel_rfl) (up_at hu 24 (by kernel_rfl)))))
      have y13 : L 13 = true := shut_at hs 14 13 (by kernel_rfl) (shut_at hs 22 14 (by kernel_rfl) (shut_at hs 24 22 (by kernel_rfl) (up_at hu 24 (by kernel_rfl))))
      have y14 : L 14 = true := shut_at hs 22 14 (by kernel_rfl) (shut_at hs 24 22 (by kernel_rfl) (up_at hu 24 (by kernel_rfl)))
      have y15 : L 15 = true := shut_at hs 20 15 (by kernel_rfl) (shut_at hs 22 20 (by kernel_rfl) (shut_at hs 24 22 (by kernel_rfl) (up_at hu 24 (by kernel_rfl))))
      have y16 : L 16 = true := shut_at hs 20 16 (by kernel_rfl) (shut_at hs 22 20 (by kernel_rfl) (shut_at hs 24 22 (by kernel_rfl) (up_at hu 24 (by kernel_rfl))))
      have y17 : L 17 = true := shut_at hs 20 17 (by kernel_rfl) (shut_at hs 22 20 (by kernel_rfl) (shut_at hs 24 22 (by kernel_rfl) (up_at hu 24 (by kernel_rfl))))
      have y18 : L 18 = true := shut_at hs 19 18 (by kernel_rfl) (shut_at hs 20 19 (by kernel_rfl) (shut_at hs 22 20 (by kernel_rfl) (shut_at hs 24 22 (by kernel_rfl) (up_at hu 24 (by kernel_rfl)))))
      have y19 : L 19 = true := shut_at hs 20 19 (by kernel_rfl) (shut_at hs 22 20 (by kernel_rfl) (shut_at hs 24 22 (by kernel_rfl) (up_at hu 24 (by kernel_rfl))))
      have y20 : L 20 = true := shut_at hs 22 20 (by kernel_rfl) (shut_at hs 24 22 (by kernel_rfl) (up_at hu 24 (by kernel_rfl)))
      have y21 : L 21 = true := shut_at hs 22 21 (by kernel_rfl) (shut_at hs 24 22 (by kernel_rfl) (up_at hu 24 (by kernel_rfl)))
      have y22 : L 22 = true := shut_at hs 24 22 (by kernel_rfl) (up_at hu 24 (by kernel_rfl))
      have y23 : L 23 = true := shut_at hs 24 23 (by kernel_rfl) (up_at hu 24 (by kernel_rfl))
      have y24 : L 24 = true := up_at hu 24 (by kernel_rfl)
      have n32 : L 32 = false := not_yet hL fun h => shut_at hs 32 27 (by kernel_rfl) (h)
      refine opIn_run_g (v := .slice A5 m3 c5) (w' := w') (j := 24) (b := true) rfl rfl (by simp [yielded, y0, y1, y2, y3, y4, y5, y6, y7, y8, y9, y10, y11, y12, y13, y14, y15, y16, y17, y18, y19, y20, y21, y22, y23, y24, n32, hL]) (fun c h => by cases h) (fun _ => trivial) ?_ ⟨A1, c1, A2, c2, by simp [Act.put, upd, y0, y1, y2, y3, y4, y5, y6, y7, y8, y9, y10, y11, y12, y13, y14, y15, y16, y17, y18, y19, y20, y21, y22, y23, y24, n32, hL], hcm, by simpa [upd] using hph⟩
      simp only [y0, y1, y2, y3, y4, y5, y6, y7, y8, y9, y10, y11, y12, y13, y14, y15, y16, y17, y18, y19, y20, y21, y22, y23, y24, n32, hL, cond_true, cond_false]
      go_simp
    · skip
      have y0 : L 0 = true := shut_at hs 1 0 (by kernel_rfl) (shut_at hs 5 1 (by kernel_rfl) (shut_at hs 6 5 (by kernel_rfl) (shut_at hs 14 6 (by kernel_rfl) (shut_at hs 22 14 (by kernel_rfl) (shut_at hs 24 22 (by kernel_rfl) (up_at hu 24 (by kernel_rfl)))))))
      have y1 : L 1 = true := shut_at hs 5 1 (by kernel_rfl) (shut_at hs 6 5 (by kernel_rfl) (shut_at hs 14 6 (by kernel_rfl) (shut_at hs 22 14 (by kernel_rfl) (shut_at hs 24 22 (by kernel_rfl) (up_at hu 24 (by kernel_rfl))))))
      have y2 : L 2 = true := shut_at hs 3 2 (by kernel_rfl) (shut_at hs 4 3 (by kernel_rfl) (shut_at hs 5 4 (by kernel_rfl) (shut_at hs 6 5 (by kernel_rfl) (shut_at hs 14 6 (by kernel_rfl) (shut_at hs 22 14 (by kernel_rfl) (shut_at hs 24 22 (by kernel_rfl) (up_at hu 24 (by kernel_rfl))))))))
      have y3 : L 3 = true := shut_at hs 4 3 (by kernel_rfl) (shut_at hs 5 4 (by kernel_rfl) (shut_at hs 6 5 (by kernel_rfl) (shut_at hs 14 6 (by kernel_rfl) (shut_at hs 22 14 (by kernel_rfl) (shut_at hs 24 22 (by kernel_rfl) (up_at hu 24 (by kernel_rfl)))))))
      have y4 : L 4 = true := shut_at hs 5 4 (by kernel_rfl) (shut_at hs 6 5 (by kernel_rfl) (shut_at hs 14 6 (by kernel_rfl) (shut_at hs 22 14 (by kernel_rfl) (shut_at hs 24 22 (by kernel_rfl) (up_at hu 24 (by kernel_rfl))))))
      have y5 : L 5 = true := shut_at hs 6 5 (by kernel_rfl) (shut_at hs 14 6 (by kernel_rfl) (shut_at hs 22 14 (by kernel_rfl) (shut_at hs 24 22 (by kernel_rfl) (up_at hu 24 (by kernel_rfl)))))
      have y6 : L 6 = true := shut_at hs 14 6 (by kernel_rfl) (shut_at hs 22 14 (by kernel_rfl) (shut_at hs 24 22 (by kernel_rfl) (up_at hu 24 (by kernel_rfl))))
      have y7 : L 7 = true := shut_at hs 8 7 (by kernel_rfl) (shut_at hs 12 8 (by kernel_rfl) (shut_at hs 13 12 (by kernel_rfl) (shut_at hs 14 13 (by kernel_rfl) (shut_at hs 22 14 (by kernel_rfl) (shut_at hs 24 22 (by kernel_rfl) (up_at hu 24 (by kernel_rfl)))))))
      have y8 : L 8 = true := shut_at hs 12 8 (by kernel_rfl) (shut_at hs 13 12 (by kernel_rfl) (shut_at hs 14 13 (by kernel_rfl) (shut_at hs 22 14 (by kernel_rfl) (shut_at hs 24 22 (by kernel_rfl) (up_at hu 24 (by kernel_rfl))))))
      have y9 : L 9 = true := shut_at hs 10 9 (by kernel_rfl) (shut_at hs 11 10 (by kernel_rfl) (shut_at hs 12 11 (by kernel_rfl) (shut_at hs 13 12 (by kernel_rfl) (shut_at hs 14 13 (by kernel_rfl) (shut_at hs 22 14 (by kernel_rfl) (shut_at hs 24 22 (by kernel_rfl) (up_at hu 24 (by kernel_rfl))))))))
      have y10 : L 10 = true := shut_at hs 11 10 (by kernel_rfl) (shut_at hs 12 11 (by kernel_rfl) (shut_at hs 13 12 (by kernel_rfl) (shut_at hs 14 13 (by kernel_rfl) (shut_at hs 22 14 (by kernel_rfl) (shut_at hs 24 22 (by kernel_rfl) (up_at hu 24 (by kernel_rfl)))))))
      have y11 : L 11 = true := shut_at hs 12 11 (by kernel_rfl) (shut_at hs 13 12 (by kernel_rfl) (shut_at hs 14 13 (by kernel_rfl) (shut_at hs 22 14 (by kernel_rfl) (shut_at hs 24 22 (by kernel_rfl) (up_at hu 24 (by kernel_rfl))))))
      have y12 : L 12 = true := shut_at hs 13 12 (by kernel_rfl) (shut_at hs 14 13 (by kernel_rfl) (shut_at hs 22 14 (by kernel_rfl) (shut_at hs 24 22 (by kernel_rfl) (up_at hu 24 (by kernel_rfl)))))
      have y13 : L 13 = true := shut_at hs 14 13 (by kernel_rfl) (shut_at hs 22 14 (by kernel_rfl) (shut_at hs 24 22 (by kernel_rfl) (up_at hu 24 (by kernel_rfl))))
      have y14 : L 14 = true := shut_at hs 22 14 (by kernel_rfl) (shut_at hs 24 22 (by kernel_rfl) (up_at hu 24 (by kernel_rfl)))
      have y15 : L 15 = true := shut_at hs 20 15 (by kernel_rfl) (shut_at hs 22 20 (by kernel_rfl) (shut_at hs 24 22 (by kernel_rfl) (up_at hu 24 (by kernel_rfl))))
      have y16 : L 16 = true := shut_at hs 20 16 (by kernel_rfl) (shut_at hs 22 20 (by kernel_rfl) (shut_at hs 24 22 (by kernel_rfl) (up_at hu 24 (by kernel_rfl))))
      have y17 : L 17 = true := shut_at hs 20 17 (by kernel_rfl) (shut_at hs 22 20 (by kernel_rfl) (shut_at hs 24 22 (by kernel_rfl) (up_at hu 24 (by kernel_rfl))))
      have y18 : L 18 = true := shut_at hs 19 18 (by kernel_rfl) (shut_at hs 20 19 (by kernel_rfl) (shut_at hs 22 20 (by kernel_rfl) (shut_at hs 24 22 (by kernel_rfl) (up_at hu 24 (by kernel_rfl)))))
      have y19 : L 19 = true := shut_at hs 20 19 (by kernel_rfl) (shut_at hs 22 20 (by kernel_rfl) (shut_at hs 24 22 (by kernel_rfl) (up_at hu 24 (by kernel_rfl))))
      have y20 : L 20 = true := shut_at hs 22 20 (by kernel_rfl) (shut_at hs 24 22 (by kernel_rfl) (up_at hu 24 (by kernel_rfl)))
      have y21 : L 21 = true := shut_at hs 22 21 (by kernel_rfl) (shut_at hs 24 22 (by kernel_rfl) (up_at hu 24 (by kernel_rfl)))
      have y22 : L 22 = true := shut_at hs 24 22 (by kernel_rfl) (up_at hu 24 (by kernel_rfl))
      have y23 : L 23 = true := shut_at hs 24 23 (by kernel_rfl) (up_at hu 24 (by kernel_rfl))
      have y24 : L 24 = true := up_at hu 24 (by kernel_rfl)
      have n32 : L 32 = false := not_yet hL fun h => shut_at hs 29 28 (by kernel_rfl) (shut_at hs 31 29 (by kernel_rfl) (shut_at hs 32 31 (by kernel_rfl) (h)))
      refine opIn_run_g (v := .int .i64 (n : Int)) (w' := w') (j := 24) (b := true) rfl rfl (by simp [yielded, y0, y1, y2, y3, y4, y5, y6, y7, y8, y9, y10, y11, y12, y13, y14, y15, y16, y17, y18, y19, y20, y21, y22, y23, y24, n32, hL]) (fun c h => by cases h) (fun _ => trivial) ?_ ⟨A1, c1, A2, c2, by simp [Act.put, upd, y0, y1, y2, y3, y4, y5, y6, y7, y8, y9, y10, y11, y12, y13, y14, y15, y16, y17, y18, y19, y20, y21, y22, y23, y24, n32, hL], hcm, by simpa [upd] using hph⟩
      simp only [y0, y1, y2, y3, y4, y5, y6, y7, y8, y9, y10, y11, y12, y13, y14, y15, y16, y17, y18, y19, y20, y21, y22, y23, y24, n32, hL, cond_true, cond_false]
      go_simp
    · skip
      have y0 : L 0 = true := shut_at hs 1 0 (by kernel_rfl) (shut_at hs 5 1 (by kernel_rfl) (shut_at hs 6 5 (by kernel_rfl) (shut_at hs 14 6 (by kernel_rfl) (shut_at hs 22 14 (by kernel_rfl) (shut_at hs 24 22 (by kernel_rfl) (up_at hu 24 (by kernel_rfl)))))))
      have y1 : L 1 = true := shut_at hs 5 1 (by kernel_rfl) (shut_at hs 6 5 (by kernel_rfl) (shut_at hs 14 6 (by kernel_rfl) (shut_at hs 22 14 (by kernel_rfl) (shut_at hs 24 22 (by kernel_rfl) (up_at hu 24 (by kernel_rfl))))))
      have y2 : L 2 = true := shut_at hs 3 2 (by kernel_rfl) (shut_at hs 4 3 (by kernel_rfl) (shut_at hs 5 4 (by kernel_rfl) (shut_at hs 6 5 (by kernel_rfl) (shut_at hs 14 6 (by kernel_rfl) (shut_at hs 22 14 (by kernel_rfl) (shut_at hs 24 22 (by kernel_rfl) (up_at hu 24 (by kernel_rfl))))))))
      have y3 : L 3 = true := shut_at hs 4 3 (by kernel_rfl) (shut_at hs 5 4 (by kernel_rfl) (shut_at hs 6 5 (by kernel_rfl) (shut_at hs 14 6 (by kernel_rfl) (shut_at hs 22 14 (by kernel_rfl) (shut_at hs 24 22 (by kernel_rfl) (up_at hu 24 (by kernel_rfl)))))))
      have y4 : L 4 = true := shut_at hs 5 4 (by kernel_rfl) (shut_at hs 6 5 (by kernel_rfl) (shut_at hs 14 6 (by kernel_rfl) (shut_at hs 22 14 (by kernel_rfl) (shut_at hs 24 22 (by kernel_rfl) (up_at hu 24 (by kernel_rfl))))))
      have y5 : L 5 = true := shut_at hs 6 5 (by kernel_rfl) (shut_at hs 14 6 (by kernel_rfl) (shut_at hs 22 14 (by kernel_rfl) (shut_at hs 24 22 (by kernel_rfl) (up_at hu 24 (by kernel_rfl)))))
      have y6 : L 6 = true := shut_at hs 14 6 (by kernel_rfl) (shut_at hs 22 14 (by kernel_rfl) (shut_at hs 24 22 (by kernel_rfl) (up_at hu 24 (by kernel_rfl))))
      have y7 : L 7 = true := shut_at hs 8 7 (by kernel_rfl) (shut_at hs 12 8 (by kernel_rfl) (shut_at hs 13 12 (by kernel_rfl) (shut_at hs 14 13 (by kernel_rfl) (shut_at hs 22 14 (by kernel_rfl) (shut_at hs 24 22 (by kernel_rfl) (up_at hu 24 (by kernel_rfl)))))))
      have y8 : L 8 = true := shut_at hs 12 8 (by kernel_rfl) (shut_at hs 13 12 (by kernel_rfl) (shut_at hs 14 13 (by kernel_rfl) (shut_at hs 22 14 (by kernel_rfl) (shut_at hs 24 22 (by kernel_rfl) (up_at hu 24 (by kernel_rfl))))))
      have y9 : L 9 = true := shut_at hs 10 9 (by kernel_rfl) (shut_at hs 11 10 (by kernel_rfl) (shut_at hs 12 11 (by kernel_rfl) (shut_at hs 13 12 (by kernel_rfl) (shut_at hs 14 13 (by kernel_rfl) (shut_at hs 22 14 (by kernel_rfl) (shut_at hs 24 22 (by kernel_rfl) (up_at hu 24 (by kernel_rfl))))))))
      have y10 : L 10 = true := shut_at hs 11 10 (by kernel_rfl) (shut_at hs 12 11 (by kernel_rfl) (shut_at hs 13 12 (by kernel_rfl) (shut_at hs 14 13 (by kernel_rfl) (shut_at hs 22 14 (by kernel_rfl) (shut_at hs 24 22 (by kernel_rfl) (up_at hu 24 (by kernel_rfl)))))))
      have y11 : L 11 = true := shut_at hs 12 11 (by kernel_rfl) (shut_at hs 13 12 (by kernel_rfl) (shut_at hs 14 13 (by kernel_rfl) (shut_at hs 22 14 (by kernel_rfl) (shut_at hs 24 22 (by kernel_rfl) (up_at hu 24 (by kernel_rfl))))))
      have y12 : L 12 = true := shut_at hs 13 12 (by kernel_rfl) (shut_at hs 14 13 (by kernel_rfl) (shut_at hs 22 14 (by kernel_rfl) (shut_at hs 24 22 (by kernel_rfl) (up_at hu 24 (by kernel_rfl)))))
      have y13 : L 13 = true := shut_at hs 14 13 (by kernel_rfl) (shut_at hs 22 14 (by kernel_rfl) (shut_at hs 24 22 (by kernel_rfl) (up_at hu 24 (by kernel_rfl))))
      have y14 : L 14 = true := shut_at hs 22 14 (by kernel_rfl) (shut_at hs 24 22 (by kernel_rfl) (up_at hu 24 (by kernel_rfl)))
      have y15 : L 15 = true := shut_at hs 20 15 (by kernel_rfl) (shut_at hs 22 20 (by kernel_rfl) (shut_at hs 24 22 (by kernel_rfl) (up_at hu 24 (by kernel_rfl))))
      have y16 : L 16 = true := shut_at hs 20 16 (by kernel_rfl) (shut_at hs 22 20 (by kernel_rfl) (shut_at hs 24 22 (by kernel_rfl) (up_at hu 24 (by kernel_rfl))))
      have y17 : L 17 = true := shut_at hs 20 17 (by kernel_rfl) (shut_at hs 22 20 (by kernel_rfl) (shut_at hs 24 22 (by kernel_rfl) (up_at hu 24 (by kernel_rfl))))
      have y18 : L 18 = true := shut_at hs 19 18 (by kernel_rfl) (shut_at hs 20 19 (by kernel_rfl) (shut_at hs 22 20 (by kernel_rfl) (shut_at hs 24 22 (by kernel_rfl) (up_at hu 24 (by kernel_rfl)))))
      have y19 : L 19 = true := shut_at hs 20 19 (by kernel_rfl) (shut_at hs 22 20 (by kernel_rfl) (shut_at hs 24 22 (by kernel_rfl) (up_at hu 24 (by kernel_rfl))))
      have y20 : L 20 = true := shut_at hs 22 20 (by kernel_rfl) (shut_at hs 24 22 (by kernel_rfl) (up_at hu 24 (by kernel_rfl)))
      have y21 : L 21 = true := shut_at hs 22 21 (by kernel_rfl) (shut_at hs 24 22 (by kernel_rfl) (up_at hu 24 (by kernel_rfl)))
      have y22 : L 22 = true := shut_at hs 24 22 (by kernel_rfl) (up_at hu 24 (by kernel_rfl))
      have y23 : L 23 = true := shut_at hs 24 23 (by kernel_rfl) (up_at hu 24 (by kernel_rfl))
      have y24 : L 24 = true := up_at hu 24 (by kernel_rfl)
      have y28 : L 28 = true := up_at hu 28 (by kernel_rfl)
      have n32 : L 32 = false := not_yet hL fun h => shut_at hs 31 29 (by kernel_rfl) (shut_at hs 32 31 (by kernel_rfl) (h))
      refine opIn_run_g (v := .int .i64 (n1 : Int)) (w' := w') (j := 24) (b := true) rfl rfl (by simp [yielded, y0, y1, y2, y3, y4, y5, y6, y7, y8, y9, y10, y11, y12, y13, y14, y15, y16, y17, y18, y19, y20, y21, y22, y23, y24, y28, n32, hL]) (fun c h => by cases h) (fun _ => trivial) ?_ ⟨A1, c1, A2, c2, by simp [Act.put, upd, y0, y1, y2, y3, y4, y5, y6, y7, y8, y9, y10, y11, y12, y13, y14, y15, y16, y17, y18, y19, y20, y21, y22, y23, y24, y28, n32, hL], hcm, by simpa [upd] using hph⟩
      simp only [y0, y1, y2, y3, y4, y5, y6, y7, y8, y9, y10, y11, y12, y13, y14, y15, y16, y17, y18, y19, y20, y21, y22, y23, y24, y28, n32, hL, cond_true, cond_false]
      go_simp
    · skip
      have y0 : L 0 = true := shut_at hs 1 0 (by kernel_rfl) (shut_at hs 5 1 (by kernel_rfl) (shut_at hs 6 5 (by kernel_rfl) (shut_at hs 14 6 (by kernel_rfl) (shut_at hs 22 14 (by kernel_rfl) (shut_at hs 24 22 (by kernel_rfl) (up_at hu 24 (by kernel_rfl)))))))
      have y1 : L 1 = true := shut_at hs 5 1 (by kernel_rfl) (shut_at hs 6 5 (by kernel_rfl) (shut_at hs 14 6 (by kernel_rfl) (shut_at hs 22 14 (by kernel_rfl) (shut_at hs 24 22 (by kernel_rfl) (up_at hu 24 (by kernel_rfl))))))
      have y2 : L 2 = true := shut_at hs 3 2 (by kernel_rfl) (shut_at hs 4 3 (by kernel_rfl) (shut_at hs 5 4 (by kernel_rfl) (shut_at hs 6 5 (by kernel_rfl) (shut_at hs 14 6 (by kernel_rfl) (shut_at hs 22 14 (by kernel_rfl) (shut_at hs 24 22 (by kernel_rfl) (up_at hu 24 (by kernel_rfl))))))))
      have y3 : L 3 = true := shut_at hs 4 3 (by kernel_rfl) (shut_at hs 5 4 (by kernel_rfl) (shut_at hs 6 5 (by kernel_rfl) (shut_at hs 14 6 (by kernel_rfl) (shut_at hs 22 14 (by kernel_rfl) (shut_at hs 24 22 (by kernel_rfl) (up_at hu 24 (by kernel_rfl)))))))
      have y4 : L 4 = true := shut_at hs 5 4 (by kernel_rfl) (shut_at hs 6 5 (by kernel_rfl) (shut_at hs 14 6 (by kernel_rfl) (shut_at hs 22 14 (by kernel_rfl) (shut_at hs 24 22 (by kernel_rfl) (up_at hu 24 (by kernel_rfl))))))
      have y5 : L 5 = true := shut_at hs 6 5 (by kernel_rfl) (shut_at hs 14 6 (by kernel_rfl) (shut_at hs 22 14 (by kernel_rfl) (shut_at hs 24 22 (by kernel_rfl) (up_at hu 24 (by kernel_rfl)))))
      have y6 : L 6 = true := shut_at hs 14 6 (by kernel_rfl) (shut_at hs 22 14 (by kernel_rfl) (shut_at hs 24 22 (by kernel_rfl) (up_at hu 24 (by kernel_rfl))))
      have y7 : L 7 = true := shut_at hs 8 7 (by kernel_rfl) (shut_at hs 12 8 (by kernel_rfl) (shut_at hs 13 12 (by kernel_rfl) (shut_at hs 14 13 (by kernel_rfl) (shut_at hs 22 14 (by kernel_rfl) (shut_at hs 24 22 (by kernel_rfl) (up_at hu 24 (by kernel_rfl)))))))
      have y8 : L 8 = true := shut_at hs 12 8 (by kernel_rfl) (shut_at hs 13 12 (by kernel_rfl) (shut_at hs 14 13 (by kernel_rfl) (shut_at hs 22 14 (by kernel_rfl) (shut_at hs 24 22 (by kernel_rfl) (up_at hu 24 (by kernel_rfl))))))
      have y9 : L 9 = true := shut_at hs 10 9 (by kernel_rfl) (shut_at hs 11 10 (by kernel_rfl) (shut_at hs 12 11 (by kernel_rfl) (shut_at hs 13 12 (by kernel_rfl) (shut_at hs 14 13 (by kernel_rfl) (shut_at hs 22 14 (by kernel_rfl) (shut_at hs 24 22 (by kernel_rfl) (up_at hu 24 (by kernel_rfl))))))))
      have y10 : L 10 = true := shut_at hs 11 10 (by kernel_rfl) (shut_at hs 12 11 (by kernel_rfl) (shut_at hs 13 12 (by kernel_rfl) (shut_at hs 14 13 (by kernel_rfl) (shut_at hs 22 14 (by kernel_rfl) (shut_at hs 24 22 (by kernel_rfl) (up_at hu 24 (by kernel_rfl)))))))
      have y11 : L 11 = true := shut_at hs 12 11 (by kernel_rfl) (shut_at hs 13 12 (by kernel_rfl) (shut_at hs 14 13 (by kernel_rfl) (shut_at hs 22 14 (by kernel_rfl) (shut_at hs 24 22 (by kernel_rfl) (up_at hu 24 (by kernel_rfl))))))
      have y12 : L 12 = true := shut_at hs 13 12 (by kernel_rfl) (shut_at hs 14 13 (by kernel_rfl) (shut_at hs 22 14 (by kernel_rfl) (shut_at hs 24 22 (by kernel_rfl) (up_at hu 24 (by kernel_rfl)))))
      have y13 : L 13 = true := shut_at hs 14 13 (by kernel_rfl) (shut_at hs 22 14 (by kernel_rfl) (shut_at hs 24 22 (by kernel_rfl) (up_at hu 24 (by kernel_rfl))))
      have y14 : L 14 = true := shut_at hs 22 14 (by kernel_rfl) (shut_at hs 24 22 (by kernel_rfl) (up_at hu 24 (by kernel_rfl)))
      have y15 : L 15 = true := shut_at hs 20 15 (by kernel_rfl) (shut_at hs 22 20 (by kernel_rfl) (shut_at hs 24 22 (by kernel_rfl) (up_at hu 24 (by kernel_rfl))))
      have y16 : L 16 = true := shut_at hs 20 16 (by kernel_rfl) (shut_at hs 22 20 (by kernel_rfl) (shut_at hs 24 22 (by kernel_rfl) (up_at hu 24 (by kernel_rfl))))
      have y17 : L 17 = true := shut_at hs 20 17 (by kernel_rfl) (shut_at hs 22 20 (by kernel_rfl) (shut_at hs 24 22 (by kernel_rfl) (up_at hu 24 (by kernel_rfl))))
      have y18 : L 18 = true := shut_at hs 19 18 (by kernel_rfl) (shut_at hs 20 19 (by kernel_rfl) (shut_at hs 22 20 (by kernel_rfl) (shut_at hs 24 22 (by kernel_rfl) (up_at hu 24 (by kernel_rfl)))))
      have y19 : L 19 = true := shut_at hs 20 19 (by kernel_rfl) (shut_at hs 22 20 (by kernel_rfl) (shut_at hs 24 22 (by kernel_rfl) (up_at hu 24 (by kernel_rfl))))
      have y20 : L 20 = true := shut_at hs 22 20 (by kernel_rfl) (shut_at hs 24 22 (by kernel_rfl) (up_at hu 24 (by kernel_rfl)))
      have y21 : L 21 = true := shut_at hs 22 21 (by kernel_rfl) (shut_at hs 24 22 (by kernel_rfl) (up_at hu 24 (by kernel_rfl)))
      have y22 : L 22 = true := shut_at hs 24 22 (by kernel_rfl) (up_at hu 24 (by kernel_rfl))
      have y23 : L 23 = true := shut_at hs 24 23 (by kernel_rfl) (up_at hu 24 (by kernel_rfl))
      have y24 : L 24 = true := up_at hu 24 (by kernel_rfl)
      have n32 : L 32 = false := not_yet hL fun h => shut_at hs 31 30 (by kernel_rfl) (shut_at hs 32 31 (by kernel_rfl) (h))
      refine opIn_run_g (v := .int .i64 (s : Int)) (w' := w') (j := 24) (b := true) rfl rfl (by simp [yielded, y0, y1, y2, y3, y4, y5, y6, y7, y8, y9, y10, y11, y12, y13, y14, y15, y16, y17, y18, y19, y20, y21, y22, y23, y24, n32, hL]) (fun c h => by cases h) (fun _ => trivial) ?_ ⟨A1, c1, A2, c2, by simp [Act.put, upd, y0, y1, y2, y3, y4, y5, y6, y7, y8, y9, y10, y11, y12, y13, y14, y15, y16, y17, y18, y19, y20, y21, y22, y23, y24, n32, hL], hcm, by simpa [upd] using hph⟩
      simp only [y0, y1, y2, y3, y4, y5, y6, y7, y8, y9, y10, y11, y12, y13, y14, y15, y16, y17, y18, y19, y20, y21, y22, y23, y24, n32, hL, cond_true, cond_false]
      go_simp
    · skip
      have y0 : L 0 = true := shut_at hs 1 0 (by kernel_rfl) (shut_at hs 5 1 (by kernel_rfl) (shut_at hs 6 5 (by kernel_rfl) (shut_at hs 14 6 (by kernel_rfl) (shut_at hs 22 14 (by kernel_rfl) (shut_at hs 24 22 (by kernel_rfl) (up_at hu 24 (by kernel_rfl)))))))
      have y1 : L 1 = true := shut_at hs 5 1 (by kernel_rfl) (shut_at hs 6 5 (by kernel_rfl) (shut_at hs 14 6 (by kernel_rfl) (shut_at hs 22 14 (by kernel_rfl) (shut_at hs 24 22 (by kernel_rfl) (up_at hu 24 (by kernel_rfl))))))
      have y2 : L 2 = true := shut_at hs 3 2 (by kernel_rfl) (shut_at hs 4 3 (by kernel_rfl) (shut_at hs 5 4 (by kernel_rfl) (shut_at hs 6 5 (by kernel_rfl) (shut_at hs 14 6 (by kernel_rfl) (shut_at hs 22 14 (by kernel_rfl) (shut_at hs 24 22 (by kernel_rfl) (up_at hu 24 (by kernel_rfl))))))))
      have y3 : L 3 = true := shut_at hs 4 3 (by kernel_rfl) (shut_at hs 5 4 (by kernel_rfl) (shut_at hs 6 5 (by kernel_rfl) (shut_at hs 14 6 (by kernel_rfl) (shut_at hs 22 14 (by kernel_rfl) (shut_at hs 24 22 (by kernel_rfl) (up_at hu 24 (by kernel_rfl)))))))
      have y4 : L 4 = true := shut_at hs 5 4 (by kernel_rfl) (shut_at hs 6 5 (by kernel_rfl) (shut_at hs 14 6 (by kernel_rfl) (shut_at hs 22 14 (by kernel_rfl) (shut_at hs 24 22 (by kernel_rfl) (up_at hu 24 (by kernel_rfl))))))
      have y5 : L 5 = true := shut_at hs 6 5 (by kernel_rfl) (shut_at hs 14 6 (by kernel_rfl) (shut_at hs 22 14 (by kernel_rfl) (shut_at hs 24 22 (by kernel_rfl) (up_at hu 24 (by kernel_rfl)))))
      have y6 : L 6 = true := shut_at hs 14 6 (by kernel_rfl) (shut_at hs 22 14 (by kernel_rfl) (shut_at hs 24 22 (by kernel_rfl) (up_at hu 24 (by kernel_rfl))))
      have y7 : L 7 = true := shut_at hs 8 7 (by kernel_rfl) (shut_at hs 12 8 (by kernel_rfl) (shut_at hs 13 12 (by kernel_rfl) (shut_at hs 14 13 (by kernel_rfl) (shut_at hs 22 14 (by kernel_rfl) (shut_at hs 24 22 (by kernel_rfl) (up_at hu 24 (by kernel_rfl)))))))
      have y8 : L 8 = true := shut_at hs 12 8 (by kernel_rfl) (shut_at hs 13 12 (by kernel_rfl) (shut_at hs 14 13 (by kernel_rfl) (shut_at hs 22 14 (by kernel_rfl) (shut_at hs 24 22 (by kernel_rfl) (up_at hu 24 (by kernel_rfl))))))
      have y9 : L 9 = true := shut_at hs 10 9 (by kernel_rfl) (shut_at hs 11 10 (by kernel_rfl) (shut_at hs 12 11 (by kernel_rfl) (shut_at hs 13 12 (by kernel_rfl) (shut_at hs 14 13 (by kernel_rfl) (shut_at hs 22 14 (by kernel_rfl) (shut_at hs 24 22 (by kernel_rfl) (up_at hu 24 (by kernel_rfl))))))))
      have y10 : L 10 = true := shut_at hs 11 10 (by kernel_rfl) (shut_at hs 12 11 (by kernel_rfl) (shut_at hs 13 12 (by kernel_rfl) (shut_at hs 14 13 (by kernel_rfl) (shut_at hs 22 14 (by kernel_rfl) (shut_at hs 24 22 (by kernel_rfl) (up_at hu 24 (by kernel_rfl)))))))
      have y11 : L 11 = true := shut_at hs 12 11 (by kernel_rfl) (shut_at hs 13 12 (by kernel_rfl) (shut_at hs 14 13 (by kernel_rfl) (shut_at hs 22 14 (by kernel_rfl) (shut_at hs 24 22 (by kernel_rfl) (up_at hu 24 (by kernel_rfl))))))
      have y12 : L 12 = true := shut_at hs 13 12 (by kernel_rfl) (shut_at hs 14 13 (by kernel_rfl) (shut_at hs 22 14 (by kernel_rfl) (shut_at hs 24 22 (by kernel_rfl) (up_at hu 24 (by kernel_rfl)))))
      have y13 : L 13 = true := shut_at hs 14 13 (by kernel_rfl) (shut_at hs 22 14 (by kernel_rfl) (shut_at hs 24 22 (by kernel_rfl) (up_at hu 24 (by kernel_rfl))))
      have y14 : L 14 = true := shut_at hs 22 14 (by kernel_rfl) (shut_at hs 24 22 (by kernel_rfl) (up_at hu 24 (by kernel_rfl)))
      have y15 : L 15 = true := shut_at hs 20 15 (by kernel_rfl) (shut_at hs 22 20 (by kernel_rfl) (shut_at hs 24 22 (by kernel_rfl) (up_at hu 24 (by kernel_rfl))))
      have y16 : L 16 = true := shut_at hs 20 16 (by kernel_rfl) (shut_at hs 22 20 (by kernel_rfl) (shut_at hs 24 22 (by kernel_rfl) (up_at hu 24 (by kernel_rfl))))
      have y17 : L 17 = true := shut_at hs 20 17 (by kernel_rfl) (shut_at hs 22 20 (by kernel_rfl) (shut_at hs 24 22 (by kernel_rfl) (up_at hu 24 (by kernel_rfl))))
      have y18 : L 18 = true := shut_at hs 19 18 (by kernel_rfl) (shut_at hs 20 19 (by kernel_rfl) (shut_at hs 22 20 (by kernel_rfl) (shut_at hs 24 22 (by kernel_rfl) (up_at hu 24 (by kernel_rfl)))))
      have y19 : L 19 = true := shut_at hs 20 19 (by kernel_rfl) (shut_at hs 22 20 (by kernel_rfl) (shut_at hs 24 22 (by kernel_rfl) (up_at hu 24 (by kernel_rfl))))
      have y20 : L 20 = true := shut_at hs 22 20 (by kernel_rfl) (shut_at hs 24 22 (by kernel_rfl) (up_at hu 24 (by kernel_rfl)))
      have y21 : L 21 = true := shut_at hs 22 21 (by kernel_rfl) (shut_at hs 24 22 (by kernel_rfl) (up_at hu 24 (by kernel_rfl)))
      have y22 : L 22 = true := shut_at hs 24 22 (by kernel_rfl) (up_at hu 24 (by kernel_rfl))
      have y23 : L 23 = true := shut_at hs 24 23 (by kernel_rfl) (up_at hu 24 (by kernel_rfl))
      have y24 : L 24 = true := up_at hu 24 (by kernel_rfl)
      have y28 : L 28 = true := shut_at hs 29 28 (by kernel_rfl) (up_at hu 29 (by kernel_rfl))
      have y29 : L 29 = true := up_at hu 29 (by kernel_rfl)
      have y30 : L 30 = true := up_at hu 30 (by kernel_rfl)
      have n32 : L 32 = false := not_yet hL fun h => shut_at hs 32 31 (by kernel_rfl) (h)
      refine opIn_run_g (v := .int .i64 (d : Int)) (w' := w') (j := 24) (b := true) rfl rfl (by simp [yielded, y0, y1, y2, y3, y4, y5, y6, y7, y8, y9, y10, y11, y12, y13, y14, y15, y16, y17, y18, y19, y20, y21, y22, y23, y24, y28, y29, y30, n32, hL]) (fun c h => by cases h) (fun _ => trivial) ?_ ⟨A1, c1, A2, c2, by simp [Act.put, upd, y0, y1, y2, y3, y4, y5, y6, y7, y8, y9, y10, y11, y12, y13, y14, y15, y16, y17, y18, y19, y20, y21, y22, y23, y24, y28, y29, y30, n32, hL], hcm, by simpa [upd] using hph⟩
      simp only [y0, y1, y2, y3, y4, y5, y6, y7, y8, y9, y10, y11, y12, y13, y14, y15, y16, y17, y18, y19, y20, y21, y22, y23, y24, y28, y29, y30, n32, hL, cond_true, cond_false]
      go_simp
    · skip
      have y0 : L 0 = true := shut_at hs 1 0 (by kernel_rfl) (shut_at hs 5 1 (by kernel_rfl) (shut_at hs 6 5 (by kernel_rfl) (shut_at hs 14 6 (by kernel_rfl) (shut_at hs 22 14 (by kernel_rfl) (shut_at hs 24 22 (by kernel_rfl) (up_at hu 24 (by kernel_rfl)))))))
      have y1 : L 1 = true := shut_at hs 5 1 (by kernel_rfl) (shut_at hs 6 5 (by kernel_rfl) (shut_at hs 14 6 (by kernel_rfl) (shut_at hs 22 14 (by kernel_rfl) (shut_at hs 24 22 (by kernel_rfl) (up_at hu 24 (by kernel_rfl))))))
      have y2 : L 2 = true := shut_at hs 3 2 (by kernel_rfl) (shut_at hs 4 3 (by kernel_rfl) (shut_at hs 5 4 (by kernel_rfl) (shut_at hs 6 5 (by kernel_rfl) (shut_at hs 14 6 (by kernel_rfl) (shut_at hs 22 14 (by kernel_rfl) (shut_at hs 24 22 (by kernel_rfl) (up_at hu 24 (by kernel_rfl))))))))
      have y3 : L 3 = true := shut_at hs 4 3 (by kernel_rfl) (shut_at hs 5 4 (by kernel_rfl) (shut_at hs 6 5 (by kernel_rfl) (shut_at hs 14 6 (by kernel_rfl) (shut_at hs 22 14 (by kernel_rfl) (shut_at hs 24 22 (by kernel_rfl) (up_at hu 24 (by kernel_rfl)))))))
      have y4 : L 4 = true := shut_at hs 5 4 (by kernel_rfl) (shut_at hs 6 5 (by kernel_rfl) (shut_at hs 14 6 (by kernel_rfl) (shut_at hs 22 14 (by kernel_rfl) (shut_at hs 24 22 (by kernel_rfl) (up_at hu 24 (by kernel_rfl))))))
      have y5 : L 5 = true := shut_at hs 6 5 (by kernel_rfl) (shut_at hs 14 6 (by kernel_rfl) (shut_at hs 22 14 (by kernel_rfl) (shut_at hs 24 22 (by kernel_rfl) (up_at hu 24 (by kernel_rfl)))))
      have y6 : L 6 = true := shut_at hs 14 6 (by kernel_rfl) (shut_at hs 22 14 (by kernel_rfl) (shut_at hs 24 22 (by kernel_rfl) (up_at hu 24 (by kernel_rfl))))
      have y7 : L 7 = true := shut_at hs 8 7 (by kernel_rfl) (shut_at hs 12 8 (by kernel_rfl) (shut_at hs 13 12 (by kernel_rfl) (shut_at hs 14 13 (by kernel_rfl) (shut_at hs 22 14 (by kernel_rfl) (shut_at hs 24 22 (by kernel_rfl) (up_at hu 24 (by kernel_rfl)))))))
      have y8 : L 8 = true := shut_at hs 12 8 (by kernel_rfl) (shut_at hs 13 12 (by kernel_rfl) (shut_at hs 14 13 (by kernel_rfl) (shut_at hs 22 14 (by kernel_rfl) (shut_at hs 24 22 (by kernel_rfl) (up_at hu 24 (by kernel_rfl))))))
      have y9 : L 9 = true := shut_at hs 10 9 (by kernel_rfl) (shut_at hs 11 10 (by kernel_rfl) (shut_at hs 12 11 (by kernel_rfl) (shut_at hs 13 12 (by kernel_rfl) (shut_at hs 14 13 (by kernel_rfl) (shut_at hs 22 14 (by kernel_rfl) (shut_at hs 24 22 (by kernel_rfl) (up_at hu 24 (by kernel_rfl))))))))
      have y10 : L 10 = true := shut_at hs 11 10 (by kernel_rfl) (shut_at hs 12 11 (by kernel_rfl) (shut_at hs 13 12 (by kernel_rfl) (shut_at hs 14 13 (by kernel_rfl) (shut_at hs 22 14 (by kernel_rfl) (shut_at hs 24 22 (by kernel_rfl) (up_at hu 24 (by kernel_rfl)))))))
      have y11 : L 11 = true := shut_at hs 12 11 (by kernel_rfl) (shut_at hs 13 12 (by kernel_rfl) (shut_at hs 14 13 (by kernel_rfl) (shut_at hs 22 14 (by kernel_rfl) (shut_at hs 24 22 (by kernel_rfl) (up_at hu 24 (by kernel_rfl))))))
      have y12 : L 12 = true := shut_at hs 13 12 (by kernel_rfl) (shut_at hs 14 13 (by kernel_rfl) (shut_at hs 22 14 (by kernel_rfl) (shut_at hs 24 22 (by kernel_rfl) (up_at hu 24 (by kernel_rfl)))))
      have y13 : L 13 = true := shut_at hs 14 13 (by kernel_rfl) (shut_at hs 22 14 (by kernel_rfl) (shut_at hs 24 22 (by kernel_rfl) (up_at hu 24 (by kernel_rfl))))
      have y14 : L 14 = true := shut_at hs 22 14 (by kernel_rfl) (shut_at hs 24 22 (by kernel_rfl) (up_at hu 24 (by kernel_rfl)))
      have y15 : L 15 = true := shut_at hs 20 15 (by kernel_rfl) (shut_at hs 22 20 (by kernel_rfl) (shut_at hs 24 22 (by kernel_rfl) (up_at hu 24 (by kernel_rfl))))
      have y16 : L 16 = true := shut_at hs 20 16 (by kernel_rfl) (shut_at hs 22 20 (by kernel_rfl) (shut_at hs 24 22 (by kernel_rfl) (up_at hu 24 (by kernel_rfl))))
      have y17 : L 17 = true := shut_at hs 20 17 (by kernel_rfl) (shut_at hs 22 20 (by kernel_rfl) (shut_at hs 24 22 (by kernel_rfl) (up_at hu 24 (by kernel_rfl))))
      have y18 : L 18 = true := shut_at hs 19 18 (by kernel_rfl) (shut_at hs 20 19 (by kernel_rfl) (shut_at hs 22 20 (by kernel_rfl) (shut_at hs 24 22 (by kernel_rfl) (up_at hu 24 (by kernel_rfl)))))
      have y19 : L 19 = true := shut_at hs 20 19 (by kernel_rfl) (shut_at hs 22 20 (by kernel_rfl) (shut_at hs 24 22 (by kernel_rfl) (up_at hu 24 (by kernel_rfl))))
      have y20 : L 20 = true := shut_at hs 22 20 (by kernel_rfl) (shut_at hs 24 22 (by kernel_rfl) (up_at hu 24 (by kernel_rfl)))
      have y21 : L 21 = true := shut_at hs 22 21 (by kernel_rfl) (shut_at hs 24 22 (by kernel_rfl) (up_at hu 24 (by kernel_rfl)))
      have y22 : L 22 = true := shut_at hs 24 22 (by kernel_rfl) (up_at hu 24 (by kernel_rfl))
      have y23 : L 23 = true := shut_at hs 24 23 (by kernel_rfl) (up_at hu 24 (by kernel_rfl))
      have y24 : L 24 = true := up_at hu 24 (by kernel_rfl)
      have y25 : L 25 = true := up_at hu 25 (by kernel_rfl)
      have y26 : L 26 = true := up_at hu 26 (by kernel_rfl)
      have y27 : L 27 = true := up_at hu 27 (by kernel_rfl)
      have y28 : L 28 = true := shut_at hs 29 28 (by kernel_rfl) (shut_at hs 31 29 (by kernel_rfl) (up_at hu 31 (by kernel_rfl)))
      have y29 : L 29 = true := shut_at hs 31 29 (by kernel_rfl) (up_at hu 31 (by kernel_rfl))
      have y30 : L 30 = true := shut_at hs 31 30 (by kernel_rfl) (up_at hu 31 (by kernel_rfl))
      have y31 : L 31 = true := up_at hu 31 (by kernel_rfl)
      simp only [y0, y1, y2, y3, y4, y5, y6, y7, y8, y9, y10, y11, y12, y13, y14, y15, y16, y17, y18, y19, y20, y21, y22, y23, y24, y25, y26, y27, y28, y29, y30, y31, hL, cond_true, cond_false] at hph
      refine opIn_call_g (f := 18) (args := #[.agg #[.int .i64 r0, .int .i64 r1, .int .i64 r2, .int .i64 r3], .int .i64 (n : Int), .slice A5 m3 c5, .int .i64 (d : Int)]) (w' := w') (j := 24) (b := true) rfl rfl (by simp [yielded, y0, y1, y2, y3, y4, y5, y6, y7, y8, y9, y10, y11, y12, y13, y14, y15, y16, y17, y18, y19, y20, y21, y22, y23, y24, y25, y26, y27, y28, y29, y30, y31, hL]) (fun c h => by cases h) (fun _ => trivial) rfl ?_ ((callsIn_wide.2 (HJ2.out w' hcm)).mono ?_)
      · simp only [y0, y1, y2, y3, y4, y5, y6, y7, y8, y9, y10, y11, y12, y13, y14, y15, y16, y17, y18, y19, y20, y21, y22, y23, y24, y25, y26, y27, y28, y29, y30, y31, hL, cond_true, cond_false]
        go_simp
      · rintro e w2 ⟨A', c', rfl, hr, hb⟩
        exact ⟨_, rfl, A1, c1, A', c', by simp [Act.put, upd, y0, y1, y2, y3, y4, y5, y6, y7, y8, y9, y10, y11, y12, y13, y14, y15, y16, y17, y18, y19, y20, y21, y22, y23, y24, y25, y26, y27, y28, y29, y30, y31, hL], hcm.trans (hb.mono hcm.size), by simp only [upd, y0, y1, y2, y3, y4, y5, y6, y7, y8, y9, y10, y11, y12, y13, y14, y15, y16, y17, y18, y19, y20, y21, y22, y23, y24, y25, y26, y27, y28, y29, y30, y31, hL]; exact hr⟩
    · skip
      have y0 : L 0 = true := shut_at hs 1 0 (by kernel_rfl) (shut_at hs 5 1 (by kernel_rfl) (shut_at hs 6 5 (by kernel_rfl) (shut_at hs 14 6 (by kernel_rfl) (shut_at hs 22 14 (by kernel_rfl) (shut_at hs 24 22 (by kernel_rfl) (up_at hu 24 (by kernel_rfl)))))))
      have y1 : L 1 = true := shut_at hs 5 1 (by kernel_rfl) (shut_at hs 6 5 (by kernel_rfl) (shut_at hs 14 6 (by kernel_rfl) (shut_at hs 22 14 (by kernel_rfl) (shut_at hs 24 22 (by kernel_rfl) (up_at hu 24 (by kernel_rfl))))))
      have y2 : L 2 = true := shut_at hs 3 2 (by kernel_rfl) (shut_at hs 4 3 (by kernel_rfl) (shut_at hs 5 4 (by kernel_rfl) (shut_at hs 6 5 (by kernel_rfl) (shut_at hs 14 6 (by kernel_rfl) (shut_at hs 22 14 (by kernel_rfl) (shut_at hs 24 22 (by kernel_rfl) (up_at hu 24 (by kernel_rfl))))))))
      have y3 : L 3 = true := shut_at hs 4 3 (by kernel_rfl) (shut_at hs 5 4 (by kernel_rfl) (shut_at hs 6 5 (by kernel_rfl) (shut_at hs 14 6 (by kernel_rfl) (shut_at hs 22 14 (by kernel_rfl) (shut_at hs 24 22 (by kernel_rfl) (up_at hu 24 (by kernel_rfl)))))))
      have y4 : L 4 = true := shut_at hs 5 4 (by kernel_rfl) (shut_at hs 6 5 (by kernel_rfl) (shut_at hs 14 6 (by kernel_rfl) (shut_at hs 22 14 (by kernel_rfl) (shut_at hs 24 22 (by kernel_rfl) (up_at hu 24 (by kernel_rfl))))))
      have y5 : L 5 = true := shut_at hs 6 5 (by kernel_rfl) (shut_at hs 14 6 (by kernel_rfl) (shut_at hs 22 14 (by kernel_rfl) (shut_at hs 24 22 (by kernel_rfl) (up_at hu 24 (by kernel_rfl)))))
      have y6 : L 6 = true := shut_at hs 14 6 (by kernel_rfl) (shut_at hs 22 14 (by kernel_rfl) (shut_at hs 24 22 (by kernel_rfl) (up_at hu 24 (by kernel_rfl))))
      have y7 : L 7 = true := shut_at hs 8 7 (by kernel_rfl) (shut_at hs 12 8 (by kernel_rfl) (shut_at hs 13 12 (by kernel_rfl) (shut_at hs 14 13 (by kernel_rfl) (shut_at hs 22 14 (by kernel_rfl) (shut_at hs 24 22 (by kernel_rfl) (up_at hu 24 (by kernel_rfl)))))))
      have y8 : L 8 = true := shut_at hs 12 8 (by kernel_rfl) (shut_at hs 13 12 (by kernel_rfl) (shut_at hs 14 13 (by kernel_rfl) (shut_at hs 22 14 (by kernel_rfl) (shut_at hs 24 22 (by kernel_rfl) (up_at hu 24 (by kernel_rfl))))))
      have y9 : L 9 = true := shut_at hs 10 9 (by kernel_rfl) (shut_at hs 11 10 (by kernel_rfl) (shut_at hs 12 11 (by kernel_rfl) (shut_at hs 13 12 (by kernel_rfl) (shut_at hs 14 13 (by kernel_rfl) (shut_at hs 22 14 (by kernel_rfl) (shut_at hs 24 22 (by kernel_rfl) (up_at hu 24 (by kernel_rfl))))))))
      have y10 : L 10 = true := shut_at hs 11 10 (by kernel_rfl) (shut_at hs 12 11 (by kernel_rfl) (shut_at hs 13 12 (by kernel_rfl) (shut_at hs 14 13 (by kernel_rfl) (shut_at hs 22 14 (by kernel_rfl) (shut_at hs 24 22 (by kernel_rfl) (up_at hu 24 (by kernel_rfl)))))))
      have y11 : L 11 = true := shut_at hs 12 11 (by kernel_rfl) (shut_at hs 13 12 (by kernel_rfl) (shut_at hs 14 13 (by kernel_rfl) (shut_at hs 22 14 (by kernel_rfl) (shut_at hs 24 22 (by kernel_rfl) (up_at hu 24 (by kernel_rfl))))))
      have y12 : L 12 = true := shut_at hs 13 12 (by kernel_rfl) (shut_at hs 14 13 (by kernel_rfl) (shut_at hs 22 14 (by kernel_rfl) (shut_at hs 24 22 (by kernel_rfl) (up_at hu 24 (by kernel_rfl)))))
      have y13 : L 13 = true := shut_at hs 14 13 (by kernel_rfl) (shut_at hs 22 14 (by kernel_rfl) (shut_at hs 24 22 (by kernel_rfl) (up_at hu 24 (by kernel_rfl))))
      have y14 : L 14 = true := shut_at hs 22 14 (by kernel_rfl) (shut_at hs 24 22 (by kernel_rfl) (up_at hu 24 (by kernel_rfl)))
      have y15 : L 15 = true := shut_at hs 20 15 (by kernel_rfl) (shut_at hs 22 20 (by kernel_rfl) (shut_at hs 24 22 (by kernel_rfl) (up_at hu 24 (by kernel_rfl))))
      have y16 : L 16 = true := shut_at hs 20 16 (by kernel_rfl) (shut_at hs 22 20 (by kernel_rfl) (shut_at hs 24 22 (by kernel_rfl) (up_at hu 24 (by kernel_rfl))))
      have y17 : L 17 = true := shut_at hs 20 17 (by kernel_rfl) (shut_at hs 22 20 (by kernel_rfl) (shut_at hs 24 22 (by kernel_rfl) (up_at hu 24 (by kernel_rfl))))
      have y18 : L 18 = true := shut_at hs 19 18 (by kernel_rfl) (shut_at hs 20 19 (by kernel_rfl) (shut_at hs 22 20 (by kernel_rfl) (shut_at hs 24 22 (by kernel_rfl) (up_at hu 24 (by kernel_rfl)))))
      have y19 : L 19 = true := shut_at hs 20 19 (by kernel_rfl) (shut_at hs 22 20 (by kernel_rfl) (shut_at hs 24 22 (by kernel_rfl) (up_at hu 24 (by kernel_rfl))))
      have y20 : L 20 = true := shut_at hs 22 20 (by kernel_rfl) (shut_at hs 24 22 (by kernel_rfl) (up_at hu 24 (by kernel_rfl)))
      have y21 : L 21 = true := shut_at hs 22 21 (by kernel_rfl) (shut_at hs 24 22 (by kernel_rfl) (up_at hu 24 (by kernel_rfl)))
      have y22 : L 22 = true := shut_at hs 24 22 (by kernel_rfl) (up_at hu 24 (by kernel_rfl))
      have y23 : L 23 = true := shut_at hs 24 23 (by kernel_rfl) (up_at hu 24 (by kernel_rfl))
      have y24 : L 24 = true := up_at hu 24 (by kernel_rfl)
      refine opIn_run_g (v := .slice (some ⟨bq, oq, none⟩) m4 c6) (w' := w') (j := 24) (b := true) rfl rfl (by simp [yielded, y0, y1, y2, y3, y4, y5, y6, y7, y8, y9, y10, y11, y12, y13, y14, y15, y16, y17, y18, y19, y20, y21, y22, y23, y24, hL]) (fun c h => by cases h) (fun _ => trivial) ?_ ⟨A1, c1, A2, c2, by simp [Act.put, upd, y0, y1, y2, y3, y4, y5, y6, y7, y8, y9, y10, y11, y12, y13, y14, y15, y16, y17, y18, y19, y20, y21, y22, y23, y24, hL], hcm, by simpa [upd] using hph⟩
      simp only [y0, y1, y2, y3, y4, y5, y6, y7, y8, y9, y10, y11, y12, y13, y14, y15, y16, y17, y18, y19, y20, y21, y22, y23, y24, hL, cond_true, cond_false]
      go_simp
    · skip
      have y0 : L 0 = true := shut_at hs 1 0 (by kernel_rfl) (shut_at hs 5 1 (by kernel_rfl) (shut_at hs 6 5 (by kernel_rfl) (shut_at hs 14 6 (by kernel_rfl) (shut_at hs 22 14 (by kernel_rfl) (shut_at hs 24 22 (by kernel_rfl) (up_at hu 24 (by kernel_rfl)))))))
      have y1 : L 1 = true := shut_at hs 5 1 (by kernel_rfl) (shut_at hs 6 5 (by kernel_rfl) (shut_at hs 14 6 (by kernel_rfl) (shut_at hs 22 14 (by kernel_rfl) (shut_at hs 24 22 (by kernel_rfl) (up_at hu 24 (by kernel_rfl))))))
      have y2 : L 2 = true := shut_at hs 3 2 (by kernel_rfl) (shut_at hs 4 3 (by kernel_rfl) (shut_at hs 5 4 (by kernel_rfl) (shut_at hs 6 5 (by kernel_rfl) (shut_at hs 14 6 (by kernel_rfl) (shut_at hs 22 14 (by kernel_rfl) (shut_at hs 24 22 (by kernel_rfl) (up_at hu 24 (by kernel_rfl))))))))
      have y3 : L 3 = true := shut_at hs 4 3 (by kernel_rfl) (shut_at hs 5 4 (by kernel_rfl) (shut_at hs 6 5 (by kernel_rfl) (shut_at hs 14 6 (by kernel_rfl) (shut_at hs 22 14 (by kernel_rfl) (shut_at hs 24 22 (by kernel_rfl) (up_at hu 24 (by kernel_rfl)))))))
      have y4 : L 4 = true := shut_at hs 5 4 (by kernel_rfl) (shut_at hs 6 5 (by kernel_rfl) (shut_at hs 14 6 (by kernel_rfl) (shut_at hs 22 14 (by kernel_rfl) (shut_at hs 24 22 (by kernel_rfl) (up_at hu 24 (by kernel_rfl))))))
      have y5 : L 5 = true := shut_at hs 6 5 (by kernel_rfl) (shut_at hs 14 6 (by kernel_rfl) (shut_at hs 22 14 (by kernel_rfl) (shut_at hs 24 22 (by kernel_rfl) (up_at hu 24 (by kernel_rfl)))))
      have y6 : L 6 = true := shut_at hs 14 6 (by kernel_rfl) (shut_at hs 22 14 (by kernel_rfl) (shut_at hs 24 22 (by kernel_rfl) (up_at hu 24 (by kernel_rfl))))
      have y7 : L 7 = true := shut_at hs 8 7 (by kernel_rfl) (shut_at hs 12 8 (by kernel_rfl) (shut_at hs 13 12 (by kernel_rfl) (shut_at hs 14 13 (by kernel_rfl) (shut_at hs 22 14 (by kernel_rfl) (shut_at hs 24 22 (by kernel_rfl) (up_at hu 24 (by kernel_rfl)))))))
      have y8 : L 8 = true := shut_at hs 12 8 (by kernel_rfl) (shut_at hs 13 12 (by kernel_rfl) (shut_at hs 14 13 (by kernel_rfl) (shut_at hs 22 14 (by kernel_rfl) (shut_at hs 24 22 (by kernel_rfl) (up_at hu 24 (by kernel_rfl))))))
      have y9 : L 9 = true := shut_at hs 10 9 (by kernel_rfl) (shut_at hs 11 10 (by kernel_rfl) (shut_at hs 12 11 (by kernel_rfl) (shut_at hs 13 12 (by kernel_rfl) (shut_at hs 14 13 (by kernel_rfl) (shut_at hs 22 14 (by kernel_rfl) (shut_at hs 24 22 (by kernel_rfl) (up_at hu 24 (by kernel_rfl))))))))
      have y10 : L 10 = true := shut_at hs 11 10 (by kernel_rfl) (shut_at hs 12 11 (by kernel_rfl) (shut_at hs 13 12 (by kernel_rfl) (shut_at hs 14 13 (by kernel_rfl) (shut_at hs 22 14 (by kernel_rfl) (shut_at hs 24 22 (by kernel_rfl) (up_at hu 24 (by kernel_rfl)))))))
      have y11 : L 11 = true := shut_at hs 12 11 (by kernel_rfl) (shut_at hs 13 12 (by kernel_rfl) (shut_at hs 14 13 (by kernel_rfl) (shut_at hs 22 14 (by kernel_rfl) (shut_at hs 24 22 (by kernel_rfl) (up_at hu 24 (by kernel_rfl))))))
      have y12 : L 12 = true := shut_at hs 13 12 (by kernel_rfl) (shut_at hs 14 13 (by kernel_rfl) (shut_at hs 22 14 (by kernel_rfl) (shut_at hs 24 22 (by kernel_rfl) (up_at hu 24 (by kernel_rfl)))))
      have y13 : L 13 = true := shut_at hs 14 13 (by kernel_rfl) (shut_at hs 22 14 (by kernel_rfl) (shut_at hs 24 22 (by kernel_rfl) (up_at hu 24 (by kernel_rfl))))
      have y14 : L 14 = true := shut_at hs 22 14 (by kernel_rfl) (shut_at hs 24 22 (by kernel_rfl) (up_at hu 24 (by kernel_rfl)))
      have y15 : L 15 = true := shut_at hs 20 15 (by kernel_rfl) (shut_at hs 22 20 (by kernel_rfl) (shut_at hs 24 22 (by kernel_rfl) (up_at hu 24 (by kernel_rfl))))
      have y16 : L 16 = true := shut_at hs 20 16 (by kernel_rfl) (shut_at hs 22 20 (by kernel_rfl) (shut_at hs 24 22 (by kernel_rfl) (up_at hu 24 (by kernel_rfl))))
      have y17 : L 17 = true := shut_at hs 20 17 (by kernel_rfl) (shut_at hs 22 20 (by kernel_rfl) (shut_at hs 24 22 (by kernel_rfl) (up_at hu 24 (by kernel_rfl))))
      have y18 : L 18 = true := shut_at hs 19 18 (by kernel_rfl) (shut_at hs 20 19 (by kernel_rfl) (shut_at hs 22 20 (by kernel_rfl) (shut_at hs 24 22 (by kernel_rfl) (up_at hu 24 (by kernel_rfl)))))
      have y19 : L 19 = true := shut_at hs 20 19 (by kernel_rfl) (shut_at hs 22 20 (by kernel_rfl) (shut_at hs 24 22 (by kernel_rfl) (up_at hu 24 (by kernel_rfl))))
      have y20 : L 20 = true := shut_at hs 22 20 (by kernel_rfl) (shut_at hs 24 22 (by kernel_rfl) (up_at hu 24 (by kernel_rfl)))
      have y21 : L 21 = true := shut_at hs 22 21 (by kernel_rfl) (shut_at hs 24 22 (by kernel_rfl) (up_at hu 24 (by kernel_rfl)))
      have y22 : L 22 = true := shut_at hs 24 22 (by kernel_rfl) (up_at hu 24 (by kernel_rfl))
      have y23 : L 23 = true := shut_at hs 24 23 (by kernel_rfl) (up_at hu 24 (by kernel_rfl))
      have y24 : L 24 = true := up_at hu 24 (by kernel_rfl)
      have y33 : L 33 = true := up_at hu 33 (by kernel_rfl)
      refine opIn_run_g (v := .pointer (some ⟨bq, oq, none⟩)) (w' := w') (j := 24) (b := true) rfl rfl (by simp [yielded, y0, y1, y2, y3, y4, y5, y6, y7, y8, y9, y10, y11, y12, y13, y14, y15, y16, y17, y18, y19, y20, y21, y22, y23, y24, y33, hL]) (fun c h => by cases h) (fun _ => trivial) ?_ ⟨A1, c1, A2, c2, by simp [Act.put, upd, y0, y1, y2, y3, y4, y5, y6, y7, y8, y9, y10, y11, y12, y13, y14, y15, y16, y17, y18, y19, y20, y21, y22, y23, y24, y33, hL], hcm, by simpa [upd] using hph⟩
      simp only [y0, y1, y2, y3, y4, y5, y6, y7, y8, y9, y10, y11, y12, y13, y14, y15, y16, y17, y18, y19, y20, y21, y22, y23, y24, y33, hL, cond_true, cond_false]
      go_simp
    · skip
      have y0 : L 0 = true := shut_at hs 1 0 (by kernel_rfl) (shut_at hs 5 1 (by kernel_rfl) (shut_at hs 6 5 (by kernel_rfl) (shut_at hs 14 6 (by kernel_rfl) (shut_at hs 22 14 (by kernel_rfl) (shut_at hs 24 22 (by kernel_rfl) (up_at hu 24 (by kernel_rfl)))))))
      have y1 : L 1 = true := shut_at hs 5 1 (by kernel_rfl) (shut_at hs 6 5 (by kernel_rfl) (shut_at hs 14 6 (by kernel_rfl) (shut_at hs 22 14 (by kernel_rfl) (shut_at hs 24 22 (by kernel_rfl) (up_at hu 24 (by kernel_rfl))))))
      have y2 : L 2 = true := shut_at hs 3 2 (by kernel_rfl) (shut_at hs 4 3 (by kernel_rfl) (shut_at hs 5 4 (by kernel_rfl) (shut_at hs 6 5 (by kernel_rfl) (shut_at hs 14 6 (by kernel_rfl) (shut_at hs 22 14 (by kernel_rfl) (shut_at hs 24 22 (by kernel_rfl) (up_at hu 24 (by kernel_rfl))))))))
      have y3 : L 3 = true := shut_at hs 4 3 (by kernel_rfl) (shut_at hs 5 4 (by kernel_rfl) (shut_at hs 6 5 (by kernel_rfl) (shut_at hs 14 6 (by kernel_rfl) (shut_at hs 22 14 (by kernel_rfl) (shut_at hs 24 22 (by kernel_rfl) (up_at hu 24 (by kernel_rfl)))))))
      have y4 : L 4 = true := shut_at hs 5 4 (by kernel_rfl) (shut_at hs 6 5 (by kernel_rfl) (shut_at hs 14 6 (by kernel_rfl) (shut_at hs 22 14 (by kernel_rfl) (shut_at hs 24 22 (by kernel_rfl) (up_at hu 24 (by kernel_rfl))))))
      have y5 : L 5 = true := shut_at hs 6 5 (by kernel_rfl) (shut_at hs 14 6 (by kernel_rfl) (shut_at hs 22 14 (by kernel_rfl) (shut_at hs 24 22 (by kernel_rfl) (up_at hu 24 (by kernel_rfl)))))
      have y6 : L 6 = true := shut_at hs 14 6 (by kernel_rfl) (shut_at hs 22 14 (by kernel_rfl) (shut_at hs 24 22 (by kernel_rfl) (up_at hu 24 (by kernel_rfl))))
      have y7 : L 7 = true := shut_at hs 8 7 (by kernel_rfl) (shut_at hs 12 8 (by kernel_rfl) (shut_at hs 13 12 (by kernel_rfl) (shut_at hs 14 13 (by kernel_rfl) (shut_at hs 22 14 (by kernel_rfl) (shut_at hs 24 22 (by kernel_rfl) (up_at hu 24 (by kernel_rfl)))))))
      have y8 : L 8 = true := shut_at hs 12 8 (by kernel_rfl) (shut_at hs 13 12 (by kernel_rfl) (shut_at hs 14 13 (by kernel_rfl) (shut_at hs 22 14 (by kernel_rfl) (shut_at hs 24 22 (by kernel_rfl) (up_at hu 24 (by kernel_rfl))))))
      have y9 : L 9 = true := shut_at hs 10 9 (by kernel_rfl) (shut_at hs 11 10 (by kernel_rfl) (shut_at hs 12 11 (by kernel_rfl) (shut_at hs 13 12 (by kernel_rfl) (shut_at hs 14 13 (by kernel_rfl) (shut_at hs 22 14 (by kernel_rfl) (shut_at hs 24 22 (by kernel_rfl) (up_at hu 24 (by kernel_rfl))))))))
      have y10 : L 10 = true := shut_at hs 11 10 (by kernel_rfl) (shut_at hs 12 11 (by kernel_rfl) (shut_at hs 13 12 (by kernel_rfl) (shut_at hs 14 13 (by kernel_rfl) (shut_at hs 22 14 (by kernel_rfl) (shut_at hs 24 22 (by kernel_rfl) (up_at hu 24 (by kernel_rfl)))))))
      have y11 : L 11 = true := shut_at hs 12 11 (by kernel_rfl) (shut_at hs 13 12 (by kernel_rfl) (shut_at hs 14 13 (by kernel_rfl) (shut_at hs 22 14 (by kernel_rfl) (shut_at hs 24 22 (by kernel_rfl) (up_at hu 24 (by kernel_rfl))))))
      have y12 : L 12 = true := shut_at hs 13 12 (by kernel_rfl) (shut_at hs 14 13 (by kernel_rfl) (shut_at hs 22 14 (by kernel_rfl) (shut_at hs 24 22 (by kernel_rfl) (up_at hu 24 (by kernel_rfl)))))
      have y13 : L 13 = true := shut_at hs 14 13 (by kernel_rfl) (shut_at hs 22 14 (by kernel_rfl) (shut_at hs 24 22 (by kernel_rfl) (up_at hu 24 (by kernel_rfl))))
      have y14 : L 14 = true := shut_at hs 22 14 (by kernel_rfl) (shut_at hs 24 22 (by kernel_rfl) (up_at hu 24 (by kernel_rfl)))
      have y15 : L 15 = true := shut_at hs 20 15 (by kernel_rfl) (shut_at hs 22 20 (by kernel_rfl) (shut_at hs 24 22 (by kernel_rfl) (up_at hu 24 (by kernel_rfl))))
      have y16 : L 16 = true := shut_at hs 20 16 (by kernel_rfl) (shut_at hs 22 20 (by kernel_rfl) (shut_at hs 24 22 (by kernel_rfl) (up_at hu 24 (by kernel_rfl))))
      have y17 : L 17 = true := shut_at hs 20 17 (by kernel_rfl) (shut_at hs 22 20 (by kernel_rfl) (shut_at hs 24 22 (by kernel_rfl) (up_at hu 24 (by kernel_rfl))))
      have y18 : L 18 = true := shut_at hs 19 18 (by kernel_rfl) (shut_at hs 20 19 (by kernel_rfl) (shut_at hs 22 20 (by kernel_rfl) (shut_at hs 24 22 (by kernel_rfl) (up_at hu 24 (by kernel_rfl)))))
      have y19 : L 19 = true := shut_at hs 20 19 (by kernel_rfl) (shut_at hs 22 20 (by kernel_rfl) (shut_at hs 24 22 (by kernel_rfl) (up_at hu 24 (by kernel_rfl))))
      have y20 : L 20 = true := shut_at hs 22 20 (by kernel_rfl) (shut_at hs 24 22 (by kernel_rfl) (up_at hu 24 (by kernel_rfl)))
      have y21 : L 21 = true := shut_at hs 22 21 (by kernel_rfl) (shut_at hs 24 22 (by kernel_rfl) (up_at hu 24 (by kernel_rfl)))
      have y22 : L 22 = true := shut_at hs 24 22 (by kernel_rfl) (up_at hu 24 (by kernel_rfl))
      have y23 : L 23 = true := shut_at hs 24 23 (by kernel_rfl) (up_at hu 24 (by kernel_rfl))
      have y24 : L 24 = true := up_at hu 24 (by kernel_rfl)
      have y33 : L 33 = true := shut_at hs 34 33 (by kernel_rfl) (up_at hu 34 (by kernel_rfl))
      have y34 : L 34 = true := up_at hu 34 (by kernel_rfl)
      refine opIn_run_g (v := .slice A7 L2 c7) (w' := w') (j := 24) (b := true) rfl rfl (by simp [yielded, y0, y1, y2, y3, y4, y5, y6, y7, y8, y9, y10, y11, y12, y13, y14, y15, y16, y17, y18, y19, y20, y21, y22, y23, y24, y33, y34, hL]) (fun c h => by cases h) (fun _ => trivial) ?_ ⟨A1, c1, A2, c2, by simp [Act.put, upd, y0, y1, y2, y3, y4, y5, y6, y7, y8, y9, y10, y11, y12, y13, y14, y15, y16, y17, y18, y19, y20, y21, y22, y23, y24, y33, y34, hL], hcm, by simpa [upd] using hph⟩
      simp only [y0, y1, y2, y3, y4, y5, y6, y7, y8, y9, y10, y11, y12, y13, y14, y15, y16, y17, y18, y19, y20, y21, y22, y23, y24, y33, y34, hL, cond_true, cond_false]
      have x0 := (hcm.cell (p := ⟨bq, oq, none⟩) hbq).trans HC7.out; go_simp
    · skip
      have y0 : L 0 = true := shut_at hs 1 0 (by kernel_rfl) (shut_at hs 5 1 (by kernel_rfl) (shut_at hs 6 5 (by kernel_rfl) (shut_at hs 14 6 (by kernel_rfl) (shut_at hs 22 14 (by kernel_rfl) (shut_at hs 24 22 (by kernel_rfl) (up_at hu 24 (by kernel_rfl)))))))
      have y1 : L 1 = true := shut_at hs 5 1 (by kernel_rfl) (shut_at hs 6 5 (by kernel_rfl) (shut_at hs 14 6 (by kernel_rfl) (shut_at hs 22 14 (by kernel_rfl) (shut_at hs 24 22 (by kernel_rfl) (up_at hu 24 (by kernel_rfl))))))
      have y2 : L 2 = true := shut_at hs 3 2 (by kernel_rfl) (shut_at hs 4 3 (by kernel_rfl) (shut_at hs 5 4 (by kernel_rfl) (shut_at hs 6 5 (by kernel_rfl) (shut_at hs 14 6 (by kernel_rfl) (shut_at hs 22 14 (by kernel_rfl) (shut_at hs 24 22 (by kernel_rfl) (up_at hu 24 (by kernel_rfl))))))))
      have y3 : L 3 = true := shut_at hs 4 3 (by kernel_rfl) (shut_at hs 5 4 (by kernel_rfl) (shut_at hs 6 5 (by kernel_rfl) (shut_at hs 14 6 (by kernel_rfl) (shut_at hs 22 14 (by kernel_rfl) (shut_at hs 24 22 (by kernel_rfl) (up_at hu 24 (by kernel_rfl)))))))
      have y4 : L 4 = true := shut_at hs 5 4 (by kernel_rfl) (shut_at hs 6 5 (by kernel_rfl) (shut_at hs 14 6 (by kernel_rfl) (shut_at hs 22 14 (by kernel_rfl) (shut_at hs 24 22 (by kernel_rfl) (up_at hu 24 (by kernel_rfl))))))
      have y5 : L 5 = true := shut_at hs 6 5 (by kernel_rfl) (shut_at hs 14 6 (by kernel_rfl) (shut_at hs 22 14 (by kernel_rfl) (shut_at hs 24 22 (by kernel_rfl) (up_at hu 24 (by kernel_rfl)))))
      have y6 : L 6 = true := shut_at hs 14 6 (by kernel_rfl) (shut_at hs 22 14 (by kernel_rfl) (shut_at hs 24 22 (by kernel_rfl) (up_at hu 24 (by kernel_rfl))))
      have y7 : L 7 = true := shut_at hs 8 7 (by kernel_rfl) (shut_at hs 12 8 (by kernel_rfl) (shut_at hs 13 12 (by kernel_rfl) (shut_at hs 14 13 (by kernel_rfl) (shut_at hs 22 14 (by kernel_rfl) (shut_at hs 24 22 (by kernel_rfl) (up_at hu 24 (by kernel_rfl)))))))
      have y8 : L 8 = true := shut_at hs 12 8 (by kernel_rfl) (shut_at hs 13 12 (by kernel_rfl) (shut_at hs 14 13 (by kernel_rfl) (shut_at hs 22 14 (by kernel_rfl) (shut_at hs 24 22 (by kernel_rfl) (up_at hu 24 (by kernel_rfl))))))
      have y9 : L 9 = true := shut_at hs 10 9 (by kernel_rfl) (shut_at hs 11 10 (by kernel_rfl) (shut_at hs 12 11 (by kernel_rfl) (shut_at hs 13 12 (by kernel_rfl) (shut_at hs 14 13 (by kernel_rfl) (shut_at hs 22 14 (by kernel_rfl) (shut_at hs 24 22 (by kernel_rfl) (up_at hu 24 (by kernel_rfl))))))))
      have y10 : L 10 = true := shut_at hs 11 10 (by kernel_rfl) (shut_at hs 12 11 (by kernel_rfl) (shut_at hs 13 12 (by kernel_rfl) (shut_at hs 14 13 (by kernel_rfl) (shut_at hs 22 14 (by kernel_rfl) (shut_at hs 24 22 (by kernel_rfl) (up_at hu 24 (by kernel_rfl)))))))
      have y11 : L 11 = true := shut_at hs 12 11 (by kernel_rfl) (shut_at hs 13 12 (by kernel_rfl) (shut_at hs 14 13 (by kernel_rfl) (shut_at hs 22 14 (by kernel_rfl) (shut_at hs 24 22 (by kernel_rfl) (up_at hu 24 (by kernel_rfl))))))
      have y12 : L 12 = true := shut_at hs 13 12 (by kernel_rfl) (shut_at hs 14 13 (by kernel_rfl) (shut_at hs 22 14 (by kernel_rfl) (shut_at hs 24 22 (by kernel_rfl) (up_at hu 24 (by kernel_rfl)))))
      have y13 : L 13 = true := shut_at hs 14 13 (by kernel_rfl) (shut_at hs 22 14 (by kernel_rfl) (shut_at hs 24 22 (by kernel_rfl) (up_at hu 24 (by kernel_rfl))))
      have y14 : L 14 = true := shut_at hs 22 14 (by kernel_rfl) (shut_at hs 24 22 (by kernel_rfl) (up_at hu 24 (by kernel_rfl)))
      have y15 : L 15 = true := shut_at hs 20 15 (by kernel_rfl) (shut_at hs 22 20 (by kernel_rfl) (shut_at hs 24 22 (by kernel_rfl) (up_at hu 24 (by kernel_rfl))))
      have y16 : L 16 = true := shut_at hs 20 16 (by kernel_rfl) (shut_at hs 22 20 (by kernel_rfl) (shut_at hs 24 22 (by kernel_rfl) (up_at hu 24 (by kernel_rfl))))
      have y17 : L 17 = true := shut_at hs 20 17 (by kernel_rfl) (shut_at hs 22 20 (by kernel_rfl) (shut_at hs 24 22 (by kernel_rfl) (up_at hu 24 (by kernel_rfl))))
      have y18 : L 18 = true := shut_at hs 19 18 (by kernel_rfl) (shut_at hs 20 19 (by kernel_rfl) (shut_at hs 22 20 (by kernel_rfl) (shut_at hs 24 22 (by kernel_rfl) (up_at hu 24 (by kernel_rfl)))))
      have y19 : L 19 = true := shut_at hs 20 19 (by kernel_rfl) (shut_at hs 22 20 (by kernel_rfl) (shut_at hs 24 22 (by kernel_rfl) (up_at hu 24 (by kernel_rfl))))
      have y20 : L 20 = true := shut_at hs 22 20 (by kernel_rfl) (shut_at hs 24 22 (by kernel_rfl) (up_at hu 24 (by kernel_rfl)))
      have y21 : L 21 = true := shut_at hs 22 21 (by kernel_rfl) (shut_at hs 24 22 (by kernel_rfl) (up_at hu 24 (by kernel_rfl)))
      have y22 : L 22 = true := shut_at hs 24 22 (by kernel_rfl) (up_at hu 24 (by kernel_rfl))
      have y23 : L 23 = true := shut_at hs 24 23 (by kernel_rfl) (up_at hu 24 (by kernel_rfl))
      have y24 : L 24 = true := up_at hu 24 (by kernel_rfl)
      have y25 : L 25 = true := shut_at hs 32 25 (by kernel_rfl) (up_at hu 32 (by kernel_rfl))
      have y26 : L 26 = true := shut_at hs 32 26 (by kernel_rfl) (up_at hu 32 (by kernel_rfl))
      have y27 : L 27 = true := shut_at hs 32 27 (by kernel_rfl) (up_at hu 32 (by kernel_rfl))
      have y28 : L 28 = true := shut_at hs 29 28 (by kernel_rfl) (shut_at hs 31 29 (by kernel_rfl) (shut_at hs 32 31 (by kernel_rfl) (up_at hu 32 (by kernel_rfl))))
      have y29 : L 29 = true := shut_at hs 31 29 (by kernel_rfl) (shut_at hs 32 31 (by kernel_rfl) (up_at hu 32 (by kernel_rfl)))
      have y30 : L 30 = true := shut_at hs 31 30 (by kernel_rfl) (shut_at hs 32 31 (by kernel_rfl) (up_at hu 32 (by kernel_rfl)))
      have y31 : L 31 = true := shut_at hs 32 31 (by kernel_rfl) (up_at hu 32 (by kernel_rfl))
      have y32 : L 32 = true := up_at hu 32 (by kernel_rfl)
      have y33 : L 33 = true := shut_at hs 34 33 (by kernel_rfl) (shut_at hs 35 34 (by kernel_rfl) (up_at hu 35 (by kernel_rfl)))
      have y34 : L 34 = true := shut_at hs 35 34 (by kernel_rfl) (up_at hu 35 (by kernel_rfl))
      have y35 : L 35 = true := up_at hu 35 (by kernel_rfl)
      simp only [y0, y1, y2, y3, y4, y5, y6, y7, y8, y9, y10, y11, y12, y13, y14, y15, y16, y17, y18, y19, y20, y21, y22, y23, y24, y25, y26, y27, y28, y29, y30, y31, y32, y33, y34, y35, hL, cond_true, cond_false] at hph
      refine opIn_call_g (f := 17) (args := #[.slice A2 L2 c2, .slice A7 L2 c7]) (w' := w') (j := 24) (b := true) rfl rfl (by simp [yielded, y0, y1, y2, y3, y4, y5, y6, y7, y8, y9, y10, y11, y12, y13, y14, y15, y16, y17, y18, y19, y20, y21, y22, y23, y24, y25, y26, y27, y28, y29, y30, y31, y32, y33, y34, y35, hL]) (fun c h => by cases h) (fun _ => trivial) rfl ?_ ((callsIn_wide.2 (ints_q hph (HR7.out.keep hcm (Nat.le_refl _)))).mono ?_)
      · simp only [y0, y1, y2, y3, y4, y5, y6, y7, y8, y9, y10, y11, y12, y13, y14, y15, y16, y17, y18, y19, y20, y21, y22, y23, y24, y25, y26, y27, y28, y29, y30, y31, y32, y33, y34, y35, hL, cond_true, cond_false]
        go_simp
      · rintro e w2 ⟨rfl, hd⟩
        exact ⟨_, rfl, A1, c1, A2, c2, by simp [Act.put, upd, y0, y1, y2, y3, y4, y5, y6, y7, y8, y9, y10, y11, y12, y13, y14, y15, y16, y17, y18, y19, y20, y21, y22, y23, y24, y25, y26, y27, y28, y29, y30, y31, y32, y33, y34, y35, hL], hcm.trans ((Drew.blw hd).mono hcm.size), by simp only [upd, y0, y1, y2, y3, y4, y5, y6, y7, y8, y9, y10, y11, y12, y13, y14, y15, y16, y17, y18, y19, y20, y21, y22, y23, y24, y25, y26, y27, y28, y29, y30, y31, y32, y33, y34, y35, hL]; exact hph.keep (Drew.blw hd) (Nat.le_refl _)⟩
    · skip
      have y0 : L 0 = true := shut_at hs 1 0 (by kernel_rfl) (shut_at hs 5 1 (by kernel_rfl) (shut_at hs 6 5 (by kernel_rfl) (shut_at hs 14 6 (by kernel_rfl) (shut_at hs 22 14 (by kernel_rfl) (shut_at hs 24 22 (by kernel_rfl) (up_at hu 24 (by kernel_rfl)))))))
      have y1 : L 1 = true := shut_at hs 5 1 (by kernel_rfl) (shut_at hs 6 5 (by kernel_rfl) (shut_at hs 14 6 (by kernel_rfl) (shut_at hs 22 14 (by kernel_rfl) (shut_at hs 24 22 (by kernel_rfl) (up_at hu 24 (by kernel_rfl))))))
      have y2 : L 2 = true := shut_at hs 3 2 (by kernel_rfl) (shut_at hs 4 3 (by kernel_rfl) (shut_at hs 5 4 (by kernel_rfl) (shut_at hs 6 5 (by kernel_rfl) (shut_at hs 14 6 (by kernel_rfl) (shut_at hs 22 14 (by kernel_rfl) (shut_at hs 24 22 (by kernel_rfl) (up_at hu 24 (by kernel_rfl))))))))
      have y3 : L 3 = true := shut_at hs 4 3 (by kernel_rfl) (shut_at hs 5 4 (by kernel_rfl) (shut_at hs 6 5 (by kernel_rfl) (shut_at hs 14 6 (by kernel_rfl) (shut_at hs 22 14 (by kernel_rfl) (shut_at hs 24 22 (by kernel_rfl) (up_at hu 24 (by kernel_rfl)))))))
      have y4 : L 4 = true := shut_at hs 5 4 (by kernel_rfl) (shut_at hs 6 5 (by kernel_rfl) (shut_at hs 14 6 (by kernel_rfl) (shut_at hs 22 14 (by kernel_rfl) (shut_at hs 24 22 (by kernel_rfl) (up_at hu 24 (by kernel_rfl))))))
      have y5 : L 5 = true := shut_at hs 6 5 (by kernel_rfl) (shut_at hs 14 6 (by kernel_rfl) (shut_at hs 22 14 (by kernel_rfl) (shut_at hs 24 22 (by kernel_rfl) (up_at hu 24 (by kernel_rfl)))))
      have y6 : L 6 = true := shut_at hs 14 6 (by kernel_rfl) (shut_at hs 22 14 (by kernel_rfl) (shut_at hs 24 22 (by kernel_rfl) (up_at hu 24 (by kernel_rfl))))
      have y7 : L 7 = true := shut_at hs 8 7 (by kernel_rfl) (shut_at hs 12 8 (by kernel_rfl) (shut_at hs 13 12 (by kernel_rfl) (shut_at hs 14 13 (by kernel_rfl) (shut_at hs 22 14 (by kernel_rfl) (shut_at hs 24 22 (by kernel_rfl) (up_at hu 24 (by kernel_rfl)))))))
      have y8 : L 8 = true := shut_at hs 12 8 (by kernel_rfl) (shut_at hs 13 12 (by kernel_rfl) (shut_at hs 14 13 (by kernel_rfl) (shut_at hs 22 14 (by kernel_rfl) (shut_at hs 24 22 (by kernel_rfl) (up_at hu 24 (by kernel_rfl))))))
      have y9 : L 9 = true := shut_at hs 10 9 (by kernel_rfl) (shut_at hs 11 10 (by kernel_rfl) (shut_at hs 12 11 (by kernel_rfl) (shut_at hs 13 12 (by kernel_rfl) (shut_at hs 14 13 (by kernel_rfl) (shut_at hs 22 14 (by kernel_rfl) (shut_at hs 24 22 (by kernel_rfl) (up_at hu 24 (by kernel_rfl))))))))
      have y10 : L 10 = true := shut_at hs 11 10 (by kernel_rfl) (shut_at hs 12 11 (by kernel_rfl) (shut_at hs 13 12 (by kernel_rfl) (shut_at hs 14 13 (by kernel_rfl) (shut_at hs 22 14 (by kernel_rfl) (shut_at hs 24 22 (by kernel_rfl) (up_at hu 24 (by kernel_rfl)))))))
      have y11 : L 11 = true := shut_at hs 12 11 (by kernel_rfl) (shut_at hs 13 12 (by kernel_rfl) (shut_at hs 14 13 (by kernel_rfl) (shut_at hs 22 14 (by kernel_rfl) (shut_at hs 24 22 (by kernel_rfl) (up_at hu 24 (by kernel_rfl))))))
      have y12 : L 12 = true := shut_at hs 13 12 (by kernel_rfl) (shut_at hs 14 13 (by kernel_rfl) (shut_at hs 22 14 (by kernel_rfl) (shut_at hs 24 22 (by kernel_rfl) (up_at hu 24 (by kernel_rfl)))))
      have y13 : L 13 = true := shut_at hs 14 13 (by kernel_rfl) (shut_at hs 22 14 (by kernel_rfl) (shut_at hs 24 22 (by kernel_rfl) (up_at hu 24 (by kernel_rfl))))
      have y14 : L 14 = true := shut_at hs 22 14 (by kernel_rfl) (shut_at hs 24 22 (by kernel_rfl) (up_at hu 24 (by kernel_rfl)))
      have y15 : L 15 = true := shut_at hs 20 15 (by kernel_rfl) (shut_at hs 22 20 (by kernel_rfl) (shut_at hs 24 22 (by kernel_rfl) (up_at hu 24 (by kernel_rfl))))
      have y16 : L 16 = true := shut_at hs 20 16 (by kernel_rfl) (shut_at hs 22 20 (by kernel_rfl) (shut_at hs 24 22 (by kernel_rfl) (up_at hu 24 (by kernel_rfl))))
      have y17 : L 17 = true := shut_at hs 20 17 (by kernel_rfl) (shut_at hs 22 20 (by kernel_rfl) (shut_at hs 24 22 (by kernel_rfl) (up_at hu 24 (by kernel_rfl))))
      have y18 : L 18 = true := shut_at hs 19 18 (by kernel_rfl) (shut_at hs 20 19 (by kernel_rfl) (shut_at hs 22 20 (by kernel_rfl) (shut_at hs 24 22 (by kernel_rfl) (up_at hu 24 (by kernel_rfl)))))
      have y19 : L 19 = true := shut_at hs 20 19 (by kernel_rfl) (shut_at hs 22 20 (by kernel_rfl) (shut_at hs 24 22 (by kernel_rfl) (up_at hu 24 (by kernel_rfl))))
      have y20 : L 20 = true := shut_at hs 22 20 (by kernel_rfl) (shut_at hs 24 22 (by kernel_rfl) (up_at hu 24 (by kernel_rfl)))
      have y21 : L 21 = true := shut_at hs 22 21 (by kernel_rfl) (shut_at hs 24 22 (by kernel_rfl) (up_at hu 24 (by kernel_rfl)))
      have y22 : L 22 = true := shut_at hs 24 22 (by kernel_rfl) (up_at hu 24 (by kernel_rfl))
      have y23 : L 23 = true := shut_at hs 24 23 (by kernel_rfl) (up_at hu 24 (by kernel_rfl))
      have y24 : L 24 = true := up_at hu 24 (by kernel_rfl)
      have y25 : L 25 = true := shut_at hs 32 25 (by kernel_rfl) (shut_at hs 36 32 (by kernel_rfl) (up_at hu 36 (by kernel_rfl)))
      have y26 : L 26 = true := shut_at hs 32 26 (by kernel_rfl) (shut_at hs 36 32 (by kernel_rfl) (up_at hu 36 (by kernel_rfl)))
      have y27 : L 27 = true := shut_at hs 32 27 (by kernel_rfl) (shut_at hs 36 32 (by kernel_rfl) (up_at hu 36 (by kernel_rfl)))
      have y28 : L 28 = true := shut_at hs 29 28 (by kernel_rfl) (shut_at hs 31 29 (by kernel_rfl) (shut_at hs 32 31 (by kernel_rfl) (shut_at hs 36 32 (by kernel_rfl) (up_at hu 36 (by kernel_rfl)))))
      have y29 : L 29 = true := shut_at hs 31 29 (by kernel_rfl) (shut_at hs 32 31 (by kernel_rfl) (shut_at hs 36 32 (by kernel_rfl) (up_at hu 36 (by kernel_rfl))))
      have y30 : L 30 = true := shut_at hs 31 30 (by kernel_rfl) (shut_at hs 32 31 (by kernel_rfl) (shut_at hs 36 32 (by kernel_rfl) (up_at hu 36 (by kernel_rfl))))
      have y31 : L 31 = true := shut_at hs 32 31 (by kernel_rfl) (shut_at hs 36 32 (by kernel_rfl) (up_at hu 36 (by kernel_rfl)))
      have y32 : L 32 = true := shut_at hs 36 32 (by kernel_rfl) (up_at hu 36 (by kernel_rfl))
      have y33 : L 33 = true := shut_at hs 34 33 (by kernel_rfl) (shut_at hs 35 34 (by kernel_rfl) (shut_at hs 36 35 (by kernel_rfl) (up_at hu 36 (by kernel_rfl))))
      have y34 : L 34 = true := shut_at hs 35 34 (by kernel_rfl) (shut_at hs 36 35 (by kernel_rfl) (up_at hu 36 (by kernel_rfl)))
      have y35 : L 35 = true := shut_at hs 36 35 (by kernel_rfl) (up_at hu 36 (by kernel_rfl))
      have y36 : L 36 = true := up_at hu 36 (by kernel_rfl)
      refine opIn_run (v := .bool true) (w' := w') rfl rfl (fun c h => by cases h) (fun _ => trivial) ?_ ⟨A1, c1, A2, c2, by simp [Act.put, upd, y0, y1, y2, y3, y4, y5, y6, y7, y8, y9, y10, y11, y12, y13, y14, y15, y16, y17, y18, y19, y20, y21, y22, y23, y24, y25, y26, y27, y28, y29, y30, y31, y32, y33, y34, y35, y36, hL], hcm, by simpa [upd] using hph⟩
      simp only [y0, y1, y2, y3, y4, y5, y6, y7, y8, y9, y10, y11, y12, y13, y14, y15, y16, y17, y18, y19, y20, y21, y22, y23, y24, y25, y26, y27, y28, y29, y30, y31, y32, y33, y34, y35, y36, hL, cond_true, cond_false]
      go_simp
    · skip
      have y0 : L 0 = true := up_at hu 0 (by kernel_rfl)
      have y1 : L 1 = true := up_at hu 1 (by kernel_rfl)
      have y2 : L 2 = true := up_at hu 2 (by kernel_rfl)
      have y3 : L 3 = true := up_at hu 3 (by kernel_rfl)
      have y4 : L 4 = true := up_at hu 4 (by kernel_rfl)
      have y5 : L 5 = true := up_at hu 5 (by kernel_rfl)
      have y6 : L 6 = true := up_at hu 6 (by kernel_rfl)
      have y7 : L 7 = true := up_at hu 7 (by kernel_rfl)
      have y8 : L 8 = true := up_at hu 8 (by kernel_rfl)
      have y9 : L 9 = true := up_at hu 9 (by kernel_rfl)
      have y10 : L 10 = true := up_at hu 10 (by kernel_rfl)
      have y11 : L 11 = true := up_at hu 11 (by kernel_rfl)
      have y12 : L 12 = true := up_at hu 12 (by kernel_rfl)
      have y13 : L 13 = true := up_at hu 13 (by kernel_rfl)
      have y14 : L 14 = true := up_at hu 14 (by kernel_rfl)
      have y15 : L 15 = true := up_at hu 15 (by kernel_rfl)
      have y16 : L 16 = true := up_at hu 16 (by kernel_rfl)
      have y17 : L 17 = true := up_at hu 17 (by kernel_rfl)
      have y18 : L 18 = true := up_at hu 18 (by kernel_rfl)
      have y19 : L 19 = true := up_at hu 19 (by kernel_rfl)
      have y20 : L 20 = true := up_at hu 20 (by kernel_rfl)
      have y21 : L 21 = true := up_at hu 21 (by kernel_rfl)
      have y22 : L 22 = true := up_at hu 22 (by kernel_rfl)
      have y23 : L 23 = true := up_at hu 23 (by kernel_rfl)
      have y24 : L 24 = true := up_at hu 24 (by kernel_rfl)
      have y25 : L 25 = true := up_at hu 25 (by kernel_rfl)
      have y26 : L 26 = true := up_at hu 26 (by kernel_rfl)
      have y27 : L 27 = true := up_at hu 27 (by kernel_rfl)
      have y28 : L 28 = true := up_at hu 28 (by kernel_rfl)
      have y29 : L 29 = true := up_at hu 29 (by kernel_rfl)
      have y30 : L 30 = true := up_at hu 30 (by kernel_rfl)
      have y31 : L 31 = true := up_at hu 31 (by kernel_rfl)
      have y32 : L 32 = true := up_at hu 32 (by kernel_rfl)
      have y33 : L 33 = true := up_at hu 33 (by kernel_rfl)
      have y34 : L 34 = true := up_at hu 34 (by kernel_rfl)
      have y35 : L 35 = true := up_at hu 35 (by kernel_rfl)
      have y36 : L 36 = true := up_at hu 36 (by kernel_rfl)
      have y37 : L 37 = true := up_at hu 37 (by kernel_rfl)
      refine opIn_run (v := .bool true) (w' := w') rfl rfl (fun c h => by cases h) (fun _ => trivial) ?_ ⟨A1, c1, A2, c2, by simp [Act.put, upd, y0, y1, y2, y3, y4, y5, y6, y7, y8, y9, y10, y11, y12, y13, y14, y15, y16, y17, y18, y19, y20, y21, y22, y23, y24, y25, y26, y27, y28, y29, y30, y31, y32, y33, y34, y35, y36, y37, hL], hcm, by simpa [upd] using hph⟩
      simp only [y0, y1, y2, y3, y4, y5, y6, y7, y8, y9, y10, y11, y12, y13, y14, y15, y16, y17, y18, y19, y20, y21, y22, y23, y24, y25, y26, y27, y28, y29, y30, y31, y32, y33, y34, y35, y36, y37, hL, cond_true, cond_false]
      go_simp
  case fin =>
    intro L a' w' hall hI
    obtain ⟨A1, c1, A2, c2, rfl, hcm, hph⟩ := hI
    have l0 := hall 0 (by decide)
    have l1 := hall 1 (by decide)
    have l2 := hall 2 (by decide)
    have l3 := hall 3 (by decide)
    have l4 := hall 4 (by decide)
    have l5 := hall 5 (by decide)
    have l6 := hall 6 (by decide)
    have l7 := hall 7 (by decide)
    have l8 := hall 8 (by decide)
    have l9 := hall 9 (by decide)
    have l10 := hall 10 (by decide)
    have l11 := hall 11 (by decide)
    have l12 := hall 12 (by decide)
    have l13 := hall 13 (by decide)
    have l14 := hall 14 (by decide)
    have l15 := hall 15 (by decide)
    have l16 := hall 16 (by decide)
    have l17 := hall 17 (by decide)
    have l18 := hall 18 (by decide)
    have l19 := hall 19 (by decide)
    have l20 := hall 20 (by decide)
    have l21 := hall 21 (by decide)
    have l22 := hall 22 (by decide)
    have l23 := hall 23 (by decide)
    have l24 := hall 24 (by decide)
    have l25 := hall 25 (by decide)
    have l26 := hall 26 (by decide)
    have l27 := hall 27 (by decide)
    have l28 := hall 28 (by decide)
    have l29 := hall 29 (by decide)
    have l30 := hall 30 (by decide)
    have l31 := hall 31 (by decide)
    have l32 := hall 32 (by decide)
    have l33 := hall 33 (by decide)
    have l34 := hall 34 (by decide)
    have l35 := hall 35 (by decide)
    have l36 := hall 36 (by decide)
    have l37 := hall 37 (by decide)
    have l38 := hall 38 (by decide)
    simp only [l0, l1, l2, l3, l4, l5, l6, l7, l8, l9, l10, l11, l12, l13, l14, l15, l16, l17, l18, l19, l20, l21, l22, l23, l24, l25, l26, l27, l28, l29, l30, l31, l32, l33, l34, l35, l36, l37, l38, cond_true] at hph ⊢
    clear l0 l1 l2 l3 l4 l5 l6 l7 l8 l9 l10 l11 l12 l13 l14 l15 l16 l17 l18 l19 l20 l21 l22 l23 l24 l25 l26 l27 l28 l29 l30 l31 l32 l33 l34 l35 l36 l37 l38 hall
    have HE := Lib.hid (HBY.out.trans (hcm.mono HBY.out.size))
    clear hcm hph p1 p2 p3 p4 p5 p6 q1 q2
    go_wp2
    go_ret
    exact ⟨rfl, HE.out⟩
end Go.Proofs.Ytgadebfelomhpaa
