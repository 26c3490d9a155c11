/- DwtMoves, walked. -/
import Derived.Test.YtgadebfelomhpaaDwG
import Derived.Outline
set_option linter.unusedVariables false
set_option linter.unusedSimpArgs false
namespace Go.Proofs.Ytgadebfelomhpaa
open Go.RowKit

/-- A rectangle moved. -/
def mv (g : Geo) (a b : Nat) : Geo := ⟨g.x + a, g.y + b, g.w, g.h⟩
theorem mv_half (g : Geo) (a b : Nat) : (mv g (2 * a) (2 * b)).half = mv g.half a b := by
  unfold mv Geo.half
  simp only [Geo.mk.injEq]
  refine ⟨by omega, by omega, ?_, ?_⟩
  · rw [show (g.x + 2 * a) % 2 = g.x % 2 from by omega]
  · rw [show (g.y + 2 * b) % 2 = g.y % 2 from by omega]
theorem mv_lift (g : Geo) (a b : Nat) (P : Nat → Nat → Int) : liftP (mv g (2 * a) (2 * b)) P = liftP g P := by
  unfold liftP mv
  simp only
  rw [show (g.x + 2 * a) % 2 = g.x % 2 from by omega, show (g.y + 2 * b) % 2 = g.y % 2 from by omega]
theorem mv_quar (g : Geo) (a b : Nat) (Q : Nat → Nat → Int) (k : Nat) : quar (mv g (2 * a) (2 * b)) Q k = quar g Q k := by
  have h := mv_half g a b
  have hw : (mv g (2 * a) (2 * b)).half.w = g.half.w := by rw [h]; rfl
  have hh : (mv g (2 * a) (2 * b)).half.h = g.half.h := by rw [h]; rfl
  unfold quar qX qY qW qH
  rw [hw, hh]
  rfl
theorem mv_it (g : Geo) (P : Nat → Nat → Int) (k l n : Nat) : ∀ j, j ≤ n → itG (mv g (k * 2 ^ n) (l * 2 ^ n)) j = mv (itG g j) (k * 2 ^ (n - j)) (l * 2 ^ (n - j)) ∧ itP (mv g (k * 2 ^ n) (l * 2 ^ n)) P j = itP g P j := by
  intro j
  induction j with
  | zero => intro _; exact ⟨rfl, rfl⟩
  | succ j ih =>
    intro hj
    obtain ⟨h1, h2⟩ := ih (by omega)
    have e : ∀ c : Nat, c * 2 ^ (n - j) = 2 * (c * 2 ^ (n - (j + 1))) := fun c => by
      rw [show n - j = (n - (j + 1)) + 1 from by omega, Nat.pow_succ, Nat.mul_comm (2 ^ _) 2, ← Nat.mul_assoc, Nat.mul_comm c 2, Nat.mul_assoc]
    refine ⟨?_, ?_⟩
    · show (itG _ j).half = _
      rw [h1, e k, e l, mv_half]; rfl
    · show liftP (itG _ j) (itP _ P j) = liftP (itG g j) (itP g P j)
      rw [h1, h2, e k, e l, mv_lift]
theorem mv_bands (g : Geo) (P : Nat → Nat → Int) (k l n : Nat) : bandsL (mv g (k * 2 ^ n) (l * 2 ^ n)) P n = bandsL g P n := by
  have hh : ∀ j, j < n → highs (mv g (k * 2 ^ n) (l * 2 ^ n)) P j = highs g P j := fun j hj => by
    have e : ∀ c : Nat, c * 2 ^ (n - j) = 2 * (c * 2 ^ (n - (j + 1))) := fun c => by
      rw [show n - j = (n - (j + 1)) + 1 from by omega, Nat.pow_succ, Nat.mul_comm (2 ^ _) 2, ← Nat.mul_assoc, Nat.mul_comm c 2, Nat.mul_assoc]
    unfold highs
    rw [(mv_it g P k l n j (by omega)).1, (mv_it g P k l n (j + 1) (by omega)).2, e k, e l, mv_quar, mv_quar, mv_quar]
  have hk : ∀ i, i ≤ n → bandsK (mv g (k * 2 ^ n) (l * 2 ^ n)) P n i = bandsK g P n i := by
    intro i
    induction i with
    | zero =>
      intro _
      show [lowest _ P n] = [lowest g P n]
      unfold lowest
      rw [(mv_it g P k l n n (Nat.le_refl _)).1, (mv_it g P k l n n (Nat.le_refl _)).2]
      rfl
    | succ i ih =>
      intro hi
      show bandsK _ P n i ++ highs _ P (n - 1 - i) = bandsK g P n i ++ highs g P (n - 1 - i)
      rw [ih (by omega), hh _ (by omega)]
  exact hk n (Nat.le_refl _)

set_option maxHeartbeats 8000000 in
set_option maxRecDepth 100000 in
set_option pp.deepTerms true in
set_option pp.maxSteps 10000000 in
theorem walk_dwtMoves (a0 a1 a2 a3 lv : Int) (b1 : Option Addr) (len1 cap1 : Nat) (z1 : List Int) (ka la : Int) (w : World) (w1 : IsRow .i64 w b1 len1 cap1 z1) :
    Calls Try.prog 8 #[.agg #[.int .i64 a0, .int .i64 a1, .int .i64 a2, .int .i64 a3], .int .i64 lv, .slice b1 len1 cap1, .int .i64 ka, .int .i64 la] w fun e w' => e = .returned (.bool true) ∧ Below w.heap.size w w' := by
  have H1 := Lib.hid (rowI_is w1)
  clear w1
  go_enter Try.func8, Try.ntmps8
  go_wp2_with fail
  have HB0 : Hid (Below w.heap.size w (w.alloc (Obj.cells #[.int .i64 a0, .int .i64 a1, .int .i64 a2, .int .i64 a3] 23))) := Lib.hid ((Below.refl _ w).alloc (Nat.le_refl _) _)
  have HX0 := Lib.hid (RA.new w a0 a1 a2 a3)
  refine (known10 _).mono ?_
  rintro e wk ⟨rfl, bk⟩
  have HX1 := Lib.hid (HX0.out.keep bk HX0.out.lt)
  have HB1 := Lib.hid (HB0.out.trans (bk.mono HB0.out.size))
  obtain ⟨f0, f1, f2, f3, _⟩ := HX1.out.cells
  clear HX0 HB0 bk
  go_wp2_with fail
  refine (plane_any a0 a1 a2 a3 wk (H1.out.keep HB1.out (Nat.le_refl _))).mono ?_
  rintro e wp ⟨P, Ap, cp, rfl, hrow, hbd, hA, bp⟩
  have HX2 := Lib.hid (HX1.out.keep bp HX1.out.lt)
  have HB2 := Lib.hid (HB1.out.trans (bp.mono HB1.out.size))
  have hg := geoR_bd a0 a1 a2 a3
  generalize geoR a0 a1 a2 a3 = g at *
  obtain ⟨r0, r1, r2, r3, hr⟩ := rect_open g
  rw [hr]
  have HR := Lib.hid hr
  have hwh : g.w * g.h ≤ 144 := Nat.mul_le_mul hg.2.2.1 hg.2.2.2
  have HRW := Lib.hid hrow
  have HAW : Hid (∀ b o, Ap = some ⟨b, o, none⟩ → b ≠ w.heap.size) := Lib.hid (fun b o e => by have := hA b o e; have := HX1.out.lt; omega)
  have HBD := Lib.hid hbd
  clear f0 f1 f2 f3 HX1 HB1 bp hr hrow hbd hA H1
  obtain ⟨f0, f1, f2, f3, f4, f5, f6, f7⟩ := HX2.out.cells
  obtain ⟨N, hN⟩ : ∃ N, g.w * g.h = N := ⟨_, rfl⟩
  have hd2 := fun n W A c hn h => dsplit_any g P n A c W (by omega) (by omega) (by omega) hn HBD.out h
  rw [hN] at HRW hwh hd2 ⊢
  rw [HR.out] at hd2
  have HD := Lib.hid hd2
  have HN := Lib.hid hN
  clear hN hd2
  have HX3 : Hid (RA (setRect wp w.heap.size r0 r1 r2 r3) w.heap.size r0 r1 r2 r3) := Lib.hid (RA.setRect HX2.out)
  have HB3 : Hid (Below w.heap.size w (setRect wp w.heap.size r0 r1 r2 r3)) := Lib.hid ((((HB2.out.setCell (p := ⟨w.heap.size, 0, none⟩) (Nat.le_refl _) _).setCell (p := ⟨w.heap.size, 1, none⟩) (Nat.le_refl _) _).setCell (p := ⟨w.heap.size, 2, none⟩) (Nat.le_refl _) _).setCell (p := ⟨w.heap.size, 3, none⟩) (Nat.le_refl _) _)
  have HRW3 : Hid (RowI (setRect wp w.heap.size r0 r1 r2 r3) Ap N cp (flat g.w g.h P)) := Lib.hid (row_only HRW.out (setRect_only wp w.heap.size r0 r1 r2 r3) HAW.out)
  unfold setRect at HX3 HB3 HRW3
  clear HX2 HB2 HRW
  go_wp2_with fail
  obtain ⟨Z, hZ⟩ : ∃ Z, ((((wp.setCell ⟨w.heap.size, 0, none⟩ (.int .i64 r0)).setCell ⟨w.heap.size, 1, none⟩ (.int .i64 r1)).setCell ⟨w.heap.size, 2, none⟩ (.int .i64 r2)).setCell ⟨w.heap.size, 3, none⟩ (.int .i64 r3)) = Z := ⟨_, rfl⟩
  rw [hZ] at HX3 HB3 HRW3 ⊢
  clear hZ f0 f1 f2 f3 f4 f5 f6 f7
  refine (within10 lv 6 Z (by omega) (by omega)).mono ?_
  rintro e w' ⟨rfl, rfl⟩
  obtain ⟨n, hn⟩ : ∃ n : Nat, lv % 6 = (n : Int) := ⟨(lv % 6).toNat, by omega⟩
  have hn5 : n ≤ 5 := by omega
  rw [hn]
  clear hn
  go_wp2_with fail
  refine (within10 ka 4 Z (by omega) (by omega)).mono ?_
  rintro e w' ⟨rfl, rfl⟩
  obtain ⟨k, hk⟩ : ∃ k : Nat, ka % 4 = (k : Int) := ⟨(ka % 4).toNat, by omega⟩
  have hk3 : k ≤ 3 := by omega
  rw [hk]
  clear hk
  have hp : 2 ^ n ≤ 32 := by
    have := Nat.pow_le_pow_right (show 1 ≤ 2 by omega) hn5
    exact this
  have hkp : k * 2 ^ n ≤ 96 := Nat.mul_le_mul hk3 hp
  have hn0 : ¬ ((n : Int) < 0) := by omega
  have hn1 : (0 : Int) ≤ (n : Int) := by omega
  obtain ⟨dx, hdx⟩ : ∃ dx, k * 2 ^ n = dx := ⟨_, rfl⟩
  have hdx96 : dx ≤ 96 := by omega
  have s1 : (k : Int) * 2 ^ n = (dx : Int) := by rw [← hdx]; simp
  have HDX := Lib.hid hdx
  clear hdx
  go_wp2_with fail
  refine (within10 la 4 Z (by omega) (by omega)).mono ?_
  rintro e w' ⟨rfl, rfl⟩
  obtain ⟨l, hl⟩ : ∃ l : Nat, la % 4 = (l : Int) := ⟨(la % 4).toNat, by omega⟩
  have hl3 : l ≤ 3 := by omega
  rw [hl]
  clear hl
  have hlp : l * 2 ^ n ≤ 96 := Nat.mul_le_mul hl3 hp
  obtain ⟨dy, hdy⟩ : ∃ dy, l * 2 ^ n = dy := ⟨_, rfl⟩
  have hdy96 : dy ≤ 96 := by omega
  have s2 : (l : Int) * 2 ^ n = (dy : Int) := by rw [← hdy]; simp
  have HDY := Lib.hid hdy
  clear hdy
  obtain ⟨h0, h1, h2, h3, hh⟩ := rect_open (mv g dx dy)
  obtain ⟨e0, e1, e2, e3⟩ := rect_ints HR.out
  obtain ⟨e4, e5, e6, e7⟩ := rect_ints hh
  have HH := Lib.hid hh
  have u0 : r0 + (dx : Int) = h0 := by rw [e0, e4]; unfold mv; simp only; omega
  have u1 : r1 + (dy : Int) = h1 := by rw [e1, e5]; unfold mv; simp only; omega
  have u2 : r2 + (dx : Int) = h2 := by rw [e2, e6]; unfold mv; simp only; omega
  have u3 : r3 + (dy : Int) = h3 := by rw [e3, e7]; unfold mv; simp only; omega
  have p0 : 0 ≤ r0 ∧ r0 ≤ 1000 := by rw [e0]; omega
  have p1 : 0 ≤ r1 ∧ r1 ≤ 1000 := by rw [e1]; omega
  have p2 : 0 ≤ r2 ∧ r2 ≤ 1000 := by rw [e2]; omega
  have p3 : 0 ≤ r3 ∧ r3 ≤ 1000 := by rw [e3]; omega
  obtain ⟨f0, f1, f2, f3, _⟩ := HX3.out.cells
  clear hh e0 e1 e2 e3 e4 e5 e6 e7 hkp hlp hp
  go_wp2
  clear s1 s2 u0 u1 u2 u3 p0 p1 p2 p3 f0 f1 f2 f3
  have hX9 := RA.new Z h0 h1 h2 h3
  have hB9 : Below Z.heap.size Z (Z.alloc (Obj.cells #[.int .i64 h0, .int .i64 h1, .int .i64 h2, .int .i64 h3] 23)) := (Below.refl _ Z).alloc (Nat.le_refl _) _
  obtain ⟨W9, hW9⟩ : ∃ W9, (Z.alloc (Obj.cells #[.int .i64 h0, .int .i64 h1, .int .i64 h2, .int .i64 h3] 23)) = W9 := ⟨_, rfl⟩
  rw [hW9] at hX9 hB9 ⊢
  obtain ⟨Y, hY⟩ : ∃ Y, W9.drew = Y := ⟨_, rfl⟩
  have HXY : Hid (RA Y w.heap.size r0 r1 r2 r3) := Lib.hid (by rw [← hY]; exact HX3.out.keep (below_drewN hB9 1) HX3.out.lt)
  have HHY : Hid (RA Y Z.heap.size h0 h1 h2 h3) := Lib.hid (by rw [← hY]; exact hX9)
  have HRY : Hid (RowI Y Ap N cp (flat g.w g.h P)) := Lib.hid (by rw [← hY]; exact (HRW3.out.keep hB9 (Nat.le_refl _)).drew (Drew.mk _ 1))
  have HBY : Hid (Below w.heap.size w Y) := Lib.hid (by rw [← hY]; exact below_drewN (HB3.out.trans (hB9.mono HB3.out.size)) 1)
  have HYE := Lib.hid hY
  obtain ⟨m3, hm3⟩ : ∃ m3, 3 * n + 1 = m3 := ⟨_, rfl⟩
  have hmv : bandsL (mv g dx dy) P n = bandsL g P n := by rw [← HDX.out, ← HDY.out]; exact mv_bands g P k l n
  have hd1 := fun W A c h => HD.out n W A c (by omega) h
  have hd2 := fun W A c h => dsplit_any (mv g dx dy) P n A c W (by unfold mv; simp only; omega) (by show g.w * g.h ≤ 1000; rw [HN.out]; omega) (by unfold mv; simp only; omega) (by omega) HBD.out h
  have hN' : (mv g dx dy).w * (mv g dx dy).h = N := HN.out
  rw [hm3] at hd1
  rw [HH.out, hm3, hN', hmv] at hd2
  have HD1 := Lib.hid hd1
  have HD2 := Lib.hid hd2
  have HM3 := Lib.hid hm3
  have HMV := Lib.hid hmv
  clear hX9 hB9 hW9 hY hm3 hmv hd1 hd2 hN' HX3 HB3 HRW3 HD
  refine (wpIn_wide (n := 9)).1 (regionIn_inv (w := W9) (Inv := fun L a' w' => ∃ (A1 : Option Addr) (c1 : Nat) (A2 : Option Addr) (c2 : Nat), a' = { tmps := #[.agg #[.int .i64 a0, .int .i64 a1, .int .i64 a2, .int .i64 a3], .int .i64 (n : Int), .slice b1 len1 cap1, .int .i64 ka, .int .i64 la, .pointer (some ⟨w.heap.size, 0, none⟩), undef, undef, undef, undef, .bool false, .slice Ap N cp, .int .i64 (dx : Int), .int .i64 (dy : Int), .pointer (some ⟨Z.heap.size, 0, none⟩), bif L 8 then .slice A1 m3 c1 else undef, bif L 9 then .slice A2 m3 c2 else undef, .bool true, .bool false, .tuple #[.agg #[.int .i64 r0, .int .i64 r1, .int .i64 r2, .int .i64 r3], .slice Ap N cp], .agg #[.int .i64 a0, .int .i64 a1, .int .i64 a2, .int .i64 a3], .slice b1 len1 cap1, .tuple #[.agg #[.int .i64 r0, .int .i64 r1, .int .i64 r2, .int .i64 r3], .slice Ap N cp], .agg #[.int .i64 r0, .int .i64 r1, .int .i64 r2, .int .i64 r3], .slice Ap N cp, .int .i64 lv, .int .i64 (n : Int), .int .i64 ka, .int .i64 (k : Int), .int .i64 (n : Int), .int .u64 (n : Int), .int .i64 (dx : Int), .int .i64 la, .int .i64 (l : Int), .int .i64 (n : Int), .int .u64 (n : Int), .int .i64 (dy : Int), .pointer (some ⟨w.heap.size, 0, none⟩), .int .i64 r0, .int .i64 (dx : Int), .int .i64 h0, .pointer (some ⟨w.heap.size, 2, none⟩), .int .i64 r2, .int .i64 (dx : Int), .int .i64 h2, .pointer (some ⟨w.heap.size, 1, none⟩), .int .i64 r1, .int .i64 (dy : Int), .int .i64 h1, .pointer (some ⟨w.heap.size, 3, none⟩), .int .i64 r3, .int .i64 (dy : Int), .int .i64 h3, .agg #[.int .i64 h0, .int .i64 h1, .int .i64 h2, .int .i64 h3], bif L 0 then .agg #[.int .i64 r0, .int .i64 r1, .int .i64 r2, .int .i64 r3] else undef, bif L 1 then .int .i64 (n : Int) else undef, bif L 2 then .slice Ap N cp else undef, bif L 3 then .slice A1 m3 c1 else undef, bif L 4 then .agg #[.int .i64 h0, .int .i64 h1, .int .i64 h2, .int .i64 h3] else undef, bif L 5 then .int .i64 (n : Int) else undef, bif L 6 then .slice Ap N cp else undef, bif L 7 then .slice A2 m3 c2 else undef, undef, undef, undef, undef, undef, undef, undef, undef, undef, undef, undef, undef, undef], defers := [] } ∧ (Below Y.heap.size Y w') ∧ (bif L 7 then (RowsI w' A1 m3 c1 (bandsL g P n) ∧ RowsI w' A2 m3 c2 (bandsL g P n)) else (bif L 3 then (RowsI w' A1 m3 c1 (bandsL g P n)) else True))) (by kernel_rfl) (by kernel_rfl) ?start ?step ?fin)
  case start => exact ⟨none, 0, none, 0, rfl, (by rw [HYE.out]; exact Below.refl _ _ : Below Y.heap.size Y W9.drew), trivial⟩
  case step =>
    intro i hi L a' w' hI hs hu
    obtain ⟨A1, c1, A2, c2, rfl, hcm, hph⟩ := hI
    have hL := hu.1
    have hi : i < 10 := hi
    obtain rfl | rfl | rfl | rfl | rfl | rfl | rfl | rfl | rfl | rfl := (by omega : i = 0 ∨ i = 1 ∨ i = 2 ∨ i = 3 ∨ i = 4 ∨ i = 5 ∨ i = 6 ∨ i = 7 ∨ i = 8 ∨ i = 9)
    · skip
      have n3 : L 3 = false := not_yet hL fun h => shut_at hs 3 0 (by kernel_rfl) (h)
      have n7 : L 7 = false := not_yet hL fun h => shut_at hs 3 0 (by kernel_rfl) (shut_at hs 7 3 (by kernel_rfl) (h))
      have n8 : L 8 = false := not_yet hL fun h => shut_at hs 8 0 (by kernel_rfl) (h)
      have n9 : L 9 = false := not_yet hL fun h => shut_at hs 9 0 (by kernel_rfl) (h)
      refine opIn_run (v := .agg #[.int .i64 r0, .int .i64 r1, .int .i64 r2, .int .i64 r3]) (w' := w') rfl rfl (fun c h => by cases h) (fun _ => trivial) ?_ ⟨A1, c1, A2, c2, by simp [Act.put, upd, n3, n7, n8, n9, hL], hcm, by simpa [upd] using hph⟩
      simp only [n3, n7, n8, n9, hL, cond_true, cond_false]
      obtain ⟨x0, x1, x2, x3, _⟩ := (HXY.out.keep hcm HXY.out.lt).cells; go_simp
    · skip
      have n3 : L 3 = false := not_yet hL fun h => shut_at hs 3 1 (by kernel_rfl) (h)
      have n7 : L 7 = false := not_yet hL fun h => shut_at hs 3 1 (by kernel_rfl) (shut_at hs 7 3 (by kernel_rfl) (h))
      have n8 : L 8 = false := not_yet hL fun h => shut_at hs 8 1 (by kernel_rfl) (h)
      have n9 : L 9 = false := not_yet hL fun h => shut_at hs 9 1 (by kernel_rfl) (h)
      refine opIn_run (v := .int .i64 (n : Int)) (w' := w') rfl rfl (fun c h => by cases h) (fun _ => trivial) ?_ ⟨A1, c1, A2, c2, by simp [Act.put, upd, n3, n7, n8, n9, hL], hcm, by simpa [upd] using hph⟩
      simp only [n3, n7, n8, n9, hL, cond_true, cond_false]
      go_simp
    · skip
      have n3 : L 3 = false := not_yet hL fun h => shut_at hs 3 2 (by kernel_rfl) (h)
      have n7 : L 7 = false := not_yet hL fun h => shut_at hs 3 2 (by kernel_rfl) (shut_at hs 7 3 (by kernel_rfl) (h))
      have n8 : L 8 = false := not_yet hL fun h => shut_at hs 8 2 (by kernel_rfl) (h)
      have n9 : L 9 = false := not_yet hL fun h => shut_at hs 9 2 (by kernel_rfl) (h)
      refine opIn_run (v := .slice Ap N cp) (w' := w') rfl rfl (fun c h => by cases h) (fun _ => trivial) ?_ ⟨A1, c1, A2, c2, by simp [Act.put, upd, n3, n7, n8, n9, hL], hcm, by simpa [upd] using hph⟩
      simp only [n3, n7, n8, n9, hL, cond_true, cond_false]
      go_simp
    · skip
      have y0 : L 0 = true := up_at hu 0 (by kernel_rfl)
      have y1 : L 1 = true := up_at hu 1 (by kernel_rfl)
      have y2 : L 2 = true := up_at hu 2 (by kernel_rfl)
      have n7 : L 7 = false := not_yet hL fun h => shut_at hs 7 3 (by kernel_rfl) (h)
      have n8 : L 8 = false := not_yet hL fun h => shut_at hs 8 3 (by kernel_rfl) (h)
      have n9 : L 9 = false := not_yet hL fun h => shut_at hs 9 3 (by kernel_rfl) (h)
      simp only [y0, y1, y2, n7, n8, n9, hL, cond_true, cond_false] at hph
      refine opIn_call (f := 15) (args := #[.agg #[.int .i64 r0, .int .i64 r1, .int .i64 r2, .int .i64 r3], .int .i64 (n : Int), .slice Ap N cp]) (w' := w') rfl rfl (fun c h => by cases h) (fun _ => trivial) rfl ?_ ((callsIn_wide.2 (HD1.out w' Ap cp (HRY.out.keep hcm (Nat.le_refl _)))).mono ?_)
      · simp only [y0, y1, y2, n7, n8, n9, hL, cond_true, cond_false]
        go_simp
      · rintro e w2 ⟨A', c', rfl, hr, hb⟩
        exact ⟨_, rfl, A', c', A2, c2, by simp [Act.put, upd, y0, y1, y2, n7, n8, n9, hL], hcm.trans (hb.mono hcm.size), by simp only [upd, y0, y1, y2, n7, n8, n9, hL]; exact hr⟩
    · skip
      have n7 : L 7 = false := not_yet hL fun h => shut_at hs 7 4 (by kernel_rfl) (h)
      have n8 : L 8 = false := not_yet hL fun h => shut_at hs 7 4 (by kernel_rfl) (shut_at hs 8 7 (by kernel_rfl) (h))
      have n9 : L 9 = false := not_yet hL fun h => shut_at hs 9 4 (by kernel_rfl) (h)
      refine opIn_run (v := .agg #[.int .i64 h0, .int .i64 h1, .int .i64 h2, .int .i64 h3]) (w' := w') rfl rfl (fun c h => by cases h) (fun _ => trivial) ?_ ⟨A1, c1, A2, c2, by simp [Act.put, upd, n7, n8, n9, hL], hcm, by simpa [upd] using hph⟩
      simp only [n7, n8, n9, hL, cond_true, cond_false]
      obtain ⟨x0, x1, x2, x3, _⟩ := (HHY.out.keep hcm HHY.out.lt).cells; go_simp
    · skip
      have n7 : L 7 = false := not_yet hL fun h => shut_at hs 7 5 (by kernel_rfl) (h)
      have n8 : L 8 = false := not_yet hL fun h => shut_at hs 7 5 (by kernel_rfl) (shut_at hs 8 7 (by kernel_rfl) (h))
      have n9 : L 9 = false := not_yet hL fun h => shut_at hs 9 5 (by kernel_rfl) (h)
      refine opIn_run (v := .int .i64 (n : Int)) (w' := w') rfl rfl (fun c h => by cases h) (fun _ => trivial) ?_ ⟨A1, c1, A2, c2, by simp [Act.put, upd, n7, n8, n9, hL], hcm, by simpa [upd] using hph⟩
      simp only [n7, n8, n9, hL, cond_true, cond_false]
      go_simp
    · skip
      have n7 : L 7 = false := not_yet hL fun h => shut_at hs 7 6 (by kernel_rfl) (h)
      have n8 : L 8 = false := not_yet hL fun h => shut_at hs 7 6 (by kernel_rfl) (shut_at hs 8 7 (by kernel_rfl) (h))
      have n9 : L 9 = false := not_yet hL fun h => shut_at hs 9 6 (by kernel_rfl) (h)
      refine opIn_run (v := .slice Ap N cp) (w' := w') rfl rfl (fun c h => by cases h) (fun _ => trivial) ?_ ⟨A1, c1, A2, c2, by simp [Act.put, upd, n7, n8, n9, hL], hcm, by simpa [upd] using hph⟩
      simp only [n7, n8, n9, hL, cond_true, cond_false]
      go_simp
    · skip
      have y0 : L 0 = true := shut_at hs 3 0 (by kernel_rfl) (up_at hu 3 (by kernel_rfl))
      have y1 : L 1 = true := shut_at hs 3 1 (by kernel_rfl) (up_at hu 3 (by kernel_rfl))
      have y2 : L 2 = true := shut_at hs 3 2 (by kernel_rfl) (up_at hu 3 (by kernel_rfl))
      have y3 : L 3 = true := up_at hu 3 (by kernel_rfl)
      have y4 : L 4 = true := up_at hu 4 (by kernel_rfl)
      have y5 : L 5 = true := up_at hu 5 (by kernel_rfl)
      have y6 : L 6 = true := up_at hu 6 (by kernel_rfl)
      have n8 : L 8 = false := not_yet hL fun h => shut_at hs 8 7 (by kernel_rfl) (h)
      have n9 : L 9 = false := not_yet hL fun h => shut_at hs 9 7 (by kernel_rfl) (h)
      simp only [y0, y1, y2, y3, y4, y5, y6, n8, n9, hL, cond_true, cond_false] at hph
      refine opIn_call (f := 15) (args := #[.agg #[.int .i64 h0, .int .i64 h1, .int .i64 h2, .int .i64 h3], .int .i64 (n : Int), .slice Ap N cp]) (w' := w') rfl rfl (fun c h => by cases h) (fun _ => trivial) rfl ?_ ((callsIn_wide.2 (HD2.out w' Ap cp (HRY.out.keep hcm (Nat.le_refl _)))).mono ?_)
      · simp only [y0, y1, y2, y3, y4, y5, y6, n8, n9, hL, cond_true, cond_false]
        go_simp
      · rintro e w2 ⟨A', c', rfl, hr, hb⟩
        exact ⟨_, rfl, A1, c1, A', c', by simp [Act.put, upd, y0, y1, y2, y3, y4, y5, y6, n8, n9, hL], hcm.trans (hb.mono hcm.size), by simp only [upd, y0, y1, y2, y3, y4, y5, y6, n8, n9, hL]; exact ⟨hph.keep hb (Nat.le_refl _), hr⟩⟩
    · skip
      have y0 : L 0 = true := up_at hu 0 (by kernel_rfl)
      have y1 : L 1 = true := up_at hu 1 (by kernel_rfl)
      have y2 : L 2 = true := up_at hu 2 (by kernel_rfl)
      have y3 : L 3 = true := up_at hu 3 (by kernel_rfl)
      have y4 : L 4 = true := shut_at hs 7 4 (by kernel_rfl) (up_at hu 7 (by kernel_rfl))
      have y5 : L 5 = true := shut_at hs 7 5 (by kernel_rfl) (up_at hu 7 (by kernel_rfl))
      have y6 : L 6 = true := shut_at hs 7 6 (by kernel_rfl) (up_at hu 7 (by kernel_rfl))
      have y7 : L 7 = true := up_at hu 7 (by kernel_rfl)
      have n9 : L 9 = false := not_yet hL fun h => shut_at hs 9 8 (by kernel_rfl) (h)
      refine opIn_run (v := .slice A1 m3 c1) (w' := w') rfl rfl (fun c h => by cases h) (fun _ => trivial) ?_ ⟨A1, c1, A2, c2, by simp [Act.put, upd, y0, y1, y2, y3, y4, y5, y6, y7, n9, hL], hcm, by simpa [upd] using hph⟩
      simp only [y0, y1, y2, y3, y4, y5, y6, y7, n9, hL, cond_true, cond_false]
      go_simp
    · skip
      have y0 : L 0 = true := up_at hu 0 (by kernel_rfl)
      have y1 : L 1 = true := up_at hu 1 (by kernel_rfl)
      have y2 : L 2 = true := up_at hu 2 (by kernel_rfl)
      have y3 : L 3 = true := up_at hu 3 (by kernel_rfl)
      have y4 : L 4 = true := up_at hu 4 (by kernel_rfl)
      have y5 : L 5 = true := up_at hu 5 (by kernel_rfl)
      have y6 : L 6 = true := up_at hu 6 (by kernel_rfl)
      have y7 : L 7 = true := up_at hu 7 (by kernel_rfl)
      have y8 : L 8 = true := up_at hu 8 (by kernel_rfl)
      refine opIn_run (v := .slice A2 m3 c2) (w' := w') rfl rfl (fun c h => by cases h) (fun _ => trivial) ?_ ⟨A1, c1, A2, c2, by simp [Act.put, upd, y0, y1, y2, y3, y4, y5, y6, y7, y8, hL], hcm, by simpa [upd] using hph⟩
      simp only [y0, y1, y2, y3, y4, y5, y6, y7, y8, hL, cond_true, cond_false]
      go_simp
  case fin =>
    intro L a' w' hall hI
    obtain ⟨A1, c1, A2, c2, rfl, hcm, hph⟩ := hI
    have l0 := hall 0 (by decide)
    have l1 := hall 1 (by decide)
    have l2 := hall 2 (by decide)
    have l3 := hall 3 (by decide)
    have l4 := hall 4 (by decide)
    have l5 := hall 5 (by decide)
    have l6 := hall 6 (by decide)
    have l7 := hall 7 (by decide)
    have l8 := hall 8 (by decide)
    have l9 := hall 9 (by decide)
    simp only [l0, l1, l2, l3, l4, l5, l6, l7, l8, l9, cond_true] at hph ⊢
    clear l0 l1 l2 l3 l4 l5 l6 l7 l8 l9 hall
    obtain ⟨hr1, hr2⟩ := hph
    obtain ⟨w8, hw8⟩ : ∃ w8 : World, w8 = w' := ⟨_, rfl⟩
    subst hw8
    have HA1 := Lib.hid hr1
    have HA2 := Lib.hid hr2
    have HX8 := Lib.hid (HHY.out.keep hcm HHY.out.lt)
    have HB8 := Lib.hid (HBY.out.trans (hcm.mono HBY.out.size))
    have HR8 := Lib.hid (HRY.out.keep hcm (Nat.le_refl _))
    clear hr1 hr2 hcm HXY HHY HBY HRY HD1 HD2 HYE
    go_wp2_with fail
    refine (rows_yes HA1.out HA2.out).mono ?_
    rintro e w9 ⟨rfl, hd⟩
    have HX9 := Lib.hid (HX8.out.keep (Drew.blw hd) HX8.out.lt)
    have HB9 := Lib.hid (HB8.out.trans ((Drew.blw hd).mono HB8.out.size))
    have HR9 := Lib.hid (HR8.out.keep (Drew.blw hd) (Nat.le_refl _))
    have HA9 := Lib.hid (HA1.out.keep (Drew.blw hd) (Nat.le_refl _))
    obtain ⟨x0, x1, x2, x3, _⟩ := HX9.out.cells
    clear HA1 HA2 HX8 HB8 HR8 hd
    obtain ⟨n1, hn1'⟩ : ∃ n1, n + 1 = n1 := ⟨_, rfl⟩
    have e1 : (n : Int) + 1 = (n1 : Int) := by omega
    have hj := djoin_6 (mv g dx dy) P n n1 0 N A1 c1 w9 (by unfold mv; simp only; omega) (by show g.w * g.h ≤ 1000; rw [HN.out]; omega) (by unfold mv; simp only; omega) hn5 HBD.out (by omega) (by rw [← HN.out]; exact flat_len _ _ _) (by rw [HM3.out, HMV.out]; exact HA9.out)
    rw [HH.out, HM3.out] at hj
    have HJ := Lib.hid hj
    have HN1 := Lib.hid hn1'
    clear hj hn1'
    go_wp2_with fail
    refine HJ.out.mono ?_
    rintro e w10 ⟨A', c', rfl, hr, hb⟩
    have HR10 := Lib.hid (HR9.out.keep hb (Nat.le_refl _))
    have HB10 := Lib.hid (HB9.out.trans (hb.mono HB9.out.size))
    have HQ := Lib.hid hr
    clear hr hb HJ HR9 HB9 x0 x1 x2 x3 HX9 HA9 e1
    go_wp2_with fail
    refine (ints_q HQ.out HR10.out).mono ?_
    rintro e w11 ⟨rfl, hd⟩
    have HB11 := Lib.hid (HB10.out.trans ((Drew.blw hd).mono HB10.out.size))
    clear hd HQ HR10 HB10
    go_wp2
    go_ret
    exact ⟨rfl, HB11.out⟩
end Go.Proofs.Ytgadebfelomhpaa
