/- canvas: Resolution and Precincts, both ways. -/
import Derived.Test.YthcpmonahmogaaaCvM3
import Derived.Test.YthcpmonahmogaaaAnyRk
set_option linter.unusedVariables false
set_option linter.unusedSimpArgs false
namespace Go.Proofs.Ythcpmonahmogaaa
open Go.RowKit
set_option maxRecDepth 100000
/-- A rectangle by n. -/
def overN (r : Int × Int × Int × Int) (n : Int) : Int × Int × Int × Int := (ceilF r.1 n, ceilF r.2.1 n, ceilF r.2.2.1 n, ceilF r.2.2.2 n)
def rA (r : Int × Int × Int × Int) : Value := .agg #[.int .i64 r.1, .int .i64 r.2.1, .int .i64 r.2.2.1, .int .i64 r.2.2.2]
def inN (r : Int × Int × Int × Int) (m : Int) : Prop := (0 ≤ r.1 ∧ r.1 ≤ m) ∧ (0 ≤ r.2.1 ∧ r.2.1 ≤ m) ∧ (0 ≤ r.2.2.1 ∧ r.2.2.1 ≤ m) ∧ (0 ≤ r.2.2.2 ∧ r.2.2.2 ≤ m)
theorem pow16 (n : Nat) (hn : n ≤ 16) : 1 ≤ ((2 ^ n : Nat) : Int) ∧ ((2 ^ n : Nat) : Int) ≤ 65536 := by
  have h1 : 2 ^ n ≤ 2 ^ 16 := Nat.pow_le_pow_right (by omega) hn
  have h2 : 0 < 2 ^ n := Nat.pow_pos (by omega)
  omega
theorem w64_pow (m : Nat) (hm : m ≤ 16) : wrap64 ((2 : Int) ^ m) = ((2 ^ m : Nat) : Int) := by
  have e : (2 : Int) ^ m = ((2 ^ m : Nat) : Int) := by simp
  rw [e]
  exact w64_in (by have := pow16 m hm; omega)
set_option maxHeartbeats 4000000 in
theorem res_any (r : Int × Int × Int × Int) (lv k : Nat) (w : World) (hr : inN r 1000) (hk : k ≤ lv ∧ lv ≤ 16) :
    Calls Try.prog 23 #[rA r, .int .i64 (lv : Int), .int .i64 (k : Int)] w fun e w' => e = .returned (rA (overN r ((2 ^ (lv - k) : Nat) : Int))) ∧ Below w.heap.size w w' := by
  obtain ⟨x0, y0, x1, y1⟩ := r
  obtain ⟨h0, h1, h2, h3⟩ := hr
  unfold rA overN
  simp only at h0 h1 h2 h3 ⊢
  obtain ⟨m, hm⟩ : ∃ m, lv - k = m := ⟨_, rfl⟩
  have hp := pow16 m (by omega)
  have PW := Lib.hid (fun u => power_any m u (by omega))
  have s1 : IntKind.i64.wrap ((lv : Int) - (k : Int)) = (m : Int) := by rw [IntWalk.i64_in _ (by omega)]; omega
  have s2 : (lv : Int) - (k : Int) = (m : Int) := by omega
  have s3 : IntKind.i64.wrap (m : Int) = (m : Int) := IntWalk.i64_in _ (by omega)
  rw [hm]
  obtain ⟨n, hn⟩ : ∃ n, ((2 ^ m : Nat) : Int) = n := ⟨_, rfl⟩
  rw [hn] at hp PW ⊢
  clear hn hm
  have PT := Lib.hid (fun u => part_any x0 y0 x1 y1 n n u (by omega) (by omega) (by omega) (by omega) (by omega) (by omega))
  go_enter Try.func23, Try.ntmps23
  go_wp2_with fail
  obtain ⟨X, hX⟩ : ∃ X, (w.alloc (Obj.cells #[.int .i64 x0, .int .i64 y0, .int .i64 x1, .int .i64 y1] 48)).alloc (Obj.cells #[.int .i64 0, .int .i64 0, .int .i64 0, .int .i64 0] 48) = X := ⟨_, rfl⟩
  have hB : Below w.heap.size w X := by rw [← hX]; exact ((Below.refl _ w).alloc (Nat.le_refl _) _).alloc (by simp) _
  have b1 : X.heap[w.heap.size]? = some (.cells #[.int .i64 x0, .int .i64 y0, .int .i64 x1, .int .i64 y1] 48 (0, 0)) := by
    rw [← hX, Below.heap_alloc _ _ _ (by simp)]; exact World.alloc_heap_new w _
  have b2 : X.heap[w.heap.size + 1]? = some (.cells #[.int .i64 0, .int .i64 0, .int .i64 0, .int .i64 0] 48 (0, 0)) := by
    rw [← hX, show w.heap.size + 1 = (w.alloc (Obj.cells #[.int .i64 x0, .int .i64 y0, .int .i64 x1, .int .i64 y1] 48)).heap.size by simp]; exact World.alloc_heap_new _ _
  have hsz : w.heap.size + 1 < X.heap.size := (Array.getElem?_eq_some_iff.1 b2).1
  have g0 : X.cell? ⟨w.heap.size, 0, none⟩ = some (.int .i64 x0) := by simp [World.cell?, b1]
  have g1 : X.cell? ⟨w.heap.size, 1, none⟩ = some (.int .i64 y0) := by simp [World.cell?, b1]
  have g2 : X.cell? ⟨w.heap.size, 2, none⟩ = some (.int .i64 x1) := by simp [World.cell?, b1]
  have g3 : X.cell? ⟨w.heap.size, 3, none⟩ = some (.int .i64 y1) := by simp [World.cell?, b1]
  rw [hX]
  have HB := Lib.hid hB
  have HB2 := Lib.hid b2
  clear hX hB b1 b2
  refine (PW.out _).mono ?_
  rintro e w1 ⟨rfl, rfl⟩
  clear PW
  go_wp2_with fail
  refine (PT.out _).mono ?_
  rintro e Y ⟨rfl, hY⟩
  have b3 : Y.heap[w.heap.size + 1]? = some (.cells #[.int .i64 0, .int .i64 0, .int .i64 0, .int .i64 0] 48 (0, 0)) := (hY.block _ (by omega)).trans HB2.out
  have hBY := HB.out.trans (hY.mono HB.out.size)
  have k0 : Y.cell? ⟨w.heap.size + 1, 0, none⟩ = some (.int .i64 0) := by simp [World.cell?, b3]
  have kf0 : Y.frozen? ⟨w.heap.size + 1, 0, none⟩ = false := by simp [World.frozen?, b3]
  have k1 : Y.cell? ⟨w.heap.size + 1, 1, none⟩ = some (.int .i64 0) := by simp [World.cell?, b3]
  have kf1 : Y.frozen? ⟨w.heap.size + 1, 1, none⟩ = false := by simp [World.frozen?, b3]
  have k2 : Y.cell? ⟨w.heap.size + 1, 2, none⟩ = some (.int .i64 0) := by simp [World.cell?, b3]
  have kf2 : Y.frozen? ⟨w.heap.size + 1, 2, none⟩ = false := by simp [World.frozen?, b3]
  have k3 : Y.cell? ⟨w.heap.size + 1, 3, none⟩ = some (.int .i64 0) := by simp [World.cell?, b3]
  have kf3 : Y.frozen? ⟨w.heap.size + 1, 3, none⟩ = false := by simp [World.frozen?, b3]
  clear b3 hY PT g0 g1 g2 g3
  go_wp2
  refine bodyPost_ret (v := .agg #[.int .i64 (ceilF x0 n), .int .i64 (ceilF y0 n), .int .i64 (ceilF x1 n), .int .i64 (ceilF y1 n)]) (by simp [results, Try.results23, go_sem, k0, k1, k2, k3, kf0, kf1, kf2, kf3]) rfl ⟨rfl, ?_⟩
  exact (((hBY.setCell (p := ⟨w.heap.size + 1, 0, none⟩) (by show _ ≤ w.heap.size + 1; omega) _).setCell (p := ⟨w.heap.size + 1, 1, none⟩) (by show _ ≤ w.heap.size + 1; omega) _).setCell (p := ⟨w.heap.size + 1, 2, none⟩) (by show _ ≤ w.heap.size + 1; omega) _).setCell (p := ⟨w.heap.size + 1, 3, none⟩) (by show _ ≤ w.heap.size + 1; omega) _
set_option maxHeartbeats 8000000 in
set_option pp.deepTerms true in
theorem rres_any (r : Int × Int × Int × Int) (lv k : Nat) (w : World) (hr : inN r 1000) (hk : k ≤ lv ∧ lv ≤ 16) :
    Calls Try.prog 28 #[rA r, .int .i64 (lv : Int), .int .i64 (k : Int)] w fun e w' => e = .returned (rA (overN r ((2 ^ (lv - k) : Nat) : Int))) ∧ Below w.heap.size w w' := by
  obtain ⟨x0, y0, x1, y1⟩ := r
  obtain ⟨h0, h1, h2, h3⟩ := hr
  unfold rA overN
  simp only at h0 h1 h2 h3 ⊢
  obtain ⟨m, hm⟩ : ∃ m, lv - k = m := ⟨_, rfl⟩
  have hp := pow16 m (by omega)
  have hm16 : m ≤ 16 := by omega
  have s1 : IntKind.i64.wrap ((lv : Int) - (k : Int)) = (m : Int) := by rw [IntWalk.i64_in _ (by omega)]; omega
  have s2 : (lv : Int) - (k : Int) = (m : Int) := by omega
  have s3 : IntKind.i64.wrap (m : Int) = (m : Int) := IntWalk.i64_in _ (by omega)
  rw [hm]
  have WP := w64_pow m hm16
  obtain ⟨n, hn⟩ : ∃ n, ((2 ^ m : Nat) : Int) = n := ⟨_, rfl⟩
  rw [hn] at hp WP ⊢
  have HWP := Lib.hid WP
  clear hn hm WP
  have PT := Lib.hid (fun u => rover_any x0 y0 x1 y1 n n u (by omega) (by omega) (by omega) (by omega) (by omega) (by omega))
  go_enter Try.func28, Try.ntmps28
  go_wp2_with fail
  rw [HWP.out]
  obtain ⟨X, hX⟩ : ∃ X, (w.alloc (Obj.cells #[.int .i64 x0, .int .i64 y0, .int .i64 x1, .int .i64 y1] 48)).alloc (Obj.cells #[.int .i64 0, .int .i64 0, .int .i64 0, .int .i64 0] 48) = X := ⟨_, rfl⟩
  have hB : Below w.heap.size w X := by rw [← hX]; exact ((Below.refl _ w).alloc (Nat.le_refl _) _).alloc (by simp) _
  have b2 : X.heap[w.heap.size + 1]? = some (.cells #[.int .i64 0, .int .i64 0, .int .i64 0, .int .i64 0] 48 (0, 0)) := by
    rw [← hX, show w.heap.size + 1 = (w.alloc (Obj.cells #[.int .i64 x0, .int .i64 y0, .int .i64 x1, .int .i64 y1] 48)).heap.size by simp]; exact World.alloc_heap_new _ _
  have hsz : w.heap.size + 1 < X.heap.size := (Array.getElem?_eq_some_iff.1 b2).1
  rw [hX]
  have HB := Lib.hid hB
  have HB2 := Lib.hid b2
  clear hX hB b2
  refine (PT.out _).mono ?_
  rintro e Y ⟨rfl, hY⟩
  have b3 : Y.heap[w.heap.size + 1]? = some (.cells #[.int .i64 0, .int .i64 0, .int .i64 0, .int .i64 0] 48 (0, 0)) := (hY.block _ (by omega)).trans HB2.out
  have hBY := HB.out.trans (hY.mono HB.out.size)
  have k0 : Y.cell? ⟨w.heap.size + 1, 0, none⟩ = some (.int .i64 0) := by simp [World.cell?, b3]
  have kf0 : Y.frozen? ⟨w.heap.size + 1, 0, none⟩ = false := by simp [World.frozen?, b3]
  have k1 : Y.cell? ⟨w.heap.size + 1, 1, none⟩ = some (.int .i64 0) := by simp [World.cell?, b3]
  have kf1 : Y.frozen? ⟨w.heap.size + 1, 1, none⟩ = false := by simp [World.frozen?, b3]
  have k2 : Y.cell? ⟨w.heap.size + 1, 2, none⟩ = some (.int .i64 0) := by simp [World.cell?, b3]
  have kf2 : Y.frozen? ⟨w.heap.size + 1, 2, none⟩ = false := by simp [World.frozen?, b3]
  have k3 : Y.cell? ⟨w.heap.size + 1, 3, none⟩ = some (.int .i64 0) := by simp [World.cell?, b3]
  have kf3 : Y.frozen? ⟨w.heap.size + 1, 3, none⟩ = false := by simp [World.frozen?, b3]
  clear b3 hY PT
  go_wp2
  refine bodyPost_ret (v := .agg #[.int .i64 (ceilF x0 n), .int .i64 (ceilF y0 n), .int .i64 (ceilF x1 n), .int .i64 (ceilF y1 n)]) (by simp [results, Try.results28, go_sem, k0, k1, k2, k3, kf0, kf1, kf2, kf3]) rfl ⟨rfl, ?_⟩
  exact (((hBY.setCell (p := ⟨w.heap.size + 1, 0, none⟩) (by show _ ≤ w.heap.size + 1; omega) _).setCell (p := ⟨w.heap.size + 1, 1, none⟩) (by show _ ≤ w.heap.size + 1; omega) _).setCell (p := ⟨w.heap.size + 1, 2, none⟩) (by show _ ≤ w.heap.size + 1; omega) _).setCell (p := ⟨w.heap.size + 1, 3, none⟩) (by show _ ≤ w.heap.size + 1; omega) _

/-- How many columns and rows of precincts. -/
def pcF (r : Int × Int × Int × Int) (n : Int) : Int × Int := if r.2.2.1 ≤ r.1 ∨ r.2.2.2 ≤ r.2.1 then (0, 0) else (ceilF r.2.2.1 n - r.1 / n, ceilF r.2.2.2 n - r.2.1 / n)
set_option maxHeartbeats 8000000 in
theorem prec_any (r : Int × Int × Int × Int) (p : Nat) (w : World) (hr : inN r 1000) (hp16 : p ≤ 16) :
    Calls Try.prog 26 #[rA r, .int .i64 (p : Int)] w fun e w' => e = .returned (.tuple #[.int .i64 (pcF r ((2 ^ p : Nat) : Int)).1, .int .i64 (pcF r ((2 ^ p : Nat) : Int)).2]) ∧ Below w.heap.size w w' := by
  obtain ⟨x0, y0, x1, y1⟩ := r
  obtain ⟨h0, h1, h2, h3⟩ := hr
  unfold rA pcF
  simp only at h0 h1 h2 h3 ⊢
  have hp := pow16 p hp16
  have PW := Lib.hid (fun u => power_any p u hp16)
  obtain ⟨n, hn⟩ : ∃ n, ((2 ^ p : Nat) : Int) = n := ⟨_, rfl⟩
  rw [hn] at hp PW ⊢
  clear hn
  have LT := Lib.hid (fun u => lattice_any x0 y0 x1 y1 n n u (by omega) (by omega) (by omega) (by omega) (by omega) (by omega))
  have EM := Lib.hid (fun u => empty_any x0 y0 x1 y1 u)
  have c1 := ceil_bd x1 n (by omega) hp.1
  have c2 := ceil_bd y1 n (by omega) hp.1
  have c3 : 0 ≤ x0 / n ∧ x0 / n ≤ x0 := ⟨Int.ediv_nonneg (by omega) (by omega), Int.ediv_le_self _ (by omega)⟩
  have c4 : 0 ≤ y0 / n ∧ y0 / n ≤ y0 := ⟨Int.ediv_nonneg (by omega) (by omega), Int.ediv_le_self _ (by omega)⟩
  generalize ceilF x1 n = q1 at *
  generalize ceilF y1 n = q2 at *
  generalize x0 / n = q3 at *
  generalize y0 / n = q4 at *
  obtain ⟨R, hR⟩ : ∃ R, (if x1 ≤ x0 ∨ y1 ≤ y0 then ((0 : Int), (0 : Int)) else (q1 - q3, q2 - q4)) = R := ⟨_, rfl⟩
  rw [hR]
  have HR := Lib.hid hR
  clear hR
  go_enter Try.func26, Try.ntmps26
  go_wp2_with fail
  obtain ⟨X, hX⟩ : ∃ X, w.alloc (Obj.cells #[.int .i64 x0, .int .i64 y0, .int .i64 x1, .int .i64 y1] 48) = X := ⟨_, rfl⟩
  have hB : Below w.heap.size w X := by rw [← hX]; exact (Below.refl _ w).alloc (Nat.le_refl _) _
  have b1 : X.heap[w.heap.size]? = some (.cells #[.int .i64 x0, .int .i64 y0, .int .i64 x1, .int .i64 y1] 48 (0, 0)) := by
    rw [← hX]; exact World.alloc_heap_new w _
  have hsz : w.heap.size < X.heap.size := (Array.getElem?_eq_some_iff.1 b1).1
  have g0 : X.cell? ⟨w.heap.size, 0, none⟩ = some (.int .i64 x0) := by simp [World.cell?, b1]
  have g1 : X.cell? ⟨w.heap.size, 1, none⟩ = some (.int .i64 y0) := by simp [World.cell?, b1]
  have g2 : X.cell? ⟨w.heap.size, 2, none⟩ = some (.int .i64 x1) := by simp [World.cell?, b1]
  have g3 : X.cell? ⟨w.heap.size, 3, none⟩ = some (.int .i64 y1) := by simp [World.cell?, b1]
  rw [hX]
  have HB := Lib.hid hB
  have HB1 := Lib.hid b1
  clear hX hB b1
  refine (PW.out _).mono ?_
  rintro e w1 ⟨rfl, rfl⟩
  clear PW
  go_wp2_with fail
  refine (EM.out _).mono ?_
  rintro e Y ⟨rfl, hY⟩
  have b3 : Y.heap[w.heap.size]? = some (.cells #[.int .i64 x0, .int .i64 y0, .int .i64 x1, .int .i64 y1] 48 (0, 0)) := (hY.block _ (by omega)).trans HB1.out
  have HBY := Lib.hid (HB.out.trans (hY.mono HB.out.size))
  clear hY EM g0 g1 g2 g3 HB HB1
  have hsz2 : w.heap.size < Y.heap.size := (Array.getElem?_eq_some_iff.1 b3).1
  have g0 : Y.cell? ⟨w.heap.size, 0, none⟩ = some (.int .i64 x0) := by simp [World.cell?, b3]
  have g1 : Y.cell? ⟨w.heap.size, 1, none⟩ = some (.int .i64 y0) := by simp [World.cell?, b3]
  have g2 : Y.cell? ⟨w.heap.size, 2, none⟩ = some (.int .i64 x1) := by simp [World.cell?, b3]
  have g3 : Y.cell? ⟨w.heap.size, 3, none⟩ = some (.int .i64 y1) := by simp [World.cell?, b3]
  clear b3
  by_cases he : x1 ≤ x0 ∨ y1 ≤ y0
  · have hd : decide (x1 ≤ x0 ∨ y1 ≤ y0) = true := by simpa using he
    have hR := HR.out
    rw [if_pos he] at hR
    subst hR
    clear he HR
    rw [hd]
    go_wp2
    go_ret2
    exact ⟨rfl, HBY.out⟩
  · have hd : decide (x1 ≤ x0 ∨ y1 ≤ y0) = false := by simpa using he
    have hR := HR.out
    rw [if_neg he] at hR
    subst hR
    clear he HR
    rw [hd]
    go_wp2_with fail
    refine (LT.out _).mono ?_
    rintro e Z ⟨rfl, hZ⟩
    have HBZ := Lib.hid (HBY.out.trans (hZ.mono HBY.out.size))
    clear hZ LT g0 g1 g2 g3 HBY hd hsz hsz2
    have s1 : IntKind.i64.wrap (q1 - q3) = q1 - q3 := IntWalk.i64_in _ (by omega)
    have s2 : IntKind.i64.wrap (q2 - q4) = q2 - q4 := IntWalk.i64_in _ (by omega)
    go_upto_region 5 with fail
    obtain ⟨ZB, hZB⟩ : ∃ ZB, Z.heap.size = ZB := ⟨_, rfl⟩
    obtain ⟨X2, hX2⟩ : ∃ X2, Z.alloc (Obj.cells #[.int .i64 q3, .int .i64 q4, .int .i64 q1, .int .i64 q2] 48) = X2 := ⟨_, rfl⟩
    have b4 : X2.heap[ZB]? = some (.cells #[.int .i64 q3, .int .i64 q4, .int .i64 q1, .int .i64 q2] 48 (0, 0)) := by rw [← hX2, ← hZB]; exact World.alloc_heap_new Z _
    have HB4 : Hid (Below w.heap.size w X2) := Lib.hid (by rw [← hX2]; exact HBZ.out.alloc HBZ.out.size _)
    have g0 : X2.cell? ⟨ZB, 0, none⟩ = some (.int .i64 q3) := by simp [World.cell?, b4]
    have g1 : X2.cell? ⟨ZB, 1, none⟩ = some (.int .i64 q4) := by simp [World.cell?, b4]
    have g2 : X2.cell? ⟨ZB, 2, none⟩ = some (.int .i64 q1) := by simp [World.cell?, b4]
    have g3 : X2.cell? ⟨ZB, 3, none⟩ = some (.int .i64 q2) := by simp [World.cell?, b4]
    rw [hX2, hZB]
    clear hX2 hZB b4 HBZ
    go_quiet (fail)
    have HB5 := Lib.hid (below_drewN HB4.out nq)
    clear s1 s2 g0 g1 g2 g3 HB4
    go_wp2
    go_ret2
    exact ⟨rfl, HB5.out⟩
set_option maxHeartbeats 8000000 in
theorem rprec_any (r : Int × Int × Int × Int) (p : Nat) (w : World) (hr : inN r 1000) (hle : r.1 ≤ r.2.2.1 ∧ r.2.1 ≤ r.2.2.2) (hp16 : p ≤ 16) :
    Calls Try.prog 27 #[rA r, .int .i64 (p : Int)] w fun e w' => e = .returned (.tuple #[.int .i64 (pcF r ((2 ^ p : Nat) : Int)).1, .int .i64 (pcF r ((2 ^ p : Nat) : Int)).2]) ∧ Below w.heap.size w w' := by
  obtain ⟨x0, ry0, x1, ry1⟩ := r
  obtain ⟨h0, h1, h2, h3⟩ := hr
  unfold rA pcF
  simp only at h0 h1 h2 h3 hle ⊢
  have hp := pow16 p hp16
  have WP := w64_pow p hp16
  obtain ⟨n, hn⟩ : ∃ n, ((2 ^ p : Nat) : Int) = n := ⟨_, rfl⟩
  rw [hn] at hp WP ⊢
  have HWP := Lib.hid WP
  clear hn WP
  have AR := Lib.hid (fun u => rarea_any x0 ry0 x1 ry1 u ⟨h0.1, hle.1, h2.2⟩ ⟨h1.1, hle.2, h3.2⟩)
  have C1 := Lib.hid (fun u => rceil_any x1 n u (by omega) (by omega))
  have C2 := Lib.hid (fun u => rceil_any ry1 n u (by omega) (by omega))
  have c1 := ceil_bd x1 n (by omega) hp.1
  have c2 := ceil_bd ry1 n (by omega) hp.1
  have c3 : 0 ≤ x0 / n ∧ x0 / n ≤ x0 := ⟨Int.ediv_nonneg (by omega) (by omega), Int.ediv_le_self _ (by omega)⟩
  have c4 : 0 ≤ ry0 / n ∧ ry0 / n ≤ ry0 := ⟨Int.ediv_nonneg (by omega) (by omega), Int.ediv_le_self _ (by omega)⟩
  have s5 : IntKind.i64.wrap (x0.tdiv n) = x0 / n := by rw [Int.tdiv_eq_ediv_of_nonneg (by omega)]; exact IntWalk.i64_in _ (by omega)
  have s6 : IntKind.i64.wrap (ry0.tdiv n) = ry0 / n := by rw [Int.tdiv_eq_ediv_of_nonneg (by omega)]; exact IntWalk.i64_in _ (by omega)
  have hz : (x1 - x0) * (ry1 - ry0) = 0 ↔ (x1 ≤ x0 ∨ ry1 ≤ ry0) := by
    rw [Int.mul_eq_zero]
    omega
  obtain ⟨ar, har⟩ : ∃ ar, (x1 - x0) * (ry1 - ry0) = ar := ⟨_, rfl⟩
  rw [har] at hz AR
  generalize ceilF x1 n = q1 at *
  generalize ceilF ry1 n = q2 at *
  generalize hq3 : x0 / n = q3 at *
  generalize hq4 : ry0 / n = q4 at *
  obtain ⟨R, hR⟩ : ∃ R, (if x1 ≤ x0 ∨ ry1 ≤ ry0 then ((0 : Int), (0 : Int)) else (q1 - q3, q2 - q4)) = R := ⟨_, rfl⟩
  rw [hR]
  have HR := Lib.hid hR
  clear hR
  go_enter Try.func27, Try.ntmps27
  go_wp2_with fail
  obtain ⟨X, hX⟩ : ∃ X, w.alloc (Obj.cells #[.int .i64 x0, .int .i64 ry0, .int .i64 x1, .int .i64 ry1] 48) = X := ⟨_, rfl⟩
  have hB : Below w.heap.size w X := by rw [← hX]; exact (Below.refl _ w).alloc (Nat.le_refl _) _
  have b1 : X.heap[w.heap.size]? = some (.cells #[.int .i64 x0, .int .i64 ry0, .int .i64 x1, .int .i64 ry1] 48 (0, 0)) := by
    rw [← hX]; exact World.alloc_heap_new w _
  have hsz : w.heap.size < X.heap.size := (Array.getElem?_eq_some_iff.1 b1).1
  rw [hX]
  have HB := Lib.hid hB
  have HB1 := Lib.hid b1
  clear hX hB b1
  refine (AR.out _).mono ?_
  rintro e Y ⟨rfl, hY⟩
  have b3 : Y.heap[w.heap.size]? = some (.cells #[.int .i64 x0, .int .i64 ry0, .int .i64 x1, .int .i64 ry1] 48 (0, 0)) := (hY.block _ (by omega)).trans HB1.out
  have HBY := Lib.hid (HB.out.trans (hY.mono HB.out.size))
  clear hY AR HB HB1 har
  have g0 : Y.cell? ⟨w.heap.size, 0, none⟩ = some (.int .i64 x0) := by simp [World.cell?, b3]
  have g1 : Y.cell? ⟨w.heap.size, 1, none⟩ = some (.int .i64 ry0) := by simp [World.cell?, b3]
  have g2 : Y.cell? ⟨w.heap.size, 2, none⟩ = some (.int .i64 x1) := by simp [World.cell?, b3]
  have g3 : Y.cell? ⟨w.heap.size, 3, none⟩ = some (.int .i64 ry1) := by simp [World.cell?, b3]
  clear b3
  by_cases he : x1 ≤ x0 ∨ ry1 ≤ ry0
  · have h0' := hz.2 he
    have hR := HR.out
    rw [if_pos he] at hR
    subst hR
    subst h0'
    clear he HR hz
    go_wp2
    go_ret2
    exact ⟨rfl, HBY.out⟩
  · have h0' : ¬ ar = 0 := fun h => he (hz.1 h)
    have h0b : (ar == 0) = false := by simpa using h0'
    have hR := HR.out
    rw [if_neg he] at hR
    subst hR
    clear he HR hz
    have s1 : IntKind.i64.wrap (q1 - q3) = q1 - q3 := IntWalk.i64_in _ (by omega)
    have s2 : IntKind.i64.wrap (q2 - q4) = q2 - q4 := IntWalk.i64_in _ (by omega)
    have n0 : ¬ n = 0 := by omega
    go_upto_region 4 with fail
    rw [HWP.out]
    obtain ⟨B, hBe⟩ : ∃ B, w.heap.size = B := ⟨_, rfl⟩
    obtain ⟨WX, hWX⟩ : ∃ WX, Y.drew = WX := ⟨_, rfl⟩
    have HBE := Lib.hid hBe
    have HXE := Lib.hid hWX
    rw [hBe] at g0 g1 g2 g3 ⊢
    have HF : Hid (WX.cell? ⟨B, 0, none⟩ = some (.int .i64 x0) ∧ WX.cell? ⟨B, 1, none⟩ = some (.int .i64 ry0) ∧ WX.cell? ⟨B, 2, none⟩ = some (.int .i64 x1) ∧ WX.cell? ⟨B, 3, none⟩ = some (.int .i64 ry1)) := Lib.hid (by rw [← hWX]; exact ⟨g0, g1, g2, g3⟩)
    clear g0 g1 g2 g3 hBe hWX hsz HWP
    refine (wpIn_wide (n := 9)).1 (regionIn_a (w := Y) (Inv := fun L a' w' => a' = { tmps := #[.agg #[.int .i64 x0, .int .i64 ry0, .int .i64 x1, .int .i64 ry1], .int .i64 (p : Int), .pointer (some ⟨B, 0, none⟩), undef, bif L 18 then .int .i64 (q1 - q3) else .int .i64 0, bif L 19 then .int .i64 (q2 - q4) else .int .i64 0, .int .i64 n, .agg #[.int .i64 x0, .int .i64 ry0, .int .i64 x1, .int .i64 ry1], .int .i64 ar, .bool false, .int .i64 (p : Int), .int .u64 (p : Int), .int .i64 n, bif L 0 then .pointer (some ⟨B, 2, none⟩) else undef, bif L 1 then .int .i64 x1 else undef, bif L 2 then .int .i64 n else undef, bif L 3 then .int .i64 q1 else undef, bif L 4 then .pointer (some ⟨B, 0, none⟩) else undef, bif L 5 then .int .i64 x0 else undef, bif L 6 then .int .i64 n else undef, bif L 7 then .int .i64 q3 else undef, bif L 8 then .int .i64 (q1 - q3) else undef, bif L 9 then .pointer (some ⟨B, 3, none⟩) else undef, bif L 10 then .int .i64 ry1 else undef, bif L 11 then .int .i64 n else undef, bif L 12 then .int .i64 q2 else undef, bif L 13 then .pointer (some ⟨B, 1, none⟩) else undef, bif L 14 then .int .i64 ry0 else undef, bif L 15 then .int .i64 n else undef, bif L 16 then .int .i64 q4 else undef, bif L 17 then .int .i64 (q2 - q4) else undef], defers := [] } ∧ w' = WX) (by kernel_rfl) (by kernel_rfl) ?start ?step ?fin)
    case start => exact ⟨rfl, HXE.out⟩
    case step =>
      intro i hi L a' w' hI hs hu
      obtain ⟨rfl, hph⟩ := hI
      have hL := hu.1
      have hi : i < 20 := hi
      obtain rfl | rfl | rfl | rfl | rfl | rfl | rfl | rfl | rfl | rfl | rfl | rfl | rfl | rfl | rfl | rfl | rfl | rfl | rfl | rfl := (by omega : i = 0 ∨ i = 1 ∨ i = 2 ∨ i = 3 ∨ i = 4 ∨ i = 5 ∨ i = 6 ∨ i = 7 ∨ i = 8 ∨ i = 9 ∨ i = 10 ∨ i = 11 ∨ i = 12 ∨ i = 13 ∨ i = 14 ∨ i = 15 ∨ i = 16 ∨ i = 17 ∨ i = 18 ∨ i = 19)
      · skip
        refine opIn_run (v := .pointer (some ⟨B, 2, none⟩)) (w' := w') rfl rfl (fun c h => by cases h) (fun _ => trivial) ?_ ⟨by simp [Act.put, upd, hL], by simpa [upd] using hph⟩
        simp only [hL, cond_true, cond_false]
        go_simp
      · skip
        have y0 : L 0 = true := up_at hu 0 (by kernel_rfl)
        try simp only [y0, hL, cond_true, cond_false] at hph
        have g0 : w'.cell? ⟨B, 2, none⟩ = some (.int .i64 x1) := by rw [hph]; exact HF.out.2.2.1
        refine opIn_run (v := .int .i64 x1) (w' := w') rfl rfl (fun c h => by cases h) (fun _ => trivial) ?_ ⟨by simp [Act.put, upd, y0, hL], hph⟩
        simp only [y0, hL, cond_true, cond_false]
        clear hph; go_simp
      · skip
        refine opIn_run (v := .int .i64 n) (w' := w') rfl rfl (fun c h => by cases h) (fun _ => trivial) ?_ ⟨by simp [Act.put, upd, hL], by simpa [upd] using hph⟩
        simp only [hL, cond_true, cond_false]
        go_simp
      · skip
        have y0 : L 0 = true := shut_at hs 1 0 (by kernel_rfl) (up_at hu 1 (by kernel_rfl))
        have y1 : L 1 = true := up_at hu 1 (by kernel_rfl)
        have y2 : L 2 = true := up_at hu 2 (by kernel_rfl)
        try simp only [y0, y1, y2, hL, cond_true, cond_false] at hph
        refine opIn_call (f := 47) (args := #[.int .i64 x1, .int .i64 n]) (w' := w') rfl rfl (fun c h => by cases h) (fun _ => trivial) rfl ?_ ((callsIn_wide.2 (C1.out w')).mono ?_)
        · simp only [y0, y1, y2, hL, cond_true, cond_false]
          go_simp
        · rintro e w2 ⟨rfl, hw2⟩
          exact ⟨_, rfl, by simp [Act.put, upd, y0, y1, y2, hL], (hw2.trans hph)⟩
      · skip
        refine opIn_run (v := .pointer (some ⟨B, 0, none⟩)) (w' := w') rfl rfl (fun c h => by cases h) (fun _ => trivial) ?_ ⟨by simp [Act.put, upd, hL], by simpa [upd] using hph⟩
        simp only [hL, cond_true, cond_false]
        go_simp
      · skip
        have y4 : L 4 = true := up_at hu 4 (by kernel_rfl)
        try simp only [y4, hL, cond_true, cond_false] at hph
        have g0 : w'.cell? ⟨B, 0, none⟩ = some (.int .i64 x0) := by rw [hph]; exact HF.out.1
        refine opIn_run (v := .int .i64 x0) (w' := w') rfl rfl (fun c h => by cases h) (fun _ => trivial) ?_ ⟨by simp [Act.put, upd, y4, hL], hph⟩
        simp only [y4, hL, cond_true, cond_false]
        clear hph; go_simp
      · skip
        refine opIn_run (v := .int .i64 n) (w' := w') rfl rfl (fun c h => by cases h) (fun _ => trivial) ?_ ⟨by simp [Act.put, upd, hL], by simpa [upd] using hph⟩
        simp only [hL, cond_true, cond_false]
        go_simp
      · skip
        have y4 : L 4 = true := shut_at hs 5 4 (by kernel_rfl) (up_at hu 5 (by kernel_rfl))
        have y5 : L 5 = true := up_at hu 5 (by kernel_rfl)
        have y6 : L 6 = true := up_at hu 6 (by kernel_rfl)
        refine opIn_run (v := .int .i64 q3) (w' := w') rfl rfl (fun c h => by cases h) (fun _ => trivial) ?_ ⟨by simp [Act.put, upd, y4, y5, y6, hL], by simpa [upd] using hph⟩
        simp only [y4, y5, y6, hL, cond_true, cond_false]
        go_simp
      · skip
        have y0 : L 0 = true := shut_at hs 1 0 (by kernel_rfl) (shut_at hs 3 1 (by kernel_rfl) (up_at hu 3 (by kernel_rfl)))
        have y1 : L 1 = true := shut_at hs 3 1 (by kernel_rfl) (up_at hu 3 (by kernel_rfl))
        have y2 : L 2 = true := shut_at hs 3 2 (by kernel_rfl) (up_at hu 3 (by kernel_rfl))
        have y3 : L 3 = true := up_at hu 3 (by kernel_rfl)
        have y4 : L 4 = true := shut_at hs 5 4 (by kernel_rfl) (shut_at hs 7 5 (by kernel_rfl) (up_at hu 7 (by kernel_rfl)))
        have y5 : L 5 = true := shut_at hs 7 5 (by kernel_rfl) (up_at hu 7 (by kernel_rfl))
        have y6 : L 6 = true := shut_at hs 7 6 (by kernel_rfl) (up_at hu 7 (by kernel_rfl))
        have y7 : L 7 = true := up_at hu 7 (by kernel_rfl)
        refine opIn_run (v := .int .i64 (q1 - q3)) (w' := w') rfl rfl (fun c h => by cases h) (fun _ => trivial) ?_ ⟨by simp [Act.put, upd, y0, y1, y2, y3, y4, y5, y6, y7, hL], by simpa [upd] using hph⟩
        simp only [y0, y1, y2, y3, y4, y5, y6, y7, hL, cond_true, cond_false]
        go_simp
      · skip
        refine opIn_run (v := .pointer (some ⟨B, 3, none⟩)) (w' := w') rfl rfl (fun c h => by cases h) (fun _ => trivial) ?_ ⟨by simp [Act.put, upd, hL], by simpa [upd] using hph⟩
        simp only [hL, cond_true, cond_false]
        go_simp
      · skip
        have y9 : L 9 = true := up_at hu 9 (by kernel_rfl)
        try simp only [y9, hL, cond_true, cond_false] at hph
        have g0 : w'.cell? ⟨B, 3, none⟩ = some (.int .i64 ry1) := by rw [hph]; exact HF.out.2.2.2
        refine opIn_run (v := .int .i64 ry1) (w' := w') rfl rfl (fun c h => by cases h) (fun _ => trivial) ?_ ⟨by simp [Act.put, upd, y9, hL], hph⟩
        simp only [y9, hL, cond_true, cond_false]
        clear hph; go_simp
      · skip
        refine opIn_run (v := .int .i64 n) (w' := w') rfl rfl (fun c h => by cases h) (fun _ => trivial) ?_ ⟨by simp [Act.put, upd, hL], by simpa [upd] using hph⟩
        simp only [hL, cond_true, cond_false]
        go_simp
      · skip
        have y0 : L 0 = true := shut_at hs 1 0 (by kernel_rfl) (shut_at hs 3 1 (by kernel_rfl) (up_at hu 3 (by kernel_rfl)))
        have y1 : L 1 = true := shut_at hs 3 1 (by kernel_rfl) (up_at hu 3 (by kernel_rfl))
        have y2 : L 2 = true := shut_at hs 3 2 (by kernel_rfl) (up_at hu 3 (by kernel_rfl))
        have y3 : L 3 = true := up_at hu 3 (by kernel_rfl)
        have y9 : L 9 = true := shut_at hs 10 9 (by kernel_rfl) (up_at hu 10 (by kernel_rfl))
        have y10 : L 10 = true := up_at hu 10 (by kernel_rfl)
        have y11 : L 11 = true := up_at hu 11 (by kernel_rfl)
        try simp only [y0, y1, y2, y3, y9, y10, y11, hL, cond_true, cond_false] at hph
        refine opIn_call (f := 47) (args := #[.int .i64 ry1, .int .i64 n]) (w' := w') rfl rfl (fun c h => by cases h) (fun _ => trivial) rfl ?_ ((callsIn_wide.2 (C2.out w')).mono ?_)
        · simp only [y0, y1, y2, y3, y9, y10, y11, hL, cond_true, cond_false]
          go_simp
        · rintro e w2 ⟨rfl, hw2⟩
          exact ⟨_, rfl, by simp [Act.put, upd, y0, y1, y2, y3, y9, y10, y11, hL], (hw2.trans hph)⟩
      · skip
        refine opIn_run (v := .pointer (some ⟨B, 1, none⟩)) (w' := w') rfl rfl (fun c h => by cases h) (fun _ => trivial) ?_ ⟨by simp [Act.put, upd, hL], by simpa [upd] using hph⟩
        simp only [hL, cond_true, cond_false]
        go_simp
      · skip
        have y13 : L 13 = true := up_at hu 13 (by kernel_rfl)
        try simp only [y13, hL, cond_true, cond_false] at hph
        have g0 : w'.cell? ⟨B, 1, none⟩ = some (.int .i64 ry0) := by rw [hph]; exact HF.out.2.1
        refine opIn_run (v := .int .i64 ry0) (w' := w') rfl rfl (fun c h => by cases h) (fun _ => trivial) ?_ ⟨by simp [Act.put, upd, y13, hL], hph⟩
        simp only [y13, hL, cond_true, cond_false]
        clear hph; go_simp
      · skip
        refine opIn_run (v := .int .i64 n) (w' := w') rfl rfl (fun c h => by cases h) (fun _ => trivial) ?_ ⟨by simp [Act.put, upd, hL], by simpa [upd] using hph⟩
        simp only [hL, cond_true, cond_false]
        go_simp
      · skip
        have y13 : L 13 = true := shut_at hs 14 13 (by kernel_rfl) (up_at hu 14 (by kernel_rfl))
        have y14 : L 14 = true := up_at hu 14 (by kernel_rfl)
        have y15 : L 15 = true := up_at hu 15 (by kernel_rfl)
        refine opIn_run (v := .int .i64 q4) (w' := w') rfl rfl (fun c h => by cases h) (fun _ => trivial) ?_ ⟨by simp [Act.put, upd, y13, y14, y15, hL], by simpa [upd] using hph⟩
        simp only [y13, y14, y15, hL, cond_true, cond_false]
        go_simp
      · skip
        have y0 : L 0 = true := shut_at hs 1 0 (by kernel_rfl) (shut_at hs 3 1 (by kernel_rfl) (shut_at hs 12 3 (by kernel_rfl) (up_at hu 12 (by kernel_rfl))))
        have y1 : L 1 = true := shut_at hs 3 1 (by kernel_rfl) (shut_at hs 12 3 (by kernel_rfl) (up_at hu 12 (by kernel_rfl)))
        have y2 : L 2 = true := shut_at hs 3 2 (by kernel_rfl) (shut_at hs 12 3 (by kernel_rfl) (up_at hu 12 (by kernel_rfl)))
        have y3 : L 3 = true := shut_at hs 12 3 (by kernel_rfl) (up_at hu 12 (by kernel_rfl))
        have y9 : L 9 = true := shut_at hs 10 9 (by kernel_rfl) (shut_at hs 12 10 (by kernel_rfl) (up_at hu 12 (by kernel_rfl)))
        have y10 : L 10 = true := shut_at hs 12 10 (by kernel_rfl) (up_at hu 12 (by kernel_rfl))
        have y11 : L 11 = true := shut_at hs 12 11 (by kernel_rfl) (up_at hu 12 (by kernel_rfl))
        have y12 : L 12 = true := up_at hu 12 (by kernel_rfl)
        have y13 : L 13 = true := shut_at hs 14 13 (by kernel_rfl) (shut_at hs 16 14 (by kernel_rfl) (up_at hu 16 (by kernel_rfl)))
        have y14 : L 14 = true := shut_at hs 16 14 (by kernel_rfl) (up_at hu 16 (by kernel_rfl))
        have y15 : L 15 = true := shut_at hs 16 15 (by kernel_rfl) (up_at hu 16 (by kernel_rfl))
        have y16 : L 16 = true := up_at hu 16 (by kernel_rfl)
        refine opIn_run (v := .int .i64 (q2 - q4)) (w' := w') rfl rfl (fun c h => by cases h) (fun _ => trivial) ?_ ⟨by simp [Act.put, upd, y0, y1, y2, y3, y9, y10, y11, y12, y13, y14, y15, y16, hL], by simpa [upd] using hph⟩
        simp only [y0, y1, y2, y3, y9, y10, y11, y12, y13, y14, y15, y16, hL, cond_true, cond_false]
        go_simp
      · skip
        have y0 : L 0 = true := up_at hu 0 (by kernel_rfl)
        have y1 : L 1 = true := up_at hu 1 (by kernel_rfl)
        have y2 : L 2 = true := up_at hu 2 (by kernel_rfl)
        have y3 : L 3 = true := up_at hu 3 (by kernel_rfl)
        have y4 : L 4 = true := up_at hu 4 (by kernel_rfl)
        have y5 : L 5 = true := up_at hu 5 (by kernel_rfl)
        have y6 : L 6 = true := up_at hu 6 (by kernel_rfl)
        have y7 : L 7 = true := up_at hu 7 (by kernel_rfl)
        have y8 : L 8 = true := up_at hu 8 (by kernel_rfl)
        have y9 : L 9 = true := shut_at hs 10 9 (by kernel_rfl) (shut_at hs 12 10 (by kernel_rfl) (up_at hu 12 (by kernel_rfl)))
        have y10 : L 10 = true := shut_at hs 12 10 (by kernel_rfl) (up_at hu 12 (by kernel_rfl))
        have y11 : L 11 = true := shut_at hs 12 11 (by kernel_rfl) (up_at hu 12 (by kernel_rfl))
        have y12 : L 12 = true := up_at hu 12 (by kernel_rfl)
        refine opIn_run (v := .int .i64 (q1 - q3)) (w' := w') rfl rfl (fun c h => by cases h) (fun _ => trivial) ?_ ⟨by simp [Act.put, upd, y0, y1, y2, y3, y4, y5, y6, y7, y8, y9, y10, y11, y12, hL], by simpa [upd] using hph⟩
        simp only [y0, y1, y2, y3, y4, y5, y6, y7, y8, y9, y10, y11, y12, hL, cond_true, cond_false]
        go_simp
      · skip
        have y0 : L 0 = true := up_at hu 0 (by kernel_rfl)
        have y1 : L 1 = true := up_at hu 1 (by kernel_rfl)
        have y2 : L 2 = true := up_at hu 2 (by kernel_rfl)
        have y3 : L 3 = true := up_at hu 3 (by kernel_rfl)
        have y4 : L 4 = true := up_at hu 4 (by kernel_rfl)
        have y5 : L 5 = true := up_at hu 5 (by kernel_rfl)
        have y6 : L 6 = true := up_at hu 6 (by kernel_rfl)
        have y7 : L 7 = true := up_at hu 7 (by kernel_rfl)
        have y8 : L 8 = true := up_at hu 8 (by kernel_rfl)
        have y9 : L 9 = true := up_at hu 9 (by kernel_rfl)
        have y10 : L 10 = true := up_at hu 10 (by kernel_rfl)
        have y11 : L 11 = true := up_at hu 11 (by kernel_rfl)
        have y12 : L 12 = true := up_at hu 12 (by kernel_rfl)
        have y13 : L 13 = true := up_at hu 13 (by kernel_rfl)
        have y14 : L 14 = true := up_at hu 14 (by kernel_rfl)
        have y15 : L 15 = true := up_at hu 15 (by kernel_rfl)
        have y16 : L 16 = true := up_at hu 16 (by kernel_rfl)
        have y17 : L 17 = true := up_at hu 17 (by kernel_rfl)
        have y18 : L 18 = true := up_at hu 18 (by kernel_rfl)
        refine opIn_run (v := .int .i64 (q2 - q4)) (w' := w') rfl rfl (fun c h => by cases h) (fun _ => trivial) ?_ ⟨by simp [Act.put, upd, y0, y1, y2, y3, y4, y5, y6, y7, y8, y9, y10, y11, y12, y13, y14, y15, y16, y17, y18, hL], by simpa [upd] using hph⟩
        simp only [y0, y1, y2, y3, y4, y5, y6, y7, y8, y9, y10, y11, y12, y13, y14, y15, y16, y17, y18, hL, cond_true, cond_false]
        go_simp
    case fin =>
      intro L a' w' hall hI
      obtain ⟨rfl, hph⟩ := hI
      have l0 := hall 0 (by decide)
      have l1 := hall 1 (by decide)
      have l2 := hall 2 (by decide)
      have l3 := hall 3 (by decide)
      have l4 := hall 4 (by decide)
      have l5 := hall 5 (by decide)
      have l6 := hall 6 (by decide)
      have l7 := hall 7 (by decide)
      have l8 := hall 8 (by decide)
      have l9 := hall 9 (by decide)
      have l10 := hall 10 (by decide)
      have l11 := hall 11 (by decide)
      have l12 := hall 12 (by decide)
      have l13 := hall 13 (by decide)
      have l14 := hall 14 (by decide)
      have l15 := hall 15 (by decide)
      have l16 := hall 16 (by decide)
      have l17 := hall 17 (by decide)
      have l18 := hall 18 (by decide)
      have l19 := hall 19 (by decide)
      simp only [l0, l1, l2, l3, l4, l5, l6, l7, l8, l9, l10, l11, l12, l13, l14, l15, l16, l17, l18, l19, cond_true] at hph ⊢
      clear l0 l1 l2 l3 l4 l5 l6 l7 l8 l9 l10 l11 l12 l13 l14 l15 l16 l17 l18 l19 hall
      subst hph
      have HB5 : Hid (Below B w w') := Lib.hid (by rw [← HXE.out, ← HBE.out]; exact below_drewN HBY.out 1)
      clear HF C1 C2 HXE HBY
      go_wp2
      go_ret2
      exact ⟨rfl, by rw [HBE.out]; exact HB5.out⟩
end Go.Proofs.Ythcpmonahmogaaa
