/- The statement ScanOnce, walked: a loop over all places, and a row of marks. -/
import Derived.Test.YtdmahidojconkaaScanPlain
import Derived.Deep.OwnRows
set_option linter.unusedVariables false
set_option linter.unusedSimpArgs false
namespace Go.Proofs.Ytdmahidojconkaa
open Go.RowKit

theorem Try.info4 : (Try.prog.info? 4).map (fun i => (i.zero, i.size, i.bytes)) = some (some (.bool false), 1, 1) := by kernel_rfl

/-- The mark of place j, behind the first k places. -/
def markAt (W H : Int) (k : Int) (j : Nat) : Value := .bool (decide (placeNo W H ((j : Int) % W) ((j : Int) / W) < k))
theorem place_row {W x y : Int} (hW : 1 ≤ W) (x0 : 0 ≤ x) (x1 : x < W) (y0 : 0 ≤ y) : ((y * W + x).toNat : Int) % W = x ∧ ((y * W + x).toNat : Int) / W = y := by
  have e0 : 0 ≤ y * W := Int.mul_nonneg y0 (by omega)
  rw [Int.toNat_of_nonneg (by omega), Int.add_comm, Int.add_mul_emod_self_right, Int.add_mul_ediv_right _ _ (by omega), Int.emod_eq_of_lt x0 x1, Int.ediv_eq_zero_of_lt x0 x1]
  omega
theorem mark_first {W H : Int} (hW : 1 ≤ W) (j : Nat) (hH : 1 ≤ H) (hj : (j : Int) < W * H) : markAt W H 0 j = .bool false := by
  unfold markAt
  have a0 : 0 ≤ (j : Int) / W := Int.ediv_nonneg (by omega) (by omega)
  have a1 : (j : Int) / W < H := (Int.ediv_lt_iff_lt_mul (by omega)).2 (by rw [Int.mul_comm H W]; exact hj)
  have a2 := Int.emod_nonneg (j : Int) (show W ≠ 0 by omega)
  have e1 : 0 ≤ ((j : Int) / W / 4 * 4) * W := Int.mul_nonneg (by omega) (by omega)
  have e2 : 0 ≤ (j : Int) % W * min 4 (H - (j : Int) / W / 4 * 4) := Int.mul_nonneg a2 (by omega)
  rw [decide_eq_false]
  unfold placeNo
  omega
theorem mark_step {W H k x y : Int} {n : Nat} (hW : 1 ≤ W) (hH : 1 ≤ H) (hn : W * H = n) (k0 : 0 ≤ k) (k1 : k < n) (h : scanAt W H k = (x, y)) (j : Nat) (hj : j < n) :
    (if j = (y * W + x).toNat then Value.bool true else markAt W H k j) = markAt W H (k + 1) j := by
  obtain ⟨x0, x1, y0, y1, hp⟩ := scan_place hW hH k0 (by omega) h
  split
  · rename_i e
    subst e
    obtain ⟨e1, e2⟩ := place_row hW x0 x1 y0
    unfold markAt
    rw [e1, e2, hp, decide_eq_true (by omega)]
  · rename_i e
    unfold markAt
    congr 1
    rw [Bool.eq_iff_iff]
    simp only [decide_eq_true_eq]
    have a0 : 0 ≤ (j : Int) / W := Int.ediv_nonneg (by omega) (by omega)
    have a1 : (j : Int) / W < H := (Int.ediv_lt_iff_lt_mul (by omega)).2 (by rw [Int.mul_comm H W]; omega)
    have a2 := Int.emod_nonneg (j : Int) (show W ≠ 0 by omega)
    have a3 := Int.emod_lt_of_pos (j : Int) (show 0 < W by omega)
    have hs := place_scan (W := W) (H := H) hW a2 a3 a0 a1
    have hne : placeNo W H ((j : Int) % W) ((j : Int) / W) ≠ k := by
      intro e2
      rw [e2, h] at hs
      injection hs with hx hy
      have d := Int.mul_ediv_add_emod (j : Int) W
      rw [← hx, ← hy, Int.mul_comm W y] at d
      omega
    omega

set_option maxRecDepth 100000 in
set_option maxHeartbeats 8000000 in
theorem walk_scanOnce (a0 : Int) (a1 : Int) (w : World) (w0 : (Lit.int .i64 a0).wf = true) (w1 : (Lit.int .i64 a1).wf = true) :
    Calls Try.prog 4 #[.int .i64 a0, .int .i64 a1] w fun e w' => e = .returned (.bool true) ∧ Below w.heap.size w w' := by
  clear w0 w1
  go_enter Try.func4, Try.ntmps4
  go_wp2_with fail
  refine (known6 _).mono ?_
  rintro e w1 ⟨rfl, d1⟩
  have h1 := d1.below
  clear d1
  go_wp2_with fail
  refine (within_some _ _ _ (by omega) (by omega)).mono ?_
  rintro e w' ⟨u, rfl, u0, u1, rfl⟩
  go_wp2_with fail
  refine (within_some _ _ _ (by omega) (by omega)).mono ?_
  rintro e w' ⟨v, rfl, v0, v1, rfl⟩
  have p0 : 0 ≤ (1 + u) * (1 + v) := Int.mul_nonneg (by omega) (by omega)
  have p1 : (1 + u) * (1 + v) ≤ 20 * 20 := Int.mul_le_mul (by omega) (by omega) (by omega) (by omega)
  obtain ⟨n, hn⟩ : ∃ n : Nat, (1 + u) * (1 + v) = (n : Int) := ⟨((1 + u) * (1 + v)).toNat, by omega⟩
  have n1 : n ≤ 400 := by omega
  have hmk := Go.run_make_row' (P := Try.prog) 27 4 (.bool false) 1 Try.underlying27 Try.info4 rfl .i64 .i64 n (by omega) (by omega)
  go_wp2_with fail
  have hW : (1 : Int) ≤ 1 + u := by omega
  have hH : (1 : Int) ≤ 1 + v := by omega
  have hrow0 : (w1.alloc (.cells (madeCells #[Value.bool false] n) 4)).rowIs w1.heap.size 4 n (markAt (1 + u) (1 + v) 0) :=
    (World.rowIs_made w1 (.bool false) n 4).congr fun j hj => (mark_first hW j hH (by omega)).symm
  have hb0 := h1.alloc h1.size (.cells (madeCells #[Value.bool false] n) 4)
  have hbs : w.heap.size ≤ w1.heap.size := h1.size
  have HN := Lib.hid hn
  generalize hB : w1.heap.size = B at *
  clear hB
  have HR0 := Lib.hid hrow0
  have HB0 := Lib.hid hb0
  clear hrow0 hb0 hmk
  go_loopw [6, 7, 8] (fun pv qv i wr => ∃ (k : Nat) (px py : Int), k ≤ n ∧ 0 ≤ px ∧ px ≤ 20 ∧ -1 ≤ py ∧ py ≤ 20 ∧ i = .int .i64 k ∧ pv = .int .i64 px ∧ qv = .int .i64 py ∧ Hid (0 < k → scanAt (1 + u) (1 + v) ((k : Int) - 1) = (px, py)) ∧ Hid (k = 0 → px = 0 ∧ py = -1) ∧ wr.rowIs B 4 n (markAt (1 + u) (1 + v) k) ∧ Below w.heap.size w wr)
    (fun _ _ i _ => n - (intOf i).toNat)
  case atStart => exact ⟨0, 0, -1, by omega, by omega, by omega, by omega, by omega, rfl, rfl, rfl, fun h => absurd h (by omega), fun _ => ⟨rfl, rfl⟩, HR0.out, HB0.out⟩
  case round =>
    obtain ⟨k, px, py, k0, a0, a1, a2, a3, rfl, rfl, rfl, HP, HZ, hrow, hb⟩ := hrel
    by_cases hk : k < n
    · obtain ⟨⟨x, y⟩, hs⟩ : ∃ p, scanAt (1 + u) (1 + v) k = p := ⟨_, rfl⟩
      obtain ⟨x0, x1, y0, y1, hpl⟩ := scan_place hW hH (by omega) (by omega) hs
      have q0 : 0 ≤ y * (1 + u) := Int.mul_nonneg y0 (by omega)
      have q1 : y * (1 + u) + x < n := by
        have := Int.mul_le_mul_of_nonneg_right (show y ≤ v by omega) (show 0 ≤ 1 + u by omega)
        have e2 : (1 + u) * (1 + v) = (1 + u) + v * (1 + u) := by rw [Int.mul_add, Int.mul_one, Int.mul_comm (1 + u) v]
        omega
      have HS := Lib.hid hs
      have H0 := Lib.hid hrow
      have HPL := Lib.hid hpl
      have hnx : 0 < k → _ := fun h => scan_next hW hH (by omega) (by omega) hs (HP.out h)
      have HX := Lib.hid hnx
      have hpp : 0 < k → 0 ≤ py := fun h => (scan_place hW hH (by omega) (by omega) (HP.out h)).2.2.1
      have HPP := Lib.hid hpp
      clear hpp
      clear hs hpl hnx hrow
      go_wp2_with fail
      refine (at_is HS.out _ (by omega) (by omega) (by omega)).mono ?_
      rintro e w2 ⟨rfl, d2⟩
      obtain ⟨d, rfl⟩ := d2
      have hr : (wr.drewN d).rowIs B 4 n (markAt (1 + u) (1 + v) k) := H0.out
      have hb2 : Below w.heap.size w (wr.drewN d) := below_drewN hb d
      clear H0 hb
      generalize wr.drewN d = w2 at *
      have hc : w2.cell? ⟨B, (y * (1 + u) + x).toNat, none⟩ = some (.bool false) := by
        rw [hr.cell (by omega)]
        obtain ⟨e1, e2⟩ := place_row hW x0 x1 y0
        unfold markAt
        rw [e1, e2, HPL.out, decide_eq_false (by omega)]
      have hf := hr.frozen (y * (1 + u) + x).toNat
      have hrow2 := Lib.hid ((hr.set (y * (1 + u) + x).toNat (.bool true)).congr fun j hj => mark_step (k := k) hW hH HN.out (by omega) (by omega) HS.out j hj)
      have hb3 := Lib.hid (hb2.setCell (p := ⟨B, (y * (1 + u) + x).toNat, none⟩) hbs (.bool true))
      have hP2 : Hid (0 < k + 1 → scanAt (1 + u) (1 + v) (((k + 1 : Nat) : Int) - 1) = (x, y)) := by
        intro _
        rw [show ((k + 1 : Nat) : Int) - 1 = k from by omega]
        exact HS.out
      have hZ2 : Hid (k + 1 = 0 → x = 0 ∧ y = -1) := fun h => absurd h (by omega)
      have hrow3 : Hid ((w2.setCell ⟨B, (y * (1 + u) + x).toNat, none⟩ (.bool true)).rowIs B 4 n (markAt (1 + u) (1 + v) ((k + 1 : Nat) : Int))) := by
        rw [show ((k + 1 : Nat) : Int) = (k : Int) + 1 from by omega]
        exact hrow2.out
      clear hr hb2 hrow2 HP HPL
      have z4 : 0 ≤ y % 4 := by omega
      have gk : (0 : Int) ≤ (k : Int) := by omega
      by_cases hk0 : k = 0
      · have hz := HZ.out hk0
        have hs0 : scanAt (1 + u) (1 + v) k = (0, 0) := by
          have := scan_rep (W := 1 + u) (H := 1 + v) (T := 0) (r := min 4 (1 + v - 0)) (c := 0) (i := 0) hW (by omega) (by omega) (by omega) rfl (by omega) (by omega) (by omega) (by omega)
          rw [hk0]
          simpa using this
        obtain ⟨hx0, hy0⟩ : x = 0 ∧ y = 0 := by
          have := HS.out.symm.trans hs0
          injection this with e1 e2
          exact ⟨e1, e2⟩
        obtain ⟨hpx, hpy⟩ := hz
        clear HX HPP HZ hs0
        subst hk0 hpx hpy
        have t1 : (x == 0) = true := by simpa using hx0
        have t2 : (y == 0) = true := by simpa using hy0
        have t3 : y % 4 ≤ 0 := by omega
        have t4 : (x == 1) = false := by simp; omega
        have t5 : (y % 4 == 0) = true := by simp; omega
        have t11 : (y == 4) = false := by simp; omega
        clear hx0 hy0
        by_cases c10 : u = 0
        · have t10 : ((0 : Int) == 1 + u - 1) = true := by simp; omega
          clear c10
          go_wp2
          go_roundw
          case rel => exact ⟨0 + 1, x, y, by omega, by omega, by omega, by omega, by omega, by go_num, rfl, rfl, hP2, hZ2, hrow3.out, hb3.out⟩
          case measure => simp [intOf]; omega
        · have t10 : ((0 : Int) == 1 + u - 1) = false := by simp; omega
          clear c10
          go_wp2
          go_roundw
          case rel => exact ⟨0 + 1, x, y, by omega, by omega, by omega, by omega, by omega, by go_num, rfl, rfl, hP2, hZ2, hrow3.out, hb3.out⟩
          case measure => simp [intOf]; omega
      · have hx := HX.out (by omega)
        have hpy : 0 ≤ py := HPP.out (by omega)
        clear HPP HZ
        have gk1 : (0 : Int) < (k : Int) := by omega
        clear HX hk0
        rcases hx with ⟨e1, e2, e3⟩ | ⟨e1, e2, e3, e4⟩ | ⟨e1, e2, e3, e4⟩
        · have t1 : (x == px) = true := by simpa using e1
          have t2 : (y == py + 1) = true := by simpa using e2
          have t4 : (x == px + 1) = false := by simp; omega
          have t5 : (y % 4 == 0) = false := by simp; omega
          clear e1 e2
          by_cases c9 : x = 0
          · have t9 : (x == 0) = true := by simpa using c9
            by_cases c10 : px = 1 + u - 1
            · have t10 : (px == 1 + u - 1) = true := by simpa using c10
              clear c9 c10
              go_wp2
              go_roundw
              case rel => exact ⟨k + 1, x, y, by omega, by omega, by omega, by omega, by omega, by go_num, rfl, rfl, hP2, hZ2, hrow3.out, hb3.out⟩
              case measure => simp [intOf]; omega
            · have t10 : (px == 1 + u - 1) = false := by simpa using c10
              clear c9 c10
              go_wp2
              go_roundw
              case rel => exact ⟨k + 1, x, y, by omega, by omega, by omega, by omega, by omega, by go_num, rfl, rfl, hP2, hZ2, hrow3.out, hb3.out⟩
              case measure => simp [intOf]; omega
          · have t9 : (x == 0) = false := by simpa using c9
            clear c9
            go_wp2
            go_roundw
            case rel => exact ⟨k + 1, x, y, by omega, by omega, by omega, by omega, by omega, by go_num, rfl, rfl, hP2, hZ2, hrow3.out, hb3.out⟩
            case measure => simp [intOf]; omega
        · have t1 : (x == px) = false := by simp; omega
          have t4 : (x == px + 1) = true := by simpa using e1
          have t5 : (y % 4 == 0) = true := by simpa using e2
          have t9 : (x == 0) = false := by simp; omega
          have t6 : (y == py / 4 * 4) = true := by simpa using e3
          by_cases c7 : py % 4 = 3
          · have t7 : (py % 4 == 3) = true := by simpa using c7
            clear e1 e2 e3 e4 c7
            go_wp2
            go_roundw
            case rel => exact ⟨k + 1, x, y, by omega, by omega, by omega, by omega, by omega, by go_num, rfl, rfl, hP2, hZ2, hrow3.out, hb3.out⟩
            case measure => simp [intOf]; omega
          · have t7 : (py % 4 == 3) = false := by simpa using c7
            have t8 : (py == 1 + v - 1) = true := by simp; omega
            clear e1 e2 e3 e4 c7
            go_wp2
            go_roundw
            case rel => exact ⟨k + 1, x, y, by omega, by omega, by omega, by omega, by omega, by go_num, rfl, rfl, hP2, hZ2, hrow3.out, hb3.out⟩
            case measure => simp [intOf]; omega
        · have t4 : (x == px + 1) = false := by simp; omega
          have t5 : (y % 4 == 0) = true := by simpa using e3
          have t9 : (x == 0) = true := by simpa using e1
          have t10 : (px == 1 + u - 1) = true := by simpa using e2
          have t11 : (y == py / 4 * 4 + 4) = true := by simpa using e4
          by_cases c1 : x = px
          · have t1 : (x == px) = true := by simpa using c1
            by_cases c2 : y = py + 1
            · have t2 : (y == py + 1) = true := by simpa using c2
              have t3 : y % 4 ≤ 0 := by omega
              clear e1 e2 e3 e4 c1 c2
              go_wp2
              go_roundw
              case rel => exact ⟨k + 1, x, y, by omega, by omega, by omega, by omega, by omega, by go_num, rfl, rfl, hP2, hZ2, hrow3.out, hb3.out⟩
              case measure => simp [intOf]; omega
            · have t2 : (y == py + 1) = false := by simpa using c2
              clear e1 e2 e3 e4 c1 c2
              go_wp2
              go_roundw
              case rel => exact ⟨k + 1, x, y, by omega, by omega, by omega, by omega, by omega, by go_num, rfl, rfl, hP2, hZ2, hrow3.out, hb3.out⟩
              case measure => simp [intOf]; omega
          · have t1 : (x == px) = false := by simpa using c1
            clear e1 e2 e3 e4 c1
            go_wp2
            go_roundw
            case rel => exact ⟨k + 1, x, y, by omega, by omega, by omega, by omega, by omega, by go_num, rfl, rfl, hP2, hZ2, hrow3.out, hb3.out⟩
            case measure => simp [intOf]; omega
    · have hkn : k = n := by omega
      have hn1 : scanAt (1 + u) (1 + v) (n : Int) = (-1, -1) := by
        rw [← hn]
        exact scan_none (Or.inr (Or.inr (Or.inr (by rw [Int.mul_ediv_cancel_left _ (by omega)]; omega))))
      have hn2 := scan_none (wd := 1 + u) (h := 1 + v) (k := -1) (Or.inr (Or.inr (Or.inl (by omega))))
      have HN1 := Lib.hid hn1
      have HN2 := Lib.hid hn2
      clear hn1 hn2 HP HZ hrow
      go_wp2_with fail
      refine (at_is HN1.out _ (by omega) (by omega) (by omega)).mono ?_
      rintro e w2 ⟨rfl, d2⟩
      have hb2 := hb.trans (d2.below.mono hb.size)
      clear d2 hb
      go_wp2_with fail
      refine (at_is HN2.out _ (by omega) (by omega) (by omega)).mono ?_
      rintro e w3 ⟨rfl, d3⟩
      have hb3 := hb2.trans (d3.below.mono hb2.size)
      clear d3 hb2
      go_wp2
      go_ret
      exact ⟨rfl, hb3⟩
end Go.Proofs.Ytdmahidojconkaa
