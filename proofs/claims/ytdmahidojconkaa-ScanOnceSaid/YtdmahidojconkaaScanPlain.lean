/- Plain arithmetic for ScanOnce: each place has its number, each number its place, and which place comes behind which. -/
import Derived.Test.YtdmahidojconkaaScanStripes
set_option linter.unusedVariables false
namespace Go.Proofs.Ytdmahidojconkaa
open Go.RowKit

/-- The number of a place. -/
def placeNo (W H x y : Int) : Int := (y / 4 * 4) * W + x * min 4 (H - y / 4 * 4) + (y - y / 4 * 4)

theorem scan_rep {W H T r c i : Int} (hW : 1 ≤ W) (hT : T % 4 = 0) (h0 : 0 ≤ T) (h1 : T < H) (hr : r = min 4 (H - T)) (c0 : 0 ≤ c) (c1 : c < W) (i0 : 0 ≤ i) (i1 : i < r) :
    scanAt W H (T * W + c * r + i) = (c, T + i) := by
  have hr1 : 1 ≤ r ∧ r ≤ 4 := by omega
  have e0 : 0 ≤ T * W := Int.mul_nonneg h0 (by omega)
  have e1 : 0 ≤ c * r := Int.mul_nonneg c0 (by omega)
  have e2 : c * r ≤ (W - 1) * r := Int.mul_le_mul_of_nonneg_right (by omega) (by omega)
  have e3 : (W - 1) * r = r * W - r := by rw [Int.sub_mul, Int.mul_comm W r]; omega
  have e4 : (T + r) * W = T * W + r * W := Int.add_mul _ _ _
  have k0 : 0 ≤ T * W + c * r + i := by omega
  have q0 : T ≤ (T * W + c * r + i) / W := (Int.le_ediv_iff_mul_le (by omega)).2 (by omega)
  have q1 : (T * W + c * r + i) / W < T + r := (Int.ediv_lt_iff_lt_mul (by omega)).2 (by omega)
  have q2 : (T * W + c * r + i) / W / 4 * 4 = T := by omega
  rw [scan_some hW (by omega) k0 (by omega) (m := r) (by omega), q2]
  rw [show T * W + c * r + i - T * W = i + c * r from by omega, Int.add_mul_ediv_right _ _ (by omega), Int.add_mul_emod_self_right, Int.ediv_eq_zero_of_lt i0 i1, Int.emod_eq_of_lt i0 i1]
  congr 1
  omega

/-- Of a number of a place: the stripe, the column, the row in the stripe. -/
theorem scan_parts {W H k : Int} (hW : 1 ≤ W) (hH : 1 ≤ H) (k0 : 0 ≤ k) (k1 : k < W * H) :
    ∃ T r c i, T % 4 = 0 ∧ 0 ≤ T ∧ T < H ∧ r = min 4 (H - T) ∧ 0 ≤ c ∧ c < W ∧ 0 ≤ i ∧ i < r ∧ k = T * W + c * r + i ∧ scanAt W H k = (c, T + i) := by
  obtain ⟨f1, f2, f3, f4⟩ := scan_facts hW k0
  have q : k / W < H := (Int.ediv_lt_iff_lt_mul (by omega)).2 (by rw [Int.mul_comm H W]; exact k1)
  have hr : 1 ≤ min 4 (H - k / W / 4 * 4) := by omega
  have r0 := Int.emod_nonneg (k - k / W / 4 * 4 * W) (show min 4 (H - k / W / 4 * 4) ≠ 0 by omega)
  have r1 := Int.emod_lt_of_pos (k - k / W / 4 * 4 * W) (show 0 < min 4 (H - k / W / 4 * 4) by omega)
  have d := Int.mul_ediv_add_emod (k - k / W / 4 * 4 * W) (min 4 (H - k / W / 4 * 4))
  refine ⟨k / W / 4 * 4, _, (k - k / W / 4 * 4 * W) / min 4 (H - k / W / 4 * 4), (k - k / W / 4 * 4 * W) % min 4 (H - k / W / 4 * 4), by omega, by omega, by omega, rfl, Int.ediv_nonneg (by omega) (by omega), ?_, r0, r1, ?_, scan_some hW hH k0 q rfl⟩
  · exact (scan_col hW hr).2 (by omega)
  · rw [Int.mul_comm ((k - k / W / 4 * 4 * W) / _)]
    omega

theorem scan_place {W H k : Int} (hW : 1 ≤ W) (hH : 1 ≤ H) (k0 : 0 ≤ k) (k1 : k < W * H) {x y : Int} (h : scanAt W H k = (x, y)) :
    0 ≤ x ∧ x < W ∧ 0 ≤ y ∧ y < H ∧ placeNo W H x y = k := by
  obtain ⟨T, r, c, i, t0, t1, t2, hr, c0, c1, i0, i1, hk, hs⟩ := scan_parts hW hH k0 k1
  rw [hs] at h
  injection h with hx hy
  subst hx hy
  have e : (T + i) / 4 * 4 = T := by omega
  refine ⟨c0, c1, by omega, by omega, ?_⟩
  unfold placeNo
  rw [e, ← hr, hk]
  omega
theorem place_scan {W H x y : Int} (hW : 1 ≤ W) (x0 : 0 ≤ x) (x1 : x < W) (y0 : 0 ≤ y) (y1 : y < H) : scanAt W H (placeNo W H x y) = (x, y) := by
  unfold placeNo
  rw [scan_rep hW (by omega) (by omega) (by omega) rfl x0 x1 (by omega) (by omega)]
  congr 1; omega

/-- Which place comes behind which. -/
theorem scan_next {W H k : Int} (hW : 1 ≤ W) (hH : 1 ≤ H) (k0 : 1 ≤ k) (k1 : k < W * H) {x y px py : Int} (h : scanAt W H k = (x, y)) (h' : scanAt W H (k - 1) = (px, py)) :
    (x = px ∧ y = py + 1 ∧ 0 < y % 4) ∨ (x = px + 1 ∧ y % 4 = 0 ∧ y = py / 4 * 4 ∧ (py % 4 = 3 ∨ py = H - 1)) ∨ (x = 0 ∧ px = W - 1 ∧ y % 4 = 0 ∧ y = py / 4 * 4 + 4) := by
  obtain ⟨T, r, c, i, t0, t1, t2, hr, c0, c1, i0, i1, hk, hs⟩ := scan_parts hW hH (by omega) k1
  rw [hs] at h
  injection h with hx hy
  subst hx hy
  by_cases ci : i = 0
  · subst ci
    by_cases cc : c = 0
    · subst cc
      have hT : 4 ≤ T := by
        rcases (show 0 < T ∨ T ≤ 0 from by omega) with h | h
        · omega
        · have : T = 0 := by omega
          subst this
          simp at hk
          omega
      have e : k - 1 = (T - 4) * W + (W - 1) * 4 + 3 := by
        rw [hk, Int.sub_mul]; omega
      rw [e, scan_rep hW (by omega) (by omega) (by omega) (r := 4) (by omega) (by omega) (by omega) (by omega) (by omega)] at h'
      injection h' with hx hy
      right; right
      omega
    · have e : k - 1 = T * W + (c - 1) * r + (r - 1) := by
        rw [hk, Int.sub_mul]; omega
      rw [e, scan_rep hW t0 t1 t2 hr (by omega) (by omega) (by omega) (by omega)] at h'
      injection h' with hx hy
      right; left
      omega
  · have e : k - 1 = T * W + c * r + (i - 1) := by omega
    rw [e, scan_rep hW t0 t1 t2 hr c0 c1 (by omega) (by omega)] at h'
    injection h' with hx hy
    left
    omega
end Go.Proofs.Ytdmahidojconkaa
