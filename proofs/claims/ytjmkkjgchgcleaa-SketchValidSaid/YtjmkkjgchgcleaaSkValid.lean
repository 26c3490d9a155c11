/- What is drawn is a valid picture. -/
import Derived.Test.YtjmkkjgchgcleaaSkChk
set_option linter.unusedVariables false
namespace Go.Proofs.Ytjmkkjgchgcleaa
open Go.RowKit

theorem rows_at {x y d kind : Int} {k : Nat} {i : Nat} {L : List Int} (hL : (rowsF x y 0 0 d kind k)[i]? = some L) : dataF x y 0 0 d kind i = L := by
  unfold rowsF at hL
  have hik : i < k := by have := (List.getElem?_eq_some_iff.1 hL).1; simpa using this
  rw [List.getElem?_map, List.getElem?_range hik] at hL
  simpa using hL
theorem rows_len {x y d kind : Int} {k : Nat} (h0 : 0 ≤ x) (h1 : 0 ≤ y) : ∀ i L, (rowsF x y 0 0 d kind k)[i]? = some L → (L.length : Int) = (ceilF x (stepF kind i) - ceilF 0 (stepF kind i)) * (ceilF y (stepF kind i) - ceilF 0 (stepF kind i)) := by
  intro i L hL
  obtain rfl := rows_at hL
  have hs := step_bd kind i
  have m1 := ceil_mono h0 hs.1
  have m2 := ceil_mono h1 hs.1
  unfold dataF
  rw [gridP_len]
  unfold sideF
  rw [Int.natCast_mul, Int.toNat_of_nonneg (by omega), Int.toNat_of_nonneg (by omega), Int.mul_comm]
theorem rows_val {x y d kind : Int} {k : Nat} (hd : 1 ≤ d ∧ d ≤ 16) : ∀ L ∈ rowsF x y 0 0 d kind k, ∀ v ∈ L, 0 ≤ v ∧ v ≤ (2 : Int) ^ d.toNat - 1 := by
  intro L hL v hv
  obtain ⟨i, hi, rfl⟩ := List.mem_map.1 hL
  unfold dataF gridP at hv
  obtain ⟨q, _, rfl⟩ := List.mem_map.1 hv
  have hp := pow_bd d hd.1 hd.2
  have := smp_bd (kind := kind) (c := i) (i := ((q % sideF kind 0 x i : Nat) : Int)) (j := ((q / sideF kind 0 x i : Nat) : Int)) hp
  omega

set_option maxRecDepth 100000 in
set_option maxHeartbeats 8000000 in
theorem walk_sketchValid (a0 : Int) (a1 : Int) (a2 : Int) (a3 : Int) (a4 : Int) (w : World) (w0 : (Lit.int .i64 a0).wf = true) (w1 : (Lit.int .i64 a1).wf = true) (w2 : (Lit.int .i64 a2).wf = true) (w3 : (Lit.int .i64 a3).wf = true) (w4 : (Lit.int .i64 a4).wf = true) :
    Calls Try.prog 4 #[.int .i64 a0, .int .i64 a1, .int .i64 a2, .int .i64 a3, .int .i64 a4] w fun e w' => e = .returned (.bool true) ∧ Below w.heap.size w w' := by
  clear w0 w1 w2 w3 w4
  go_enter Try.func4, Try.ntmps4
  go_wp2_with fail
  refine (known21 _).mono ?_
  rintro e w1 ⟨rfl, h1⟩
  go_wp2_with fail
  refine (some21 _ _ _ (by omega) (by omega)).mono ?_
  rintro e w' ⟨x', rfl, x0, x1, rfl⟩
  go_wp2_with fail
  refine (some21 _ _ _ (by omega) (by omega)).mono ?_
  rintro e w' ⟨y', rfl, y0, y1, rfl⟩
  go_wp2_with fail
  refine (some21 _ _ _ (by omega) (by omega)).mono ?_
  rintro e w' ⟨n', rfl, n0, n1, rfl⟩
  go_wp2_with fail
  refine (some21 _ _ _ (by omega) (by omega)).mono ?_
  rintro e w' ⟨d', rfl, d0, d1, rfl⟩
  go_wp2_with fail
  refine (some21 _ _ _ (by omega) (by omega)).mono ?_
  rintro e w' ⟨kind, rfl, k0, k1, rfl⟩
  obtain ⟨X, hX⟩ : ∃ X, 1 + x' = X := ⟨_, rfl⟩
  obtain ⟨Y, hY⟩ : ∃ Y, 1 + y' = Y := ⟨_, rfl⟩
  obtain ⟨N, hN⟩ : ∃ N : Nat, 1 + n' = (N : Int) := ⟨(1 + n').toNat, by omega⟩
  obtain ⟨d, hd⟩ : ∃ d, 1 + d' = d := ⟨_, rfl⟩
  go_wp2_with fail
  refine (draw_any X Y 0 0 N d kind _ (by omega) (by omega) (by omega) (by omega) (by omega)).mono ?_
  rintro e w2 ⟨Cv, CS, rfl, hP⟩
  have hP : Pic w1.heap.size w1 w2 Cv N CS X Y 0 0 d kind := hP
  obtain ⟨AC, cC, rfl, hkc, hm, hR⟩ := pic_rd hP
  have hRl : (rowsF X Y 0 0 d kind N).length = N := by simp [rowsF]
  obtain ⟨Wi, hWi⟩ : ∃ Wi, w2.alloc (Obj.cells #[.int .i64 X, .int .i64 Y, .int .i64 0, .int .i64 0, .slice AC N cC] 25) = Wi := ⟨_, rfl⟩
  have hBW : Below w2.heap.size w2 Wi := by rw [← hWi]; exact (Below.refl _ w2).alloc (Nat.le_refl _) _
  have hB := h1.trans ((hP.bel.trans (hBW.mono hP.bel.size)).mono h1.size)
  have hbm : Wi.heap[w2.heap.size]? = some (.cells #[.int .i64 X, .int .i64 Y, .int .i64 0, .int .i64 0, .slice AC N cC] 25 (0, 0)) := by rw [← hWi]; exact World.alloc_heap_new w2 _
  have g0 : Wi.cell? ⟨w2.heap.size, 0, none⟩ = some (.int .i64 X) := by simp [World.cell?, hbm]
  have g1 : Wi.cell? ⟨w2.heap.size, 1, none⟩ = some (.int .i64 Y) := by simp [World.cell?, hbm]
  have g2 : Wi.cell? ⟨w2.heap.size, 2, none⟩ = some (.int .i64 0) := by simp [World.cell?, hbm]
  have g3 : Wi.cell? ⟨w2.heap.size, 3, none⟩ = some (.int .i64 0) := by simp [World.cell?, hbm]
  have g4 : Wi.cell? ⟨w2.heap.size, 4, none⟩ = some (.slice AC N cC) := by simp [World.cell?, hbm]
  have hck := rcheck_any (cC := cC) X Y (by omega) (by omega) (hR.keep hBW) (by omega) (by omega) (by omega) (step_bd kind) (rows_len (by omega) (by omega)) (rows_val (by omega))
  rw [hRl] at hck
  have hmc := hm
  unfold maxLen at hmc
  have HC := Lib.hid (And.intro hck hB)
  clear hck hB hR hBW hP hbm h1 hRl hm
  go_wp2_with fail
  refine HC.out.1.mono ?_
  rintro e w3 ⟨rfl, h3⟩
  have HB := Lib.hid (HC.out.2.trans (h3.mono HC.out.2.size))
  clear HC h3
  go_wp2
  go_ret
  exact ⟨rfl, HB.out⟩
end Go.Proofs.Ytjmkkjgchgcleaa
