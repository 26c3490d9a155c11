/- known of chapter 21's statements, and the refusals of Draw. -/
import Derived.Test.YtjmkkjgchgcleaaSkSum
set_option linter.unusedVariables false
namespace Go.Proofs.Ytjmkkjgchgcleaa
open Go.RowKit

theorem rows_ok {x y ox oy d kind : Int} {k : Nat} (h0 : 0 ≤ ox ∧ ox < x ∧ x ≤ 64) (h1 : 0 ≤ oy ∧ oy < y ∧ y ≤ 64) (hd : 1 ≤ d ∧ d ≤ 16) : ∀ L ∈ rowsF x y ox oy d kind k, L.length ≤ 4096 ∧ ∀ v ∈ L, 0 ≤ v ∧ v ≤ 65535 := by
  intro L hL
  unfold rowsF at hL
  obtain ⟨i, _, rfl⟩ := List.mem_map.1 hL
  have hs := step_bd kind i
  have c1 := ceil_bd ox (stepF kind i) h0.1 hs.1
  have c2 := ceil_bd x (stepF kind i) (by omega) hs.1
  have c3 := ceil_bd oy (stepF kind i) h1.1 hs.1
  have c4 := ceil_bd y (stepF kind i) (by omega) hs.1
  have s1 : sideF kind ox x i ≤ 64 := by unfold sideF; omega
  have s2 : sideF kind oy y i ≤ 64 := by unfold sideF; omega
  have hp := pow_bd d hd.1 hd.2
  refine ⟨?_, fun v hv => ?_⟩
  · unfold dataF; rw [gridP_len]
    have := Nat.mul_le_mul s2 s1
    omega
  · unfold dataF gridP at hv
    obtain ⟨q, _, rfl⟩ := List.mem_map.1 hv
    have := smp_bd (kind := kind) (c := i) (i := ((q % sideF kind ox x i : Nat) : Int)) (j := ((q / sideF kind ox x i : Nat) : Int)) hp
    omega

set_option maxRecDepth 100000 in
set_option maxHeartbeats 8000000 in
theorem known21 (w : World) : Calls Try.prog 8 #[] w fun e w' => e = .returned (.bool true) ∧ Below w.heap.size w w' := by
  go_enter Try.func8, Try.ntmps8
  go_wp2_with fail
  refine (draw_any 1 1 0 0 1 8 0 _ (by omega) (by omega) (by omega) (by omega) (by omega)).mono ?_
  rintro e w1 ⟨Cv, CS, rfl, hP⟩
  have hP : Pic w.heap.size w w1 Cv 1 CS 1 1 0 0 8 0 := hP
  obtain ⟨AC, cC, rfl, hkc, hm, hR⟩ := pic_rd hP
  have hrow : rowsF 1 1 0 0 8 0 1 = [[7]] := by decide
  rw [hrow] at hR
  obtain ⟨Wi, hWi⟩ : ∃ Wi, w1.alloc (Obj.cells #[.int .i64 1, .int .i64 1, .int .i64 0, .int .i64 0, .slice AC 1 cC] 25) = Wi := ⟨_, rfl⟩
  have hBW : Below w1.heap.size w1 Wi := by rw [← hWi]; exact (Below.refl _ w1).alloc (Nat.le_refl _) _
  have hRi := hR.keep hBW
  have hB := hP.bel.trans (hBW.mono hP.bel.size)
  have hbm : Wi.heap[w1.heap.size]? = some (.cells #[.int .i64 1, .int .i64 1, .int .i64 0, .int .i64 0, .slice AC 1 cC] 25 (0, 0)) := by rw [← hWi]; exact World.alloc_heap_new w1 _
  have k4 : Wi.cell? ⟨w1.heap.size, 4, none⟩ = some (.slice AC 1 cC) := by simp [World.cell?, hbm]
  have k0 : Wi.cell? ⟨w1.heap.size, 0, none⟩ = some (.int .i64 1) := by simp [World.cell?, hbm]
  have k1 : Wi.cell? ⟨w1.heap.size, 1, none⟩ = some (.int .i64 1) := by simp [World.cell?, hbm]
  have k2 : Wi.cell? ⟨w1.heap.size, 2, none⟩ = some (.int .i64 0) := by simp [World.cell?, hbm]
  have k3 : Wi.cell? ⟨w1.heap.size, 3, none⟩ = some (.int .i64 0) := by simp [World.cell?, hbm]
  obtain ⟨b, A, cap, rfl, hbl, c0, c1, c2, c3, c4, hcap, hmx, hLst⟩ := hRi 0 [7] rfl
  obtain ⟨ba, oa, rfl, hba, m0⟩ := hLst 0 (.int .i64 7) rfl
  have c4 : Wi.cell? ⟨b, 4, none⟩ = some (.slice (some ⟨ba, oa, none⟩) 1 cap) := c4
  have m0 : Wi.cell? ⟨ba, oa, none⟩ = some (.int .i64 7) := m0
  unfold maxLen at hmx
  have hkc : 1 ≤ cC := hkc
  have hcap : 1 ≤ cap := hcap
  have HR := Lib.hid hRi
  have HH := Lib.hid (And.intro hkc hm)
  have hm2 := hm
  unfold maxLen at hm2
  clear hR hRi hP hrow hbm c0 c1 c2 c3 hLst hm
  go_wp2_with fail
  refine (sum_any (Ls := [[7]]) 1 1 0 0 HR.out (by simp) HH.out (by simp)).mono ?_
  rintro e w2 ⟨he, hb2⟩
  rw [show sumF [[7]] = 224 by decide] at he
  subst he
  have hBB := hB.trans (hb2.mono hB.size)
  clear hb2 hB hWi
  go_wp2
  go_ret
  exact ⟨rfl, hBB⟩
end Go.Proofs.Ytjmkkjgchgcleaa
