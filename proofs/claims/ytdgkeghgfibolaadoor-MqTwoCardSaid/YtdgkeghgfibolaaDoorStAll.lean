/- StatesAll, walked. -/
import Derived.Test.YtdgkeghgfibolaaDoorStRt
import Derived.StillTailTactics
set_option linter.unusedVariables false
namespace Go.Proofs.YtdgkeghgfibolaaDoor
open Go.RowKit

def stV (k : Int) : Array Value := if 0 ≤ k ∧ k ≤ 46 then #[.int .i64 (qe k.toNat : Nat), .int .i64 (mps k.toNat : Nat), .int .i64 (lps k.toNat : Nat), .bool (swp k.toNat)] else #[.int .i64 0, .int .i64 0, .int .i64 0, .bool false]
theorem stV_in (i : Nat) (h : i < 47) : stV (i : Int) = #[.int .i64 (qe i : Nat), .int .i64 (mps i : Nat), .int .i64 (lps i : Nat), .bool (swp i)] := by
  unfold stV; rw [if_pos (by omega)]; simp
theorem stV_out {k : Int} (h : k < 0 ∨ 46 < k) : stV k = #[.int .i64 0, .int .i64 0, .int .i64 0, .bool false] := by
  unfold stV; rw [if_neg (by omega)]
theorem at_all {w : World} (h : Tab w) (k : Int) : Calls Tryd.prog 33 #[.int .i64 k] w fun e w' => e = .returned (.agg (stV k)) ∧ Below w.heap.size w w' := by
  by_cases hk : 0 ≤ k ∧ k ≤ 46
  · obtain ⟨i, rfl⟩ := Int.eq_ofNat_of_zero_le hk.1
    rw [stV_in i (by omega)]
    exact at_in h (by omega)
  · rw [stV_out (by omega)]
    exact at_out (by omega)
theorem flat_at : ∀ i, i < 47 → flatA[i * 4]? = some (.int .i64 (qe i : Nat)) ∧ flatA[i * 4 + 1]? = some (.int .i64 (mps i : Nat)) ∧ flatA[i * 4 + 2]? = some (.int .i64 (lps i : Nat)) ∧ flatA[i * 4 + 3]? = some (.int .i64 (if swp i = true then 1 else 0)) := by
  intro i hi
  have : ∀ i, i < 47 → (flatA[i * 4]? = some (.int .i64 (qe i : Nat)) ∧ flatA[i * 4 + 1]? = some (.int .i64 (mps i : Nat)) ∧ flatA[i * 4 + 2]? = some (.int .i64 (lps i : Nat)) ∧ flatA[i * 4 + 3]? = some (.int .i64 (if swp i = true then 1 else 0))) := by
    intro i hi
    rcases i with _|_|_|_|_|_|_|_|_|_|_|_|_|_|_|_|_|_|_|_|_|_|_|_|_|_|_|_|_|_|_|_|_|_|_|_|_|_|_|_|_|_|_|_|_|_|_|i
    iterate 47 exact ⟨by kernel_rfl, by kernel_rfl, by kernel_rfl, by kernel_rfl⟩
    omega
  exact this i hi
set_option maxHeartbeats 1000000 in
theorem ref_out {w : World} {k : Int} (h : k < 0 ∨ 46 < k) : Calls Tryd.prog 29 #[.int .i64 k] w fun e w' => e = .returned (.agg #[.int .i64 0, .int .i64 0, .int .i64 0, .bool false]) ∧ Below w.heap.size w w' := by
  rcases h with h | h
  · go_enter Tryd.func29, Tryd.ntmps29
    go_wp2
    exact bodyPost_ret (v := .agg #[.int .i64 0, .int .i64 0, .int .i64 0, .bool false]) (results_cell_row rfl _ _ w.heap.size 54 _ (0, 0) _ rfl (heap_alloc_new w _) Tryd.underlying54 rfl (by kernel_rfl)) rfl ⟨rfl, (Below.refl _ _).alloc (Nat.le_refl _) _⟩
  · have h1 : ¬ k < 0 := by omega
    go_enter Tryd.func29, Tryd.ntmps29
    go_wp2
    exact bodyPost_ret (v := .agg #[.int .i64 0, .int .i64 0, .int .i64 0, .bool false]) (results_cell_row rfl _ _ w.heap.size 54 _ (0, 0) _ rfl (heap_alloc_new w _) Tryd.underlying54 rfl (by kernel_rfl)) rfl ⟨rfl, (Below.refl _ _).alloc (Nat.le_refl _) _⟩
set_option maxHeartbeats 4000000 in
theorem ref_in {w : World} {i : Nat} (hi : i < 47) : Calls Tryd.prog 29 #[.int .i64 (i : Int)] w fun e w' => e = .returned (.agg #[.int .i64 (qe i : Nat), .int .i64 (mps i : Nat), .int .i64 (lps i : Nat), .bool (swp i)]) ∧ Below w.heap.size w w' := by
  obtain ⟨Z, hZs, hz⟩ := zero37
  have HZs := Lib.hid hZs
  have HF := Lib.hid (flat_at i hi)
  generalize qe i = q at *
  generalize mps i = m at *
  generalize lps i = l at *
  generalize swp i = sw at *
  have hii : (i : Int) < 47 := by omega
  have hi0 : ¬ (i : Int) < 0 := by omega
  have hi1 : ¬ (46 : Int) < (i : Int) := by omega
  have hi2 : (0 : Int) ≤ (i : Int) := by omega
  clear hZs
  go_enter Tryd.func29, Tryd.ntmps29
  go_wp2_with fail
  refine (rows_any _).mono ?_
  rintro e w1 ⟨rfl, b1⟩
  have hsz := b1.size
  simp at hsz
  have b1' : Below w.heap.size w w1 := ((Below.refl _ _).alloc (Nat.le_refl _) _).trans (b1.mono (by simp))
  have hblk := (b1.block w.heap.size (by simp)).trans (heap_alloc_new w _)
  go_wp2_with (refine wpList_store_row rfl 81 _ _ rfl w1.heap.size flatA rfl rfl 81 Z (heap_alloc_new w1 _) (by kernel_rfl) (by rw [HZs.out]; kernel_rfl) (by kernel_rfl) ?_)
  have hh := heap_alloc_new w1 (.cells Z 81)
  have hr := setRow_heap _ _ _ flatA _ _ hh
  have f0 : ((w1.alloc (.cells Z 81)).setRow w1.heap.size flatA).cell? ⟨w1.heap.size, i * 4, none⟩ = some (.int .i64 (q : Nat)) := (cell_setRow_same _ _ _ _ flatA _ _ hh).trans HF.out.1
  have f1 : ((w1.alloc (.cells Z 81)).setRow w1.heap.size flatA).cell? ⟨w1.heap.size, i * 4 + 1, none⟩ = some (.int .i64 (m : Nat)) := (cell_setRow_same _ _ _ _ flatA _ _ hh).trans HF.out.2.1
  have f2 : ((w1.alloc (.cells Z 81)).setRow w1.heap.size flatA).cell? ⟨w1.heap.size, i * 4 + 2, none⟩ = some (.int .i64 (l : Nat)) := (cell_setRow_same _ _ _ _ flatA _ _ hh).trans HF.out.2.2.1
  have f3 : ((w1.alloc (.cells Z 81)).setRow w1.heap.size flatA).cell? ⟨w1.heap.size, i * 4 + 3, none⟩ = some (.int .i64 (if sw = true then 1 else 0)) := (cell_setRow_same _ _ _ _ flatA _ _ hh).trans HF.out.2.2.2
  have b2 : Below w.heap.size w ((w1.alloc (.cells Z 81)).setRow w1.heap.size flatA) := below_setRow (b1'.alloc (by omega) _) (by omega) _
  have hres : ((w1.alloc (.cells Z 81)).setRow w1.heap.size flatA).heap[w.heap.size]? = some (.cells #[.int .i64 0, .int .i64 0, .int .i64 0, .bool false] 54 (0, 0)) := (setRow_other _ _ _ _ (by omega)).trans ((Below.heap_alloc w1 _ w.heap.size (by omega)).trans hblk)
  clear hh hr hblk b1' b1 hz HF
  generalize hW : (w1.alloc (.cells Z 81)).setRow w1.heap.size flatA = W2 at *
  clear hW
  generalize w1.heap.size = g at *
  have HR := Lib.hid hres
  have B2 := Lib.hid b2
  clear hres b2
  cases sw
  · simp only [if_neg Bool.false_ne_true] at f3
    refine wp_region_still_tail 18 (by kernel_rfl) (by kernel_rfl) ?_
    simp only [List.take_succ_cons, List.take_zero, List.drop_succ_cons, List.drop_zero]
    repeat still_step
    refine wpStill_nil ?_
    change wpList _ _ _ _ _ W2.drew
    have HR3 : Hid (W2.drew.heap[w.heap.size]? = some (.cells #[.int .i64 0, .int .i64 0, .int .i64 0, .bool false] 54 (0, 0))) := HR.out
    have B3 : Hid (Below w.heap.size w W2.drew) := Lib.hid (below_drewN B2.out 1)
    clear HR B2 f0 f1 f2 f3
    generalize W2.drew = W3 at *
    go_wp2_with (refine wpList_store_row rfl 54 _ _ rfl w.heap.size _ rfl rfl 54 _ HR3.out (by kernel_rfl) (by kernel_rfl) (by kernel_rfl) ?_)
    exact bodyPost_ret (v := .agg #[.int .i64 (q : Int), .int .i64 (m : Int), .int .i64 (l : Int), .bool false]) (results_cell_row rfl _ _ w.heap.size 54 _ (0, 0) _ rfl (setRow_heap _ _ _ _ _ _ HR3.out) Tryd.underlying54 rfl (by kernel_rfl)) rfl ⟨rfl, below_setRow B3.out (Nat.le_refl _) _⟩
  · simp only [if_true] at f3
    refine wp_region_still_tail 18 (by kernel_rfl) (by kernel_rfl) ?_
    simp only [List.take_succ_cons, List.take_zero, List.drop_succ_cons, List.drop_zero]
    repeat still_step
    refine wpStill_nil ?_
    change wpList _ _ _ _ _ W2.drew
    have HR3 : Hid (W2.drew.heap[w.heap.size]? = some (.cells #[.int .i64 0, .int .i64 0, .int .i64 0, .bool false] 54 (0, 0))) := HR.out
    have B3 : Hid (Below w.heap.size w W2.drew) := Lib.hid (below_drewN B2.out 1)
    clear HR B2 f0 f1 f2 f3
    generalize W2.drew = W3 at *
    go_wp2_with (refine wpList_store_row rfl 54 _ _ rfl w.heap.size _ rfl rfl 54 _ HR3.out (by kernel_rfl) (by kernel_rfl) (by kernel_rfl) ?_)
    exact bodyPost_ret (v := .agg #[.int .i64 (q : Int), .int .i64 (m : Int), .int .i64 (l : Int), .bool true]) (results_cell_row rfl _ _ w.heap.size 54 _ (0, 0) _ rfl (setRow_heap _ _ _ _ _ _ HR3.out) Tryd.underlying54 rfl (by kernel_rfl)) rfl ⟨rfl, below_setRow B3.out (Nat.le_refl _) _⟩
end Go.Proofs.YtdgkeghgfibolaaDoor
