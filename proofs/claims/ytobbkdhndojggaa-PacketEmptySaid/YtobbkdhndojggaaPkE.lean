/- packet: Decode and Block, of Bands that have nothing. -/
import Derived.Test.YtobbkdhndojggaaPkD
import Derived.StillTailTactics
import Derived.Deep.LoopGhost
import Derived.Deep.CutRange
set_option linter.unusedVariables false
set_option linter.unusedSimpArgs false
namespace Go.Proofs.Ytobbkdhndojggaa
open Go.RowKit
set_option maxRecDepth 100000
set_option maxHeartbeats 4000000 in
theorem longest0 (A pb ib n pl ly : Nat) (w : World) (hh : BHead w pb ib n pl) (hA : w.cell? ⟨A, 0, none⟩ = some (.pointer (some ⟨pb, 0, none⟩))) (hn : n ≤ 100) (hp : pl ≤ 37) (hly : ly ≤ 1000) :
    Calls Try.prog 42 #[.slice (some ⟨A, 0, none⟩) 1 1, .int .i64 (ly : Int)] w fun e w' => ∃ K : Int, e = .returned (.int .i64 K) ∧ 3 ≤ K ∧ K ≤ 1000000 ∧ w = w' := by
  have e1 : decide ((ly : Int) < 0) = false := by simp
  have e2 : decide ((65536 : Int) < (ly : Int)) = false := by simp; omega
  obtain ⟨g0, g1⟩ := hh.c0
  have HG := Lib.hid (And.intro hA (And.intro g0 g1))
  clear hh hA g0 g1
  go_enter Try.func42, Try.ntmps42
  go_wp2_with fail
  go_loopg [5, 18] 1 (fun g v5 v18 wr => ∃ (i : Nat) (t : Int), i + g = 1 ∧ v5 = .int .i64 t ∧ v18 = .int .i64 (i : Int) ∧ 1 ≤ t ∧ t ≤ 600000 ∧ wr = w ∧ (i = 0 → t = 1))
  case atStart => exact ⟨0, 1, by omega, rfl, rfl, by omega, by omega, rfl, fun _ => rfl⟩
  case round =>
    obtain ⟨i, t, hig, rfl, rfl, ht1, ht2, rfl, ht3⟩ := hrel
    by_cases hi : i = 0
    · obtain rfl := hi
      obtain rfl := ht3 rfl
      obtain ⟨hA, g0, g1⟩ := HG.out
      obtain ⟨M, hM⟩ : ∃ M : Nat, (2 * n + 7) * (ly + 2 + pl + 2) = M := ⟨_, rfl⟩
      have hMb : M ≤ 207 * 1041 := by rw [← hM]; exact Nat.mul_le_mul (by omega) (by omega)
      have hMI : ((2 : Int) * (n : Int) + 7) * ((ly : Int) + 2 + (pl : Int) + 2) = (M : Int) := by rw [← hM]; simp
      clear hM
      go_wp2
      go_roundg 0
      case rel => exact ⟨1, _, by omega, rfl, rfl, by omega, by omega, rfl, by omega⟩
      case measure => omega
    · obtain rfl : i = 1 := by omega
      have hd : 0 ≤ t / 7 ∧ t / 7 ≤ 600000 := by omega
      go_wp2
      exact bodyPost_ret (v := .int .i64 (t / 7 + 3)) (by simp [results, Try.results42, go_sem]) rfl ⟨_, rfl, by omega, by omega, rfl⟩
set_option maxHeartbeats 1000000 in
theorem cloneP (w : World) : Calls Try.prog 54 #[.slice none 0 0] w fun e w' => e = .returned (.slice none 0 0) ∧ w' = w := by
  have qT : ∀ (w : World) (a : Option Addr) (n c n' c' : Nat), (binOp .eql 34 (.slice a n c) (.slice none n' c')).run Try.prog w = .ok (.bool a.isNone) w := fun w a n c n' c' => Lib.run_eql_slice_nil w _ _ a n c n' c' Try.underlying34
  go_enter Try.func54, Try.ntmps54
  go_wp2
  go_ret
  exact ⟨rfl, rfl⟩
set_option maxHeartbeats 1000000 in
theorem cloneB (w : World) : Calls Try.prog 55 #[.slice none 0 0] w fun e w' => e = .returned (.slice none 0 0) ∧ w' = w := by
  have qT : ∀ (w : World) (a : Option Addr) (n c n' c' : Nat), (binOp .eql 27 (.slice a n c) (.slice none n' c')).run Try.prog w = .ok (.bool a.isNone) w := fun w a n c n' c' => Lib.run_eql_slice_nil w _ _ a n c n' c' Try.underlying27
  go_enter Try.func55, Try.ntmps55
  go_wp2
  go_ret
  exact ⟨rfl, rfl⟩
set_option maxHeartbeats 2000000 in
set_option pp.deepTerms true in
theorem clone0 (w : World) : Calls Try.prog 31 #[.agg #[.int .i64 0, .slice none 0 0, .slice none 0 0]] w fun e w' => e = .returned (.agg #[.int .i64 0, .slice none 0 0, .slice none 0 0]) ∧ Below w.heap.size w w' := by
  go_enter Try.func31, Try.ntmps31
  obtain ⟨W2, hW2⟩ : ∃ W2, (w.alloc (Obj.cells #[.int .i64 0, .slice none 0 0, .slice none 0 0] 36)).alloc (Obj.cells #[.int .i64 0, .slice none 0 0, .slice none 0 0] 36) = W2 := ⟨_, rfl⟩
  have hz1 : (w.alloc (Obj.cells #[.int .i64 0, .slice none 0 0, .slice none 0 0] 36)).heap.size = w.heap.size + 1 := by simp
  have b1 : W2.heap[w.heap.size]? = some (.cells #[.int .i64 0, .slice none 0 0, .slice none 0 0] 36 (0, 0)) := by rw [← hW2, Below.heap_alloc _ _ _ (by simp)]; exact World.alloc_heap_new w _
  have b2 : W2.heap[w.heap.size + 1]? = some (.cells #[.int .i64 0, .slice none 0 0, .slice none 0 0] 36 (0, 0)) := by rw [← hW2, ← hz1]; exact World.alloc_heap_new _ _
  have hB2 : Below w.heap.size w W2 := by rw [← hW2]; exact ((Below.refl _ w).alloc (Nat.le_refl _) _).alloc (by simp) _
  have k0 : W2.cell? ⟨w.heap.size, 0, none⟩ = some (.int .i64 0) := blk_cell b1 0
  have k1 : W2.cell? ⟨w.heap.size, 1, none⟩ = some (.slice none 0 0) := blk_cell b1 1
  have k2 : W2.cell? ⟨w.heap.size, 2, none⟩ = some (.slice none 0 0) := blk_cell b1 2
  have HB2 := Lib.hid b2
  have HBB := Lib.hid hB2
  clear hz1 b1 b2 hB2
  go_wp2_with fail
  try rw [hW2]
  clear hW2
  refine wp_region_still_tail 9 (by kernel_rfl) (by kernel_rfl) ?_
  simp only [List.take_succ_cons, List.take_zero, List.drop_succ_cons, List.drop_zero]
  repeat still_step
  still_call (cloneP _)
  repeat still_step
  still_call (cloneB _)
  repeat still_step
  refine wpStill_nil ?_
  change wpList _ _ _ _ _ W2.drew
  have HB3 : Hid (W2.drew.heap[w.heap.size + 1]? = some (.cells #[.int .i64 0, .slice none 0 0, .slice none 0 0] 36 (0, 0))) := Lib.hid HB2.out
  have HBC : Hid (Below w.heap.size w W2.drew) := Lib.hid (below_drewN HBB.out 1)
  clear k0 k1 k2 HB2 HBB
  generalize W2.drew = W3 at *
  obtain ⟨W4, hW4⟩ : ∃ W4, ((W3.setCell ⟨w.heap.size + 1, 0, none⟩ (.int .i64 0)).setCell ⟨w.heap.size + 1, 1, none⟩ (.slice none 0 0)).setCell ⟨w.heap.size + 1, 2, none⟩ (.slice none 0 0) = W4 := ⟨_, rfl⟩
  have hB4 : Below w.heap.size w W4 := by rw [← hW4]; exact ((HBC.out.setCell (p := ⟨w.heap.size + 1, 0, none⟩) (by show w.heap.size ≤ w.heap.size + 1; omega) _).setCell (p := ⟨w.heap.size + 1, 1, none⟩) (by show w.heap.size ≤ w.heap.size + 1; omega) _).setCell (p := ⟨w.heap.size + 1, 2, none⟩) (by show w.heap.size ≤ w.heap.size + 1; omega) _
  have b4 : W4.heap[w.heap.size + 1]? = some (.cells #[.int .i64 0, .slice none 0 0, .slice none 0 0] 36 (0, 0)) := by
    have h := HB3.out
    rw [← hW4]
    simp [World.setCell, Array.getElem?_modify, h]
  have j0 : W3.cell? ⟨w.heap.size + 1, 0, none⟩ = some (.int .i64 0) := blk_cell HB3.out 0
  have j1 : W3.cell? ⟨w.heap.size + 1, 1, none⟩ = some (.slice none 0 0) := blk_cell HB3.out 1
  have j2 : W3.cell? ⟨w.heap.size + 1, 2, none⟩ = some (.slice none 0 0) := blk_cell HB3.out 2
  have jf : ∀ o, W3.frozen? ⟨w.heap.size + 1, o, none⟩ = false := fun o => blk_frozen HB3.out o
  have i0 : W4.cell? ⟨w.heap.size + 1, 0, none⟩ = some (.int .i64 0) := blk_cell b4 0
  have i1 : W4.cell? ⟨w.heap.size + 1, 1, none⟩ = some (.slice none 0 0) := blk_cell b4 1
  have i2 : W4.cell? ⟨w.heap.size + 1, 2, none⟩ = some (.slice none 0 0) := blk_cell b4 2
  have HB5 := Lib.hid hB4
  clear hB4 b4
  go_wp2
  try rw [hW4]
  exact bodyPost_ret (v := .agg #[.int .i64 0, .slice none 0 0, .slice none 0 0]) (by simp [results, Try.results31, go_sem, i0, i1, i2]) rfl ⟨rfl, HB5.out⟩
set_option maxHeartbeats 1000000 in
theorem has0 (pb ib n : Nat) (pl : Int) (w : World) (hh : BHead w pb ib n pl) : Calls Try.prog 30 #[.pointer (some ⟨pb, 0, none⟩), .int .i64 0] w fun e w' => e = .returned (.bool (decide (0 < n))) ∧ w = w' := by
  obtain ⟨g0, g1⟩ := hh.c0
  clear hh g1
  by_cases hn : 0 < n
  · have e1 : decide ((0 : Int) < (n : Int)) = true := by simp; omega
    rw [decide_eq_true hn]
    go_enter Try.func30, Try.ntmps30
    go_wp2
    go_ret
    exact ⟨rfl, rfl⟩
  · have e1 : decide ((0 : Int) < (n : Int)) = false := by simp; omega
    rw [decide_eq_false hn]
    go_enter Try.func30, Try.ntmps30
    go_wp2
    go_ret
    exact ⟨rfl, rfl⟩
set_option maxHeartbeats 4000000 in
theorem block0 (pb ib n : Nat) (pl : Int) (w : World) (hh : BHead w pb ib n pl) (hi : BItems w ib n) : Calls Try.prog 11 #[.pointer (some ⟨pb, 0, none⟩), .int .i64 0] w fun e w' => e = .returned (.agg #[.int .i64 0, .slice none 0 0, .slice none 0 0]) ∧ Below w.heap.size w w' := by
  obtain ⟨W2, hW2⟩ : ∃ W2, w.alloc (Obj.cells #[.int .i64 0, .slice none 0 0, .slice none 0 0] 36) = W2 := ⟨_, rfl⟩
  have b2 : W2.heap[w.heap.size]? = some (.cells #[.int .i64 0, .slice none 0 0, .slice none 0 0] 36 (0, 0)) := by rw [← hW2]; exact World.alloc_heap_new w _
  have hB2 : Below w.heap.size w W2 := by rw [← hW2]; exact (Below.refl _ w).alloc (Nat.le_refl _) _
  have hs2 : W2.heap.size = w.heap.size + 1 := by rw [← hW2]; simp
  have hh2 := hh.keep (hB2.block _ hh.lt)
  have HA := Lib.hid (has0 pb ib n pl W2 hh2)
  have g0 := hh2.c0.1
  have HI := Lib.hid (hi.keep (hB2.block _ hi.lt))
  have HB2 := Lib.hid b2
  have HBB := Lib.hid hB2
  have SETS : ∀ V : World, V.heap[w.heap.size]? = some (.cells #[.int .i64 0, .slice none 0 0, .slice none 0 0] 36 (0, 0)) → Below w.heap.size w V →
      ((((V.setCell ⟨w.heap.size, 0, none⟩ (.int .i64 0)).setCell ⟨w.heap.size, 1, none⟩ (.slice none 0 0)).setCell ⟨w.heap.size, 2, none⟩ (.slice none 0 0)).heap[w.heap.size]? = some (.cells #[.int .i64 0, .slice none 0 0, .slice none 0 0] 36 (0, 0))) ∧
      Below w.heap.size w (((V.setCell ⟨w.heap.size, 0, none⟩ (.int .i64 0)).setCell ⟨w.heap.size, 1, none⟩ (.slice none 0 0)).setCell ⟨w.heap.size, 2, none⟩ (.slice none 0 0)) := fun V h hb =>
    ⟨by simp [World.setCell, Array.getElem?_modify, h], ((hb.setCell (p := ⟨w.heap.size, 0, none⟩) (Nat.le_refl _) _).setCell (p := ⟨w.heap.size, 1, none⟩) (Nat.le_refl _) _).setCell (p := ⟨w.heap.size, 2, none⟩) (Nat.le_refl _) _⟩
  have HSE := Lib.hid SETS
  clear hh hi b2 hB2 hh2 SETS
  go_enter Try.func11, Try.ntmps11
  go_wp2_with fail
  try rw [hW2]
  clear hW2
  refine HA.out.mono ?_
  rintro e w1 ⟨rfl, rfl⟩
  by_cases hn : 0 < n
  · rw [decide_eq_true hn]
    obtain ⟨c0, c1, c2, ⟨d, c3⟩, cf⟩ := HI.out.cell hn
    simp only [Nat.zero_mul, Nat.zero_add] at c0 c1 c2
    have hnI : (0 : Int) < (n : Int) := by omega
    have CL := Lib.hid (clone0 W2)
    clear cf c3
    go_wp2_with fail
    refine CL.out.mono ?_
    rintro e w3 ⟨rfl, hb3⟩
    have hb : w3.heap[w.heap.size]? = some (.cells #[.int .i64 0, .slice none 0 0, .slice none 0 0] 36 (0, 0)) := (hb3.block _ (by omega)).trans HB2.out
    obtain ⟨s1, s2⟩ := HSE.out w3 hb (HBB.out.trans (hb3.mono (by omega)))
    obtain ⟨W4, hW4⟩ : ∃ W4, ((w3.setCell ⟨w.heap.size, 0, none⟩ (.int .i64 0)).setCell ⟨w.heap.size, 1, none⟩ (.slice none 0 0)).setCell ⟨w.heap.size, 2, none⟩ (.slice none 0 0) = W4 := ⟨_, rfl⟩
    rw [hW4] at s1 s2
    have j0 : w3.cell? ⟨w.heap.size, 0, none⟩ = some (.int .i64 0) := blk_cell hb 0
    have j1 : w3.cell? ⟨w.heap.size, 1, none⟩ = some (.slice none 0 0) := blk_cell hb 1
    have j2 : w3.cell? ⟨w.heap.size, 2, none⟩ = some (.slice none 0 0) := blk_cell hb 2
    have jf : ∀ o, w3.frozen? ⟨w.heap.size, o, none⟩ = false := fun o => blk_frozen hb o
    have i0 : W4.cell? ⟨w.heap.size, 0, none⟩ = some (.int .i64 0) := blk_cell s1 0
    have i1 : W4.cell? ⟨w.heap.size, 1, none⟩ = some (.slice none 0 0) := blk_cell s1 1
    have i2 : W4.cell? ⟨w.heap.size, 2, none⟩ = some (.slice none 0 0) := blk_cell s1 2
    have HB5 := Lib.hid s2
    clear hb3 hb s1 s2
    go_wp2
    try rw [hW4]
    exact bodyPost_ret (v := .agg #[.int .i64 0, .slice none 0 0, .slice none 0 0]) (by simp [results, Try.results11, go_sem, i0, i1, i2]) rfl ⟨rfl, HB5.out⟩
  · rw [decide_eq_false hn]
    have hb := HB2.out
    obtain ⟨s1, s2⟩ := HSE.out W2 hb HBB.out
    obtain ⟨W4, hW4⟩ : ∃ W4, ((W2.setCell ⟨w.heap.size, 0, none⟩ (.int .i64 0)).setCell ⟨w.heap.size, 1, none⟩ (.slice none 0 0)).setCell ⟨w.heap.size, 2, none⟩ (.slice none 0 0) = W4 := ⟨_, rfl⟩
    rw [hW4] at s1 s2
    have j0 : W2.cell? ⟨w.heap.size, 0, none⟩ = some (.int .i64 0) := blk_cell hb 0
    have j1 : W2.cell? ⟨w.heap.size, 1, none⟩ = some (.slice none 0 0) := blk_cell hb 1
    have j2 : W2.cell? ⟨w.heap.size, 2, none⟩ = some (.slice none 0 0) := blk_cell hb 2
    have jf : ∀ o, W2.frozen? ⟨w.heap.size, o, none⟩ = false := fun o => blk_frozen hb o
    have i0 : W4.cell? ⟨w.heap.size, 0, none⟩ = some (.int .i64 0) := blk_cell s1 0
    have i1 : W4.cell? ⟨w.heap.size, 1, none⟩ = some (.slice none 0 0) := blk_cell s1 1
    have i2 : W4.cell? ⟨w.heap.size, 2, none⟩ = some (.slice none 0 0) := blk_cell s1 2
    have HB5 := Lib.hid s2
    clear hb s1 s2
    go_wp2
    try rw [hW4]
    exact bodyPost_ret (v := .agg #[.int .i64 0, .slice none 0 0, .slice none 0 0]) (by simp [results, Try.results11, go_sem, i0, i1, i2]) rfl ⟨rfl, HB5.out⟩
set_option maxHeartbeats 1000000 in
theorem body0 {w : World} {rp : Nat} {a b c : Value} {A : Option Addr} {n cc : Nat} (h : w.heap[rp]? = some (.cells #[a, b, c, .slice none 0 0] 107 (0, 0))) : Calls Try.prog 45 #[.pointer (some ⟨rp, 0, none⟩), .slice A n cc] w fun e w' => e = .returned (.tuple #[]) ∧ w = w' := by
  have g3 : w.cell? ⟨rp, 3, none⟩ = some (.slice none 0 0) := blk_cell h 3
  clear h
  go_enter Try.func45, Try.ntmps45
  go_wp2_with fail
  go_loopg [13] 0 (fun g v wr => v = .int .i64 0 ∧ wr = w)
  case atStart => exact ⟨rfl, rfl⟩
  case round =>
    obtain ⟨rfl, rfl⟩ := hrel
    go_wp2
    go_end0
    exact ⟨rfl, rfl⟩
end Go.Proofs.Ytobbkdhndojggaa
