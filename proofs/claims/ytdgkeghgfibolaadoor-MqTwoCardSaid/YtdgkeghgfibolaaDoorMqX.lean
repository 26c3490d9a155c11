/- The contexts of package mq. -/
import Derived.Test.YtdgkeghgfibolaaDoorMqN
set_option linter.unusedVariables false
set_option linter.unusedSimpArgs false
namespace Go.Proofs.YtdgkeghgfibolaaDoor
open Go.RowKit

/-- Block q holds contexts. -/
def Cb (w : World) (q : Nat) (cx : List Nat) : Prop := cx.length = 38 ∧ w.heap[q]? = some (.cells (cx.map fun n : Nat => Value.int .i64 (n : Int)).toArray 28 (0, 0))
section
variable {w w' : World} {q : Nat} {cx : List Nat}
theorem Cb.cell (h : Cb w q cx) (j : Nat) (hj : j < 38) : w.cell? ⟨q, j, none⟩ = some (.int .i64 ((cx.getD j 0 : Nat) : Int)) := by
  rw [blk_cell h.2 j, List.getElem?_toArray, List.getElem?_map, List.getD_eq_getElem?_getD, List.getElem?_eq_getElem (by rw [h.1]; exact hj)]; rfl
theorem Cb.z (h : Cb w q cx) (j : Nat) : w.frozen? ⟨q, j, none⟩ = false := blk_frozen h.2 j
theorem Cb.set (h : Cb w q cx) (j x : Nat) : Cb (w.setCell ⟨q, j, none⟩ (.int .i64 (x : Int))) q (cx.set j x) := by
  refine ⟨by rw [List.length_set]; exact h.1, ?_⟩
  rw [blk_set h.2 j, List.map_set]
  simp
theorem Cb.keep (h : Cb w q cx) (hk : w'.heap[q]? = w.heap[q]?) : Cb w' q cx := ⟨h.1, hk.trans h.2⟩
theorem Cb.lt (h : Cb w q cx) : q < w.heap.size := blk_lt h.2
theorem Cb.below (h : Cb w q cx) (hb : Below w.heap.size w w') : Cb w' q cx := h.keep (hb.block q h.lt)
end
/-- All contexts are such as may be. -/
structure COk (cx : List Nat) : Prop where
  len : cx.length = 38
  i : ∀ k, k < 19 → cx.getD (k * 2) 0 < 47
  m : ∀ k, k < 19 → cx.getD (k * 2 + 1) 0 ≤ 1

set_option maxHeartbeats 1000000 in
theorem has_no {w : World} {q : Nat} {k : Int} (hk : k < 0 ∨ 19 ≤ k) : Calls Tryd.prog 32 #[.pointer (some ⟨q, 0, none⟩), .int .i64 k] w fun e w' => e = .returned (.bool false) ∧ w = w' := by
  rcases hk with hk | hk
  · have h1 : ¬ (0 : Int) ≤ k := by omega
    go_enter Tryd.func32, Tryd.ntmps32
    go_wp2
    go_ret
    exact ⟨rfl, rfl⟩
  · have h1 : (0 : Int) ≤ k := by omega
    have h2 : ¬ k < 19 := by omega
    go_enter Tryd.func32, Tryd.ntmps32
    go_wp2
    go_ret
    exact ⟨rfl, rfl⟩
set_option maxHeartbeats 1000000 in
theorem has_yes {w : World} {q k : Nat} {cx : List Nat} (h : Cb w q cx) (hT : Tab w) (ok : COk cx) (hk : k < 19) : Calls Tryd.prog 32 #[.pointer (some ⟨q, 0, none⟩), .int .i64 (k : Int)] w fun e w' => e = .returned (.bool true) ∧ Below w.heap.size w w' := by
  have c1 := h.cell (k * 2) (by omega)
  have hi := ok.i k hk
  have AT := Lib.hid (at_in hT hi)
  have hq := (qe_bd _ hi).1
  have e1 : (0 : Int) < ((qe (cx.getD (k * 2) 0) : Nat) : Int) := by omega
  have e2 : 0 < qe (cx.getD (k * 2) 0) := by omega
  have h1 : (0 : Int) ≤ (k : Int) := by omega
  have h2 : (k : Int) < 19 := by omega
  generalize qe (cx.getD (k * 2) 0) = Q at *
  generalize mps (cx.getD (k * 2) 0) = M at *
  generalize lps (cx.getD (k * 2) 0) = L at *
  generalize swp (cx.getD (k * 2) 0) = S at *
  generalize cx.getD (k * 2) 0 = i at *
  have hf : ∀ (v0 v1 v2 v3 : Value) (u : World), (Instr.field 70 (.agg #[v0, v1, v2, v3]) 0).run Tryd.prog u = .ok v0 u := fun _ _ _ _ _ => by kernel_rfl
  clear h hT ok hi hq
  go_enter Tryd.func32, Tryd.ntmps32
  go_wp2_with fail
  refine AT.out.mono ?_
  rintro e w1 ⟨rfl, b1⟩
  go_wp2
  go_ret
  exact ⟨rfl, b1⟩
/-- A struct of a context's state, in a block of its own. -/
theorem box_facts (w : World) (a b c : Nat) (d : Bool) : ∃ W, w.alloc (Obj.cells #[.int .i64 (a : Int), .int .i64 (b : Int), .int .i64 (c : Int), .bool d] 70) = W ∧ W.cell? ⟨w.heap.size, 1, none⟩ = some (.int .i64 (b : Int)) ∧ W.cell? ⟨w.heap.size, 2, none⟩ = some (.int .i64 (c : Int)) ∧ W.cell? ⟨w.heap.size, 3, none⟩ = some (.bool d) ∧ Below w.heap.size w W := by
  refine ⟨_, rfl, ?_, ?_, ?_, (Below.refl _ _).alloc (Nat.le_refl _) _⟩
  · exact blk_cell (heap_alloc_new w (Obj.cells #[.int .i64 (a : Int), .int .i64 (b : Int), .int .i64 (c : Int), .bool d] 70)) 1
  · exact blk_cell (heap_alloc_new w (Obj.cells #[.int .i64 (a : Int), .int .i64 (b : Int), .int .i64 (c : Int), .bool d] 70)) 2
  · exact blk_cell (heap_alloc_new w (Obj.cells #[.int .i64 (a : Int), .int .i64 (b : Int), .int .i64 (c : Int), .bool d] 70)) 3
theorem Only.of_below {P : Nat → Prop} {w w' : World} (h : Below w.heap.size w w') (hP : ∀ k, w.heap.size ≤ k → P k) : Only P w w' :=
  ⟨h.os, h.tape, h.output, h.size, fun k hk => by
    rcases Nat.lt_or_ge k w.heap.size with e | e
    · exact h.block k e
    · exact absurd (hP k e) hk⟩
set_option maxHeartbeats 1000000 in
theorem likely_any {w : World} {q k : Nat} {cx : List Nat} {a b c : Nat} {d : Bool} (h : Cb w q cx) (hk : k < 19) : Calls Tryd.prog 34 #[.pointer (some ⟨q, 0, none⟩), .int .i64 (k : Int), .agg #[.int .i64 (a : Int), .int .i64 (b : Int), .int .i64 (c : Int), .bool d]] w fun e w' => e = .returned (.tuple #[]) ∧ Cb w' q (cx.set (k * 2) b) ∧ Only (fun j => j = q ∨ w.heap.size ≤ j) w w' := by
  obtain ⟨W, hW, x1, x2, x3, hB⟩ := box_facts w a b c d
  have h' := h.below hB
  have c1 := h'.cell (k * 2) (by omega)
  have z1 := h'.z (k * 2)
  have h1 : (0 : Int) ≤ (k : Int) := by omega
  have h2 : (k : Int) < 19 := by omega
  have H := Lib.hid h'
  have HB := Lib.hid hB
  clear h h' hB
  go_enter Tryd.func34, Tryd.ntmps34
  go_wp2
  clear hW
  go_still_tail 5, (by kernel_rfl)
  change wpList _ _ _ _ _ W.drew
  have x1 : W.drew.cell? ⟨w.heap.size, 1, none⟩ = some (.int .i64 (b : Int)) := x1
  have c1 : W.drew.cell? ⟨q, k * 2, none⟩ = some (.int .i64 ((cx.getD (k * 2) 0 : Nat) : Int)) := c1
  have z1 : W.drew.frozen? ⟨q, k * 2, none⟩ = false := z1
  have H2 : Hid (Cb W.drew q cx) := H.out
  have HB2 : Hid (Below w.heap.size w W.drew) := below_drewN HB.out 1
  generalize W.drew = X at *
  clear H HB x2 x3
  go_wp2
  go_end0
  exact ⟨rfl, H2.out.set _ _, (Only.of_below (P := fun j => j = q ∨ w.heap.size ≤ j) HB2.out (fun k hk => Or.inr hk)).setCell (p := ⟨q, k * 2, none⟩) (Or.inl rfl) _⟩
def mUn (cx : List Nat) (k c : Nat) (d : Bool) : List Nat := (if d then cx.set (k * 2 + 1) (1 - cx.getD (k * 2 + 1) 0) else cx).set (k * 2) c
set_option maxHeartbeats 2000000 in
theorem unlikely_any {w : World} {q k : Nat} {cx : List Nat} {a b c : Nat} {d : Bool} (h : Cb w q cx) (ok : COk cx) (hk : k < 19) : Calls Tryd.prog 35 #[.pointer (some ⟨q, 0, none⟩), .int .i64 (k : Int), .agg #[.int .i64 (a : Int), .int .i64 (b : Int), .int .i64 (c : Int), .bool d]] w fun e w' => e = .returned (.tuple #[]) ∧ Cb w' q (mUn cx k c d) ∧ Only (fun j => j = q ∨ w.heap.size ≤ j) w w' := by
  obtain ⟨W, hW, x1, x2, x3, hB⟩ := box_facts w a b c d
  have h' := h.below hB
  have hm := ok.m k hk
  have hql := h.lt
  have c1 := h'.cell (k * 2) (by omega)
  have z1 := h'.z (k * 2)
  have c2 := h'.cell (k * 2 + 1) (by omega)
  have z2 := h'.z (k * 2 + 1)
  have h1 : (0 : Int) ≤ (k : Int) := by omega
  have h2 : (k : Int) < 19 := by omega
  have H := Lib.hid h'
  have HB := Lib.hid hB
  have HOK := Lib.hid hm
  clear h h' hB
  unfold mUn
  cases d with
  | false =>
    rw [if_neg (by simp)]
    go_enter Tryd.func35, Tryd.ntmps35
    go_wp2
    clear hW
    go_still_tail 5, (by kernel_rfl)
    change wpList _ _ _ _ _ W.drew
    have x2 : W.drew.cell? ⟨w.heap.size, 2, none⟩ = some (.int .i64 (c : Int)) := x2
    have c1 : W.drew.cell? ⟨q, k * 2, none⟩ = some (.int .i64 ((cx.getD (k * 2) 0 : Nat) : Int)) := c1
    have z1 : W.drew.frozen? ⟨q, k * 2, none⟩ = false := z1
    have H2 : Hid (Cb W.drew q cx) := H.out
    have HB2 : Hid (Below w.heap.size w W.drew) := below_drewN HB.out 1
    generalize W.drew = X at *
    clear H HB x1 x3 c2 z2
    go_wp2
    go_end0
    exact ⟨rfl, H2.out.set _ _, (Only.of_below (P := fun j => j = q ∨ w.heap.size ≤ j) HB2.out (fun k hk => Or.inr hk)).setCell (p := ⟨q, k * 2, none⟩) (Or.inl rfl) _⟩
  | true =>
    rw [if_pos rfl]
    obtain ⟨m, hmm⟩ : ∃ m, cx.getD (k * 2 + 1) 0 = m := ⟨_, rfl⟩
    rw [hmm] at c2 hm ⊢
    clear hmm HOK
    go_enter Tryd.func35, Tryd.ntmps35
    go_wp2
    clear hW
    go_still_tail 10, (by kernel_rfl)
    change wpList _ _ _ _ _ W.drew
    have x2 : W.drew.cell? ⟨w.heap.size, 2, none⟩ = some (.int .i64 (c : Int)) := x2
    have c1 : W.drew.cell? ⟨q, k * 2, none⟩ = some (.int .i64 ((cx.getD (k * 2) 0 : Nat) : Int)) := c1
    have z1 : W.drew.frozen? ⟨q, k * 2, none⟩ = false := z1
    have c2 : W.drew.cell? ⟨q, k * 2 + 1, none⟩ = some (.int .i64 (m : Int)) := c2
    have z2 : W.drew.frozen? ⟨q, k * 2 + 1, none⟩ = false := z2
    have H2 : Hid (Cb W.drew q cx) := H.out
    have HB2 : Hid (Below w.heap.size w W.drew) := below_drewN HB.out 1
    generalize W.drew = X at *
    clear H HB x1 x3
    go_wp2
    obtain ⟨Y, hY⟩ : ∃ Y, X.setCell ⟨q, k * 2 + 1, none⟩ (.int .i64 (1 - (m : Int))) = Y := ⟨_, rfl⟩
    have H3 : Hid (Cb Y q (cx.set (k * 2 + 1) (1 - m))) := Lib.hid (by
      rw [← hY, show (1 - (m : Int)) = ((1 - m : Nat) : Int) by omega]; exact H2.out.set _ _)
    have O3 : Hid (Only (fun j => j = q ∨ w.heap.size ≤ j) w Y) := Lib.hid (by
      rw [← hY]; exact (Only.of_below (P := fun j => j = q ∨ w.heap.size ≤ j) HB2.out (fun k hk => Or.inr hk)).setCell (p := ⟨q, k * 2 + 1, none⟩) (Or.inl rfl) _)
    have y2 : Y.cell? ⟨w.heap.size, 2, none⟩ = some (.int .i64 (c : Int)) := by
      rw [← hY]; exact (World.cell?_of_block (w := X) (a := ⟨w.heap.size, 2, none⟩) (Below.heap_setCell X ⟨q, k * 2 + 1, none⟩ _ _ (by show w.heap.size ≠ q; omega))).trans x2
    have d1 := H3.out.cell (k * 2) (by omega)
    have e1 := H3.out.z (k * 2)
    rw [hY]
    clear H2 HB2 hY c1 c2 z1 z2 x2
    go_still_tail 5, (by kernel_rfl)
    change wpList _ _ _ _ _ Y.drew
    have y2 : Y.drew.cell? ⟨w.heap.size, 2, none⟩ = some (.int .i64 (c : Int)) := y2
    have d1 : Y.drew.cell? ⟨q, k * 2, none⟩ = some (.int .i64 (((cx.set (k * 2 + 1) (1 - m)).getD (k * 2) 0 : Nat) : Int)) := d1
    have e1 : Y.drew.frozen? ⟨q, k * 2, none⟩ = false := e1
    have H4 : Hid (Cb Y.drew q (cx.set (k * 2 + 1) (1 - m))) := H3.out
    have O4 : Hid (Only (fun j => j = q ∨ w.heap.size ≤ j) w Y.drew) := only_drewN O3.out 1
    generalize Y.drew = Z at *
    clear H3 O3
    go_wp2
    go_end0
    exact ⟨rfl, H4.out.set _ _, O4.out.setCell (p := ⟨q, k * 2, none⟩) (Or.inl rfl) _⟩
end Go.Proofs.YtdgkeghgfibolaaDoor
