/- The quarters of a plane as they are cut: mathematics, and how they lie in memory. -/
import Derived.Test.YtgadebfelomhpaaDwN
set_option linter.unusedVariables false
set_option linter.unusedSimpArgs false
namespace Go.Proofs.Ytgadebfelomhpaa
open Go.RowKit

theorem flat_zero (w : Nat) (P : Nat → Nat → Int) : flat w 0 P = [] := List.eq_nil_of_length_eq_zero (by rw [flat_len]; simp)
theorem flat_getElem {w h : Nat} (P : Nat → Nat → Int) (k : Nat) : (flat w h P)[k]? = if k < w * h then some (P (k % w) (k / w)) else none := by
  by_cases c : k < w * h
  · rw [if_pos c]; exact ranged_get _ _ _ c
  · rw [if_neg c, List.getElem?_eq_none (by rw [flat_len]; omega)]
theorem ranged_getElem (f : Nat → Int) (n k : Nat) : (ranged f n)[k]? = if k < n then some (f k) else none := by
  by_cases c : k < n
  · rw [if_pos c]; exact ranged_get _ _ _ c
  · rw [if_neg c, List.getElem?_eq_none (by rw [ranged_len]; omega)]
theorem flat_succ (w y : Nat) (P : Nat → Nat → Int) : flat w (y + 1) P = flat w y P ++ ranged (fun x => P x y) w := by
  apply List.ext_getElem?
  intro k
  rw [List.getElem?_append, flat_len, flat_getElem, flat_getElem, ranged_getElem, Nat.mul_add, Nat.mul_one]
  by_cases c : k < w * y
  · rw [if_pos c, if_pos (by omega), if_pos c]
  · rw [if_neg c]
    by_cases c2 : k - w * y < w
    · rw [if_pos (by omega), if_pos c2]
      obtain ⟨x, rfl⟩ : ∃ x, k = y * w + x := ⟨k - w * y, by rw [Nat.mul_comm y w]; omega⟩
      have hx : x < w := by rw [Nat.mul_comm y w] at c2; omega
      rw [spot_mod y hx, spot_div y hx, show y * w + x - w * y = x by rw [Nat.mul_comm y w]; omega]
    · rw [if_neg (by omega), if_neg c2]
theorem flat_seg {w h a b wide : Nat} (Q : Nat → Nat → Int) (h1 : a + wide ≤ w) (h2 : b < h) : ((flat w h Q).drop (b * w + a)).take wide = ranged (fun x => Q (a + x) b) wide := by
  apply List.ext_getElem?
  intro k
  rw [List.getElem?_take, ranged_getElem]
  by_cases c : k < wide
  · rw [if_pos c, if_pos c, List.getElem?_drop, flat_getElem, Nat.add_assoc, if_pos (spot_lt (by omega) h2), spot_mod b (by omega), spot_div b (by omega)]
  · rw [if_neg c, if_neg c]
theorem seg_le {w h a b wide : Nat} (h1 : a + wide ≤ w) (h2 : b < h) : b * w + a + wide ≤ w * h := by
  have : (b + 1) * w ≤ h * w := Nat.mul_le_mul_right w h2
  rw [Nat.mul_comm w h, Nat.succ_mul] at *
  omega

/-- Four rows of the caller's own, and the block z that names them, all made behind W1. -/
structure QG (z : Nat) (W1 w : World) (V : Nat → Value) (X : Nat → List Int) : Prop where
  siz : W1.heap.size = z
  bel : Below z W1 w
  zlt : z < w.heap.size
  blk : w.heap[z]? = some (.cells #[V 0, V 1, V 2, V 3] 24 (0, 0))
  own : ∀ i, i < 4 → w.ownsRow (z + 1) 3 1 (V i) (X i).length ((X i).map (Value.int .i64))
  dis : ∀ i j, i < 4 → j < 4 → i ≠ j → ∀ b, (V i).ownBlock = some b → (V j).ownBlock ≠ some b
section
variable {z : Nat} {W1 w w2 : World} {V : Nat → Value} {X : Nat → List Int}
theorem QG.start (W1 : World) : QG W1.heap.size W1 (W1.alloc (.cells #[.slice none 0 0, .slice none 0 0, .slice none 0 0, .slice none 0 0] 24)) (fun _ => .slice none 0 0) (fun _ => []) :=
  ⟨rfl, (Below.refl _ _).alloc (Nat.le_refl _) _, by simp, World.alloc_heap_new _ _, fun _ _ => World.ownsRow_nil _ _ _ _, fun _ _ _ _ _ b h => by simp [Value.ownBlock] at h⟩
theorem QG.cell (h : QG z W1 w V X) {k : Nat} (hk : k < 4) : w.cell? ⟨z, k, none⟩ = some (V k) ∧ w.frozen? ⟨z, k, none⟩ = false := by
  rcases (by omega : k = 0 ∨ k = 1 ∨ k = 2 ∨ k = 3) with rfl | rfl | rfl | rfl <;> exact ⟨by simp [World.cell?, h.blk], by simp [World.frozen?, h.blk]⟩
theorem QG.row (h : QG z W1 w V X) {k : Nat} (hk : k < 4) : ∃ A c, V k = .slice A (X k).length c ∧ RowI w A (X k).length c (X k) := rowI_own (h.own k hk)
theorem QG.below (h : QG z W1 w V X) (hb : Below w.heap.size w w2) : QG z W1 w2 V X :=
  ⟨h.siz, h.bel.trans (hb.mono (Nat.le_of_lt h.zlt)), Nat.lt_of_lt_of_le h.zlt hb.size, (hb.block z h.zlt).trans h.blk, fun i hi => ownsRow_keep (h.own i hi) hb.size fun b e => hb.block b (own_lt (h.own i hi) e).2, h.dis⟩
theorem QG.congr {X' : Nat → List Int} (h : QG z W1 w V X) (hx : ∀ i, i < 4 → X i = X' i) : QG z W1 w V X' :=
  ⟨h.siz, h.bel, h.zlt, h.blk, fun i hi => by rw [← hx i hi]; exact h.own i hi, h.dis⟩
/-- One of them is another row now; and then it is named. -/
theorem QG.put (h : QG z W1 w V X) {k : Nat} (hk : k < 4) {v' : Value} {L : List Int} (hg : w.grownBy w2 (V k).ownBlock) (ho : w2.ownsRow (z + 1) 3 1 v' L.length (L.map (Value.int .i64)))
    (hb : v'.ownBlock = (V k).ownBlock ∨ v'.ownBlock = some w.heap.size) :
    w2.cell? ⟨z, k, none⟩ = some (V k) ∧ w2.frozen? ⟨z, k, none⟩ = false ∧ QG z W1 (w2.setCell ⟨z, k, none⟩ v') (put1 V k v') (put1 X k L) := by
  have hkz : (V k).ownBlock ≠ some z := fun e => by have := (own_lt (h.own k hk) e).1; omega
  have hblk : w2.heap[z]? = some (.cells #[V 0, V 1, V 2, V 3] 24 (0, 0)) := (hg.block z h.zlt (fun e => hkz e.symm)).trans h.blk
  have hz2 : z < w2.heap.size := (Array.getElem?_eq_some_iff.1 hblk).1
  have hoth : ∀ j, j < 4 → j ≠ k → ∀ b, (V j).ownBlock = some b → w2.heap[b]? = w.heap[b]? := fun j hj hjk b e =>
    hg.block b (own_lt (h.own j hj) e).2 (fun e2 => h.dis j k hj hk hjk b e e2.symm)
  have hset : ∀ b, b ≠ z → (w2.setCell ⟨z, k, none⟩ v').heap[b]? = w2.heap[b]? := fun b hb => Below.heap_setCell _ _ _ _ (by simpa using hb)
  have hsz : (w2.setCell ⟨z, k, none⟩ v').heap.size = w2.heap.size := by simp [World.setCell]
  have hne : ∀ b, v'.ownBlock = some b → b ≠ z := fun b e => by have := (own_lt ho e).1; omega
  refine ⟨?_, ?_, h.siz, ?_, by rw [hsz]; exact hz2, ?_, fun j hj => ?_, fun i j hi hj hij b hbi => ?_⟩
  · rcases (by omega : k = 0 ∨ k = 1 ∨ k = 2 ∨ k = 3) with rfl | rfl | rfl | rfl <;> simp [World.cell?, hblk]
  · rcases (by omega : k = 0 ∨ k = 1 ∨ k = 2 ∨ k = 3) with rfl | rfl | rfl | rfl <;> simp [World.frozen?, hblk]
  · refine (h.bel.grown hg (by rw [← h.siz]; exact h.bel.size) fun b e => ?_).setCell (p := ⟨z, k, none⟩) (Nat.le_refl _) _
    have := (own_lt (h.own k hk) e).1; omega
  · rcases (by omega : k = 0 ∨ k = 1 ∨ k = 2 ∨ k = 3) with rfl | rfl | rfl | rfl <;> simp [World.setCell, Array.getElem?_modify, hblk, put1]
  · by_cases hjk : j = k
    · subst hjk
      rw [put1_self, put1_self]
      exact ownsRow_keep ho (by rw [hsz]; exact Nat.le_refl _) fun b e => hset b (hne b e)
    · rw [put1_ne _ _ hjk, put1_ne _ _ hjk]
      refine ownsRow_keep (h.own j hj) (by rw [hsz]; exact hg.size) fun b e => (hset b ?_).trans (hoth j hj hjk b e)
      have := (own_lt (h.own j hj) e).1; omega
  · have hnew : ∀ j, j < 4 → j ≠ k → ∀ b, v'.ownBlock = some b → (V j).ownBlock ≠ some b := fun j hj hjk b e e2 => by
      rcases hb with hb | hb
      · exact h.dis j k hj hk hjk b e2 (hb ▸ e)
      · rw [hb] at e; injection e with e
        have := (own_lt (h.own j hj) e2).2; omega
    by_cases hik : i = k
    · subst hik
      rw [put1_self] at hbi
      rw [put1_ne _ _ (fun e => hij e.symm)]
      exact hnew j hj (fun e => hij e.symm) b hbi
    · rw [put1_ne _ _ hik] at hbi
      by_cases hjk : j = k
      · subst hjk
        rw [put1_self]
        exact fun e => hnew i hi hik b e hbi
      · rw [put1_ne _ _ hjk]
        exact h.dis i j hi hj hij b hbi
end
end Go.Proofs.Ytgadebfelomhpaa
