/- The reference's tree: where its nodes lie. -/
import Derived.Test.YthgbnkcbcepjdaaTrC
import Derived.Test.YthgbnkcbcepjdaaTrKn
set_option linter.unusedVariables false
set_option linter.unusedSimpArgs false
namespace Go.Proofs.Ythgbnkcbcepjdaa
open Go.RowKit
set_option maxRecDepth 100000
/-- How many nodes a level has; how many stand ahead of it. -/
def cntF (W H i : Nat) : Nat := dimF W i * dimF H i
def offF (W H : Nat) : Nat → Nat
  | 0 => 0
  | i + 1 => offF W H i + cntF W H i
/-- The node above one. -/
def upI (W H d i m : Nat) : Int := if i + 1 = d then -1 else ((offF W H (i + 1) + m / dimF W i / 2 * dimF W (i + 1) + m % dimF W i / 2 : Nat) : Int)
def gF (W H d : Nat) : Nat → Nat → Nat → Int
  | 0, _, _ => 0
  | f + 1, i, j => if j < cntF W H i then upI W H d i j else gF W H d f (i + 1) (j - cntF W H i)
theorem offF_mono (W H i k : Nat) : offF W H i ≤ offF W H (i + k) := by
  induction k with
  | zero => exact Nat.le_refl _
  | succ k ih => show offF W H i ≤ offF W H (i + k) + cntF W H (i + k); omega
theorem gF_at (W H d : Nat) : ∀ (f i k m : Nat), k < f → m < cntF W H (i + k) → gF W H d f i (offF W H (i + k) - offF W H i + m) = upI W H d (i + k) m := by
  intro f
  induction f with
  | zero => intro i k m h; omega
  | succ f ih =>
    intro i k m h hm
    rcases k with _ | k
    · rw [gF, Nat.add_zero, Nat.sub_self, Nat.zero_add]
      rw [Nat.add_zero] at hm
      rw [if_pos hm]
    · have h1 := offF_mono W H (i + 1) k
      have h2 : offF W H (i + 1) = offF W H i + cntF W H i := rfl
      have h3 : i + 1 + k = i + (k + 1) := by omega
      rw [h3] at h1
      rw [gF, if_neg (by omega)]
      have := ih (i + 1) k m (by omega) (by rw [h3]; exact hm)
      rw [h3] at this
      rw [← this, h2]
      congr 1
      omega
def upN (W H d j : Nat) : Int := gF W H d d 0 j
theorem upN_at (W H d i m : Nat) (hi : i < d) (hm : m < cntF W H i) : upN W H d (offF W H i + m) = upI W H d i m := by
  have := gF_at W H d d 0 i m hi (by rw [Nat.zero_add]; exact hm)
  rw [Nat.zero_add] at this
  unfold upN
  rw [← this]
  congr 1
/-- Fresh nodes, by what stands above each. -/
def node1 (u : Int) : List Value := [.int .i64 0, .int .i64 0, .bool false, .int .i64 u]
def nodeL (g : Nat → Int) : Nat → List Value
  | 0 => []
  | n + 1 => nodeL g n ++ node1 (g n)
theorem nodeL_len (g : Nat → Int) (n : Nat) : (nodeL g n).length = n * 4 := by
  induction n with
  | zero => rfl
  | succ n ih => rw [nodeL, List.length_append, ih]; show n * 4 + 4 = _; omega
theorem nodeL_get (g : Nat → Int) : ∀ (n j : Nat), j < n → (nodeL g n)[j * 4]? = some (.int .i64 0) ∧ (nodeL g n)[j * 4 + 1]? = some (.int .i64 0) ∧ (nodeL g n)[j * 4 + 2]? = some (.bool false) ∧ (nodeL g n)[j * 4 + 3]? = some (.int .i64 (g j)) := by
  intro n
  induction n with
  | zero => intro j h; omega
  | succ n ih =>
    intro j h
    have hl := nodeL_len g n
    rw [nodeL]
    rcases (by omega : j < n ∨ j = n) with hj | rfl
    · have := ih j hj
      refine ⟨?_, ?_, ?_, ?_⟩
      · rw [List.getElem?_append_left (by omega)]; exact this.1
      · rw [List.getElem?_append_left (by omega)]; exact this.2.1
      · rw [List.getElem?_append_left (by omega)]; exact this.2.2.1
      · rw [List.getElem?_append_left (by omega)]; exact this.2.2.2
    · refine ⟨?_, ?_, ?_, ?_⟩
      · rw [List.getElem?_append_right (by omega), hl, Nat.sub_self]; rfl
      · rw [List.getElem?_append_right (by omega), hl, show j * 4 + 1 - j * 4 = 1 by omega]; rfl
      · rw [List.getElem?_append_right (by omega), hl, show j * 4 + 2 - j * 4 = 2 by omega]; rfl
      · rw [List.getElem?_append_right (by omega), hl, show j * 4 + 3 - j * 4 = 3 by omega]; rfl
/-- A reference's tree in memory: block q, its nodes in block L. -/
structure RTr (w : World) (q L tot cap W H d : Nat) (fr : Bool) (T : TT) : Prop where
  tp : w.heap[q]? = some (.cells #[.slice (some ⟨L, 0, none⟩) tot cap, .int .i64 ((W * H : Nat) : Int), .bool fr] 64 (0, 0))
  nd : ∃ cs : Array Value, w.heap[L]? = some (.cells cs 66 (0, 0)) ∧ ∀ i m, i < d → m < cntF W H i → cs[(offF W H i + m) * 4]? = some (.int .i64 (T i m).num) ∧ cs[(offF W H i + m) * 4 + 1]? = some (.int .i64 (T i m).low) ∧ cs[(offF W H i + m) * 4 + 2]? = some (.bool (T i m).said) ∧ cs[(offF W H i + m) * 4 + 3]? = some (.int .i64 (upI W H d i m))
  tt : tot = offF W H d
  ql : q ≠ L
section
variable {w w' : World} {q L tot cap W H d : Nat} {fr : Bool} {T : TT}
theorem RTr.keep (h : RTr w q L tot cap W H d fr T) (hq : w'.heap[q]? = w.heap[q]?) (hL : w'.heap[L]? = w.heap[L]?) : RTr w' q L tot cap W H d fr T := by
  obtain ⟨cs, a, b⟩ := h.nd
  exact ⟨hq.trans h.tp, ⟨cs, hL.trans a, b⟩, h.tt, h.ql⟩
theorem RTr.lt (h : RTr w q L tot cap W H d fr T) : q < w.heap.size ∧ L < w.heap.size := by
  obtain ⟨cs, a, b⟩ := h.nd
  exact ⟨blk_lt h.tp, blk_lt a⟩
theorem RTr.below (h : RTr w q L tot cap W H d fr T) (hb : Below w.heap.size w w') : RTr w' q L tot cap W H d fr T := h.keep (hb.block _ h.lt.1) (hb.block _ h.lt.2)
theorem off_lt {W H i m d : Nat} (hi : i < d) (hm : m < cntF W H i) : offF W H i + m < offF W H d := by
  have h1 := offF_mono W H (i + 1) (d - (i + 1))
  rw [show i + 1 + (d - (i + 1)) = d by omega] at h1
  have h2 : offF W H (i + 1) = offF W H i + cntF W H i := rfl
  omega
theorem off_ne {W H i m j k : Nat} (hm : m < cntF W H i) (hk : k < cntF W H j) (h : offF W H i + m = offF W H j + k) : i = j ∧ m = k := by
  rcases Nat.lt_trichotomy i j with e | e | e
  · have := off_lt e hm; omega
  · subst e; exact ⟨rfl, by omega⟩
  · have := off_lt e hk; omega
theorem RTr.cells (h : RTr w q L tot cap W H d fr T) {i m : Nat} (hi : i < d) (hm : m < cntF W H i) : w.cell? ⟨L, (offF W H i + m) * 4, none⟩ = some (.int .i64 (T i m).num) ∧ w.cell? ⟨L, (offF W H i + m) * 4 + 1, none⟩ = some (.int .i64 (T i m).low) ∧ w.cell? ⟨L, (offF W H i + m) * 4 + 2, none⟩ = some (.bool (T i m).said) ∧ w.cell? ⟨L, (offF W H i + m) * 4 + 3, none⟩ = some (.int .i64 (upI W H d i m)) ∧ (∀ o, w.frozen? ⟨L, o, none⟩ = false) ∧ offF W H i + m < tot := by
  obtain ⟨cs, a, b⟩ := h.nd
  obtain ⟨b0, b1, b2, b3⟩ := b i m hi hm
  refine ⟨by simp [World.cell?, a, b0], by simp [World.cell?, a, b1], by simp [World.cell?, a, b2], by simp [World.cell?, a, b3], fun o => by simp [World.frozen?, a], ?_⟩
  rw [h.tt]
  exact off_lt hi hm
theorem RTr.root (h : RTr w q L tot cap W H d fr T) : w.cell? ⟨q, 0, none⟩ = some (.slice (some ⟨L, 0, none⟩) tot cap) ∧ w.cell? ⟨q, 1, none⟩ = some (.int .i64 ((W * H : Nat) : Int)) := by
  have := h.tp
  exact ⟨by simp [World.cell?, this], by simp [World.cell?, this]⟩
/-- A node is stored whole. -/
theorem RTr.set (h : RTr w q L tot cap W H d fr T) {i m : Nat} (hi : i < d) (hm : m < cntF W H i) (n : Nd) :
    RTr ((((w.setCell ⟨L, (offF W H i + m) * 4, none⟩ (.int .i64 n.num)).setCell ⟨L, (offF W H i + m) * 4 + 1, none⟩ (.int .i64 n.low)).setCell ⟨L, (offF W H i + m) * 4 + 2, none⟩ (.bool n.said)).setCell ⟨L, (offF W H i + m) * 4 + 3, none⟩ (.int .i64 (upI W H d i m))) q L tot cap W H d fr (T.upd i m n) := by
  obtain ⟨cs, a, b⟩ := h.nd
  obtain ⟨b0, b1, b2, b3⟩ := b i m hi hm
  have hs : (offF W H i + m) * 4 + 3 < cs.size := (Array.getElem?_eq_some_iff.1 b3).1
  have hne := h.ql
  have ks : ∀ (V : World) (k : Nat) (u : Value), (V.setCell ⟨L, k, none⟩ u).heap[q]? = V.heap[q]? := fun V k u => Below.heap_setCell _ _ _ _ (by simpa using hne)
  refine ⟨by rw [ks, ks, ks, ks]; exact h.tp, ⟨(((cs.setIfInBounds ((offF W H i + m) * 4) (.int .i64 n.num)).setIfInBounds ((offF W H i + m) * 4 + 1) (.int .i64 n.low)).setIfInBounds ((offF W H i + m) * 4 + 2) (.bool n.said)).setIfInBounds ((offF W H i + m) * 4 + 3) (.int .i64 (upI W H d i m)), ?_, ?_⟩, h.tt, h.ql⟩
  · simp [World.setCell, Array.getElem?_modify, a]
  · intro j k hj hk
    by_cases e : j = i ∧ k = m
    · obtain ⟨rfl, rfl⟩ := e
      rw [TT.upd_self]
      refine ⟨?_, ?_, ?_, ?_⟩ <;> (simp only [Array.getElem?_setIfInBounds, Array.size_setIfInBounds]; repeat (first | rw [if_pos trivial] | rw [if_pos rfl] | rw [if_pos (by omega)] | rw [if_neg (by omega)]))
    · rw [TT.upd_ne _ _ _ _ e]
      have hno : offF W H j + k ≠ offF W H i + m := fun h' => e (off_ne hk hm h')
      have := b j k hj hk
      refine ⟨?_, ?_, ?_, ?_⟩ <;> (simp only [Array.getElem?_setIfInBounds, Array.size_setIfInBounds]; rw [if_neg (by omega), if_neg (by omega), if_neg (by omega), if_neg (by omega)])
      · exact this.1
      · exact this.2.1
      · exact this.2.2.1
      · exact this.2.2.2
end
end Go.Proofs.Ythgbnkcbcepjdaa
