/- Trees: their model, and what a tree in memory is. -/
import Derived.Test.YtobbkdhndojggaaTrN
set_option linter.unusedVariables false
set_option linter.unusedSimpArgs false
namespace Go.Proofs.Ytobbkdhndojggaa
open Go.RowKit
set_option maxRecDepth 100000
/-- A node: its number, its low, whether it is said. -/
structure Nd where
  num : Int
  low : Int
  said : Bool
abbrev TT := Nat → Nat → Nd
def TT.upd (T : TT) (i m : Nat) (n : Nd) : TT := fun a b => if a = i ∧ b = m then n else T a b
theorem TT.upd_self (T : TT) (i m : Nat) (n : Nd) : T.upd i m n i m = n := by simp [TT.upd]
theorem TT.upd_ne (T : TT) (i m : Nat) (n : Nd) {a b : Nat} (h : ¬ (a = i ∧ b = m)) : T.upd i m n a b = T a b := by simp [TT.upd, h]
theorem TT.upd_upd (T : TT) (i m : Nat) (n k : Nd) : (T.upd i m n).upd i m k = T.upd i m k := by
  funext a b
  unfold TT.upd
  split <;> rfl
theorem TT.upd_same (T : TT) (i m : Nat) : T.upd i m (T i m) = T := by
  funext a b
  unfold TT.upd
  split
  · rename_i h; rw [h.1, h.2]
  · rfl
/-- A level's side, of the leaves' side. -/
def dimF (W : Nat) : Nat → Nat
  | 0 => W
  | i + 1 => (dimF W i + 1) / 2
theorem dimF_le (W i : Nat) (h : 1 ≤ W) : 1 ≤ dimF W i ∧ dimF W i ≤ W := by
  induction i with
  | zero => exact ⟨h, Nat.le_refl _⟩
  | succ i ih => show 1 ≤ (dimF W i + 1) / 2 ∧ (dimF W i + 1) / 2 ≤ W; omega
theorem dimF_lt (W i x : Nat) (h : x < W) : x / 2 ^ i < dimF W i := by
  induction i with
  | zero => simpa [dimF] using h
  | succ i ih =>
    show x / 2 ^ (i + 1) < (dimF W i + 1) / 2
    rw [Nat.pow_succ, ← Nat.div_div_eq_div_mul]
    omega
theorem dimF_pow (W : Nat) : ∀ (i k : Nat), W ≤ 2 ^ (i + k) → dimF W i ≤ 2 ^ k := by
  intro i
  induction i with
  | zero => intro k h; simpa [dimF] using h
  | succ i ih =>
    intro k h
    have := ih (k + 1) (by rw [show i + (k + 1) = i + 1 + k by omega]; exact h)
    show (dimF W i + 1) / 2 ≤ 2 ^ k
    rw [Nat.pow_succ] at this
    omega
theorem dimF_gt {W i : Nat} (h : 1 < dimF W i) (hW : W ≤ 64) : i ≤ 5 := by
  rcases Nat.lt_or_ge i 6 with h6 | h6
  · omega
  · exfalso
    have := dimF_pow W i 0 (by
      have : 2 ^ 6 ≤ 2 ^ (i + 0) := Nat.pow_le_pow_right (by decide) (by omega)
      omega)
    simp at this
    omega
/-- The levels: width, height, block. -/
abbrev Sh := List (Nat × Nat × Nat)
/-- The levels' shapes are those of a tree of so many leaves. -/
structure Shp (W0 H0 : Nat) (sh : Sh) : Prop where
  pos : 1 ≤ W0 ∧ W0 ≤ 64 ∧ 1 ≤ H0 ∧ H0 ≤ 64
  dm : ∀ i W H I : Nat, sh[i]? = some (W, H, I) → W = dimF W0 i ∧ H = dimF H0 i
  len : 1 ≤ sh.length ∧ sh.length ≤ 8
  top : dimF W0 (sh.length - 1) = 1 ∧ dimF H0 (sh.length - 1) = 1
  mid : ∀ i, i + 1 < sh.length → 1 < dimF W0 i ∨ 1 < dimF H0 i
/-- The blocks of a tree. -/
def TB (p L : Nat) (sh : Sh) (k : Nat) : Prop := k = p ∨ k = L ∨ ∃ (i : Nat) (a : Nat × Nat × Nat), sh[i]? = some a ∧ a.2.2 = k
structure Tr (w : World) (p L cl : Nat) (sh : Sh) (T : TT) : Prop where
  tp : w.heap[p]? = some (.cells #[.slice (some ⟨L, 0, none⟩) sh.length cl] 114 (0, 0))
  lv : ∀ i W H I : Nat, sh[i]? = some (W, H, I) → w.cell? ⟨L, i * 3, none⟩ = some (.int .i64 (W : Int)) ∧ w.cell? ⟨L, i * 3 + 1, none⟩ = some (.int .i64 (H : Int)) ∧ w.cell? ⟨L, i * 3 + 2, none⟩ = some (.slice (some ⟨I, 0, none⟩) (W * H) (W * H))
  nd : ∀ i W H I : Nat, sh[i]? = some (W, H, I) → ∃ cs : Array Value, w.heap[I]? = some (.cells cs 120 (0, 0)) ∧ ∀ m, m < W * H → cs[m * 3]? = some (.int .i64 (T i m).num) ∧ cs[m * 3 + 1]? = some (.int .i64 (T i m).low) ∧ cs[m * 3 + 2]? = some (.bool (T i m).said)
  df : ∀ (i j : Nat) (a b : Nat × Nat × Nat), sh[i]? = some a → sh[j]? = some b → a.2.2 = b.2.2 → i = j
  ne : ∀ (i : Nat) (a : Nat × Nat × Nat), sh[i]? = some a → a.2.2 ≠ p ∧ a.2.2 ≠ L
  pl : p ≠ L
section
variable {w w' : World} {p L cl : Nat} {sh : Sh} {T : TT}
theorem Tr.keep (h : Tr w p L cl sh T) (hk : ∀ k, TB p L sh k → w'.heap[k]? = w.heap[k]?) : Tr w' p L cl sh T where
  tp := (hk p (.inl rfl)).trans h.tp
  lv := fun i W H I e => by
    obtain ⟨a, b, c⟩ := h.lv i W H I e
    have := hk L (.inr (.inl rfl))
    exact ⟨(World.cell?_of_block (w := w) this).trans a, (World.cell?_of_block (w := w) this).trans b, (World.cell?_of_block (w := w) this).trans c⟩
  nd := fun i W H I e => by
    obtain ⟨cs, a, b⟩ := h.nd i W H I e
    exact ⟨cs, (hk I (.inr (.inr ⟨i, _, e, rfl⟩))).trans a, b⟩
  df := h.df
  ne := h.ne
  pl := h.pl
theorem Tr.lt (h : Tr w p L cl sh T) (hl : 1 ≤ sh.length) {k : Nat} (hk : TB p L sh k) : k < w.heap.size := by
  rcases hk with rfl | rfl | ⟨i, ⟨W, H, I⟩, e, rfl⟩
  · exact blk_lt h.tp
  · obtain ⟨⟨W, H, I⟩, e⟩ : ∃ a, sh[0]? = some a := ⟨_, List.getElem?_eq_getElem (by omega)⟩
    exact World.block_lt_of_cell? w _ (h.lv 0 W H I e).1
  · obtain ⟨cs, a, _⟩ := h.nd i W H I e
    exact blk_lt a
theorem Tr.below (h : Tr w p L cl sh T) (hl : 1 ≤ sh.length) (hb : Below w.heap.size w w') : Tr w' p L cl sh T := h.keep fun k hk => hb.block k (h.lt hl hk)
theorem Tr.drewN (h : Tr w p L cl sh T) (n : Nat) : Tr (w.drewN n) p L cl sh T := h.keep fun k hk => rfl
theorem Tr.only {P : Nat → Prop} (h : Tr w p L cl sh T) (ho : Only P w w') (hP : ∀ k, TB p L sh k → ¬ P k) : Tr w' p L cl sh T := h.keep fun k hk => ho.block k (hP k hk)
/-- A cell of a node is written. -/
theorem Tr.set (h : Tr w p L cl sh T) {i W H I m j : Nat} (hi : sh[i]? = some (W, H, I)) (hm : m < W * H) (hj : j < 3) {u : Value} {n : Nd}
    (h0 : (if j = 0 then u else .int .i64 (T i m).num) = .int .i64 n.num) (h1 : (if j = 1 then u else .int .i64 (T i m).low) = .int .i64 n.low) (h2 : (if j = 2 then u else .bool (T i m).said) = .bool n.said) :
    Tr (w.setCell ⟨I, m * 3 + j, none⟩ u) p L cl sh (T.upd i m n) := by
  have hne := h.ne i _ hi
  have kp : ∀ k, k ≠ I → (w.setCell ⟨I, m * 3 + j, none⟩ u).heap[k]? = w.heap[k]? := fun k hk => Below.heap_setCell _ _ _ _ (by simpa using hk)
  refine ⟨(kp p (Ne.symm hne.1)).trans h.tp, ?_, ?_, h.df, h.ne, h.pl⟩
  · intro i' W' H' I' e
    obtain ⟨a, b, c⟩ := h.lv i' W' H' I' e
    have := kp L (Ne.symm hne.2)
    exact ⟨(World.cell?_of_block (w := w) this).trans a, (World.cell?_of_block (w := w) this).trans b, (World.cell?_of_block (w := w) this).trans c⟩
  · intro i' W' H' I' e
    obtain ⟨cs, a, b⟩ := h.nd i' W' H' I' e
    by_cases hI : I' = I
    · subst hI
      have hii := h.df _ _ _ _ e hi rfl
      subst hii
      rw [hi] at e
      cases e
      refine ⟨cs.setIfInBounds (m * 3 + j) u, blk_set a _ _, ?_⟩
      intro m' hm'
      obtain ⟨b0, b1, b2⟩ := b m' hm'
      have z0 := (Array.getElem?_eq_some_iff.1 b0).1
      have z1 := (Array.getElem?_eq_some_iff.1 b1).1
      have z2 := (Array.getElem?_eq_some_iff.1 b2).1
      by_cases hmm : m' = m
      · subst hmm
        rw [TT.upd_self, ← h0, ← h1, ← h2]
        simp only [Array.getElem?_setIfInBounds]
        have hjj : j = 0 ∨ j = 1 ∨ j = 2 := by omega
        rcases hjj with rfl | rfl | rfl
        · simp [z0, b1, b2]
        · simp [z1, b0, b2]
        · simp [z2, b0, b1]
      · rw [TT.upd_ne _ _ _ _ (by omega)]
        simp only [Array.getElem?_setIfInBounds]
        rw [if_neg (by omega), if_neg (by omega), if_neg (by omega)]
        exact ⟨b0, b1, b2⟩
    · refine ⟨cs, (kp I' hI).trans a, ?_⟩
      intro m' hm'
      rw [TT.upd_ne _ _ _ _ (by
        rintro ⟨rfl, _⟩
        rw [hi] at e
        cases e
        exact hI rfl)]
      exact b m' hm'
theorem Tr.setNum (h : Tr w p L cl sh T) {i W H I m : Nat} (hi : sh[i]? = some (W, H, I)) (hm : m < W * H) (v : Int) :
    Tr (w.setCell ⟨I, m * 3, none⟩ (.int .i64 v)) p L cl sh (T.upd i m ⟨v, (T i m).low, (T i m).said⟩) := h.set (j := 0) hi hm (by omega) rfl rfl rfl
theorem Tr.setLow (h : Tr w p L cl sh T) {i W H I m : Nat} (hi : sh[i]? = some (W, H, I)) (hm : m < W * H) (v : Int) :
    Tr (w.setCell ⟨I, m * 3 + 1, none⟩ (.int .i64 v)) p L cl sh (T.upd i m ⟨(T i m).num, v, (T i m).said⟩) := h.set (j := 1) hi hm (by omega) rfl rfl rfl
theorem Tr.setSaid (h : Tr w p L cl sh T) {i W H I m : Nat} (hi : sh[i]? = some (W, H, I)) (hm : m < W * H) (v : Bool) :
    Tr (w.setCell ⟨I, m * 3 + 2, none⟩ (.bool v)) p L cl sh (T.upd i m ⟨(T i m).num, (T i m).low, v⟩) := h.set (j := 2) hi hm (by omega) rfl rfl rfl
/-- A node's cells. -/
theorem Tr.cells (h : Tr w p L cl sh T) {i W H I m : Nat} (hi : sh[i]? = some (W, H, I)) (hm : m < W * H) :
    w.cell? ⟨I, m * 3, none⟩ = some (.int .i64 (T i m).num) ∧ w.cell? ⟨I, m * 3 + 1, none⟩ = some (.int .i64 (T i m).low) ∧ w.cell? ⟨I, m * 3 + 2, none⟩ = some (.bool (T i m).said) ∧ ∀ o, w.frozen? ⟨I, o, none⟩ = false := by
  obtain ⟨cs, a, b⟩ := h.nd i W H I hi
  obtain ⟨b0, b1, b2⟩ := b m hm
  exact ⟨(blk_cell a _).trans b0, (blk_cell a _).trans b1, (blk_cell a _).trans b2, fun o => blk_frozen a o⟩
theorem Tr.root (h : Tr w p L cl sh T) : w.cell? ⟨p, 0, none⟩ = some (.slice (some ⟨L, 0, none⟩) sh.length cl) := by rw [blk_cell h.tp]; rfl
end
end Go.Proofs.Ytobbkdhndojggaa
