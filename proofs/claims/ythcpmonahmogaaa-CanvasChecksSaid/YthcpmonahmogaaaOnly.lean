/- Blocks that are one object's own, beside those of another. -/
import Derived.Test.YthcpmonahmogaaaMem
import Derived.OneCell
set_option linter.unusedVariables false
namespace Go.Proofs.Ythcpmonahmogaaa
open Go.RowKit

/-- Only blocks of P were written. -/
structure Only (P : Nat → Prop) (w w' : World) : Prop where
  os : w'.os = w.os
  tape : w'.tape = w.tape
  output : w'.output = w.output
  size : w.heap.size ≤ w'.heap.size
  block : ∀ k, ¬ P k → w'.heap[k]? = w.heap[k]?
section
variable {P : Nat → Prop} {a w w' : World}
theorem Only.refl (P : Nat → Prop) (w : World) : Only P w w := ⟨rfl, rfl, rfl, Nat.le_refl _, fun _ _ => rfl⟩
theorem Only.trans (h : Only P a w) (k : Only P w w') : Only P a w' :=
  ⟨k.os.trans h.os, k.tape.trans h.tape, k.output.trans h.output, Nat.le_trans h.size k.size, fun i hi => (k.block i hi).trans (h.block i hi)⟩
theorem only_drewN (h : Only P a w) (n : Nat) : Only P a (w.drewN n) := ⟨h.os, h.tape, h.output, h.size, h.block⟩
theorem Only.setCell (h : Only P a w) {p : Addr} (hp : P p.block) (u : Value) : Only P a (w.setCell p u) :=
  h.trans ⟨rfl, rfl, rfl, by simp [World.setCell], fun k hk => Below.heap_setCell _ _ _ _ (fun e => hk (e ▸ hp))⟩
theorem Only.alloc (h : Only P a w) (hB : P w.heap.size) (o : Obj) : Only P a (w.alloc o) := by
  refine h.trans ⟨rfl, rfl, rfl, by simp, fun k hk => ?_⟩
  show (w.heap.push o)[k]? = _
  rw [Array.getElem?_push]
  split
  · rename_i e; subst e; exact absurd hB hk
  · rfl
theorem Only.grown {row : Option Nat} (h : Only P a w) (hg : w.grownBy w' row) (hP : ∀ k, w.heap.size ≤ k → P k) (hr : ∀ k, row = some k → P k) : Only P a w' :=
  h.trans ⟨hg.os, hg.tape, hg.output, hg.size, fun k hk => hg.block k (by
    rcases Nat.lt_or_ge k w.heap.size with h | h
    · exact h
    · exact absurd (hP k h) hk) (fun e => hk (hr k e.symm))⟩
theorem Only.mono {Q : Nat → Prop} (h : Only P w w') (hPQ : ∀ k, P k → Q k) : Only Q w w' := ⟨h.os, h.tape, h.output, h.size, fun k hk => h.block k (fun e => hk (hPQ k e))⟩
theorem Only.below {lo : Nat} (h : Only P w w') (hP : ∀ k, P k → lo ≤ k) : Below lo w w' := ⟨h.os, h.tape, h.output, h.size, fun k hk => h.block k (fun e => by have := hP k e; omega)⟩
theorem Only.cell (h : Only P w w') {p : Addr} (hp : ¬ P p.block) : w'.cell? p = w.cell? p := World.cell?_of_block (w := w) (h.block p.block hp)
end
/-- The blocks of an object behind a call on it. -/
def more (A : Nat → Prop) (w : World) : Nat → Prop := fun k => A k ∨ w.heap.size ≤ k
def upto (P : Nat → Prop) (w : World) : Nat → Prop := fun k => P k ∧ k < w.heap.size
/-- Two objects side by side, all of them from lo on. -/
structure Two (lo : Nat) (A B : Nat → Prop) (w : World) : Prop where
  a : ∀ k, A k → lo ≤ k ∧ k < w.heap.size
  b : ∀ k, B k → lo ≤ k ∧ k < w.heap.size
  ab : ∀ k, A k → ¬ B k
theorem Two.swap {lo : Nat} {A B : Nat → Prop} {w : World} (h : Two lo A B w) : Two lo B A w := ⟨h.b, h.a, fun k hb ha => h.ab k ha hb⟩
theorem Two.step {lo : Nat} {A B : Nat → Prop} {w w' : World} (h : Two lo A B w) (o : Only (more A w) w w') (hlo : lo ≤ w.heap.size) :
    Two lo (upto (more A w) w') B w' ∧ (∀ k, B k → w'.heap[k]? = w.heap[k]?) ∧ Below lo w w' := by
  have hB : ∀ k, B k → ¬ more A w k := fun k hk e => by
    rcases e with e | e
    · exact h.ab k e hk
    · have := (h.b k hk).2; omega
  refine ⟨⟨fun k hk => ⟨?_, hk.2⟩, fun k hk => ⟨(h.b k hk).1, Nat.lt_of_lt_of_le (h.b k hk).2 o.size⟩, fun k hk hb => hB k hb hk.1⟩, fun k hk => o.block k (hB k hk), o.below fun k hk => ?_⟩
  · rcases hk.1 with e | e
    · exact (h.a k e).1
    · omega
  · rcases hk with e | e
    · exact (h.a k e).1
    · omega
theorem more_up (A : Nat → Prop) (w : World) : ∀ k, w.heap.size ≤ k → more A w k := fun k h => Or.inr h
theorem ownsRow_keep {w w' : World} {base : Nat} {e : TypeId} {size n : Nat} {v : Value} {xs : List Value} (h : w.ownsRow base e size v n xs) (hs : w.heap.size ≤ w'.heap.size) (hk : ∀ k, v.ownBlock = some k → w'.heap[k]? = w.heap[k]?) : w'.ownsRow base e size v n xs := by
  refine ⟨h.1, ?_⟩
  rcases h.2 with h | ⟨g, cap, cur, hv, hg, hb, r⟩
  · exact Or.inl h
  · exact Or.inr ⟨g, cap, cur, hv, hg, by rw [hk g (by rw [hv]; rfl)]; exact hb, r⟩
theorem own_zero {w : World} {base : Nat} {e : TypeId} {size n : Nat} {v : Value} {xs : List Value} (h : w.ownsRow base e size v n xs) : w.ownsRow 0 e size v n xs := by
  refine ⟨h.1, ?_⟩
  rcases h.2 with h | ⟨g, cap, cur, hv, hg, r⟩
  · exact Or.inl h
  · exact Or.inr ⟨g, cap, cur, hv, Nat.zero_le _, r⟩
theorem own_lt {w : World} {base : Nat} {e : TypeId} {size n : Nat} {v : Value} {xs : List Value} (h : w.ownsRow base e size v n xs) {k : Nat} (hk : v.ownBlock = some k) : base ≤ k ∧ k < w.heap.size := h.lt k hk
end Go.Proofs.Ythcpmonahmogaaa
