/- Trees: the walk down to a leaf, with any question. -/
import Derived.Test.YthgbnkcbcepjdaaTrSt
import Derived.Test.YthgbnkcbcepjdaaAnyInv
import Derived.Shelf.Abstract
import Derived.Deep.LoopGhost
set_option linter.unusedVariables false
set_option linter.unusedSimpArgs false
namespace Go.Proofs.Ythgbnkcbcepjdaa
open Go.RowKit
set_option maxRecDepth 100000
section
variable {σ : Type}
/-- One question to a node, and what walk makes of the answer. -/
def nxt (step : σ → Nd → Bool × Nd × σ) (x : σ × Nd) : σ × Nd :=
  ((step x.1 x.2).2.2, if (step x.1 x.2).1 = true then ⟨(step x.1 x.2).2.1.num, (step x.1 x.2).2.1.low, true⟩ else ⟨(step x.1 x.2).2.1.num, (step x.1 x.2).2.1.low + 1, (step x.1 x.2).2.1.said⟩)
def loopN (step : σ → Nd → Bool × Nd × σ) (bound : Int) : Nat → σ × Nd → σ × Nd
  | 0, x => x
  | f + 1, x => if x.2.low < bound ∧ x.2.said = false then loopN step bound f (nxt step x) else x
theorem loopN_stop {step : σ → Nd → Bool × Nd × σ} {bound : Int} {x : σ × Nd} (h : ¬ (x.2.low < bound ∧ x.2.said = false)) : ∀ f, loopN step bound f x = x := by
  intro f
  cases f with
  | zero => rfl
  | succ f => rw [loopN, if_neg h]
theorem loopN_go {step : σ → Nd → Bool × Nd × σ} {bound : Int} {x : σ × Nd} (h : x.2.low < bound ∧ x.2.said = false) (f : Nat) : loopN step bound (f + 1) x = loopN step bound f (nxt step x) := by
  rw [loopN, if_pos h]
def maxI (a b : Int) : Int := if a < b then b else a
/-- The walk through so many levels, from the top. -/
def walkT (step : σ → Nd → Bool × Nd × σ) (bound : Int) (F W0 x y : Nat) : Nat → σ × TT × Int → σ × TT × Int
  | 0, s => s
  | j + 1, s => walkT step bound F W0 x y j
      ((loopN step bound F (s.1, ⟨(s.2.1 j (y / 2 ^ j * dimF W0 j + x / 2 ^ j)).num, maxI (s.2.1 j (y / 2 ^ j * dimF W0 j + x / 2 ^ j)).low s.2.2, (s.2.1 j (y / 2 ^ j * dimF W0 j + x / 2 ^ j)).said⟩)).1,
       s.2.1.upd j (y / 2 ^ j * dimF W0 j + x / 2 ^ j) (loopN step bound F (s.1, ⟨(s.2.1 j (y / 2 ^ j * dimF W0 j + x / 2 ^ j)).num, maxI (s.2.1 j (y / 2 ^ j * dimF W0 j + x / 2 ^ j)).low s.2.2, (s.2.1 j (y / 2 ^ j * dimF W0 j + x / 2 ^ j)).said⟩)).2,
       (loopN step bound F (s.1, ⟨(s.2.1 j (y / 2 ^ j * dimF W0 j + x / 2 ^ j)).num, maxI (s.2.1 j (y / 2 ^ j * dimF W0 j + x / 2 ^ j)).low s.2.2, (s.2.1 j (y / 2 ^ j * dimF W0 j + x / 2 ^ j)).said⟩)).2.low)
end
/-- Lows lie within bounds. -/
def LowOk (T : TT) : Prop := ∀ i m, 0 ≤ (T i m).low ∧ (T i m).low ≤ 1000
theorem LowOk.upd {T : TT} (h : LowOk T) (i m : Nat) {n : Nd} (hn : 0 ≤ n.low ∧ n.low ≤ 1000) : LowOk (T.upd i m n) := by
  intro a b
  unfold TT.upd
  split
  · exact hn
  · exact h a b
/-- A question: the closure, what it captures, and what it does. -/
structure Ask (σ : Type) (kf : FuncId) (caps : Array Value) (p L cl : Nat) (sh : Sh) (bound : Int) (step : σ → Nd → Bool × Nd × σ) (J : σ → World → Prop) (msr : σ → Nat) (PP : Nat → Prop) : Prop where
  ent : Enters Try.prog kf
  keep : ∀ s w1 w2, J s w1 → w1.heap.size ≤ w2.heap.size → (∀ k, ¬ TB p L sh k → k < w1.heap.size → w2.heap[k]? = w1.heap[k]?) → J s w2
  up : ∀ s nd, msr (step s nd).2.2 ≤ msr s + 1
  no : ∀ s nd, (step s nd).1 = false → 0 ≤ nd.low → nd.low < bound → nd.low ≤ (step s nd).2.1.low ∧ (step s nd).2.1.low < bound
  yes : ∀ s nd, (step s nd).1 = true → (step s nd).2.1.low = nd.low
  call : ∀ (w1 : World) (s : σ) (T : TT) (i m W H I : Nat), Tr w1 p L cl sh T → J s w1 → sh[i]? = some (W, H, I) → m < W * H → (T i m).said = false → 0 ≤ (T i m).low → (T i m).low < bound → msr s ≤ 80000 →
    Calls Try.prog kf (#[.pointer (some ⟨I, m * 3, none⟩)] ++ caps) w1 fun e w2 => e = .returned (.bool (step s (T i m)).1) ∧ Tr w2 p L cl sh (T.upd i m (step s (T i m)).2.1) ∧ J (step s (T i m)).2.2 w2 ∧ Only PP w1 w2
  pt : ∀ k, TB p L sh k → PP k
end Go.Proofs.Ythgbnkcbcepjdaa
