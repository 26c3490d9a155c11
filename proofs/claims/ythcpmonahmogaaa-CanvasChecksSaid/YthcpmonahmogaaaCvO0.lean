/- canvas: the code-blocks of a precinct in a band: mathematics, said once for both sides. -/
import Derived.Test.YthcpmonahmogaaaCvN2
import Derived.Test.YthcpmonahmogaaaCvC
set_option linter.unusedVariables false
set_option linter.unusedSimpArgs false
namespace Go.Proofs.Ythcpmonahmogaaa
open Go.RowKit
set_option maxRecDepth 100000
theorem MkW.rowOther {w0 w : World} {B g : Nat} {l : List (Array Value × TypeId)} (h : MkW w0 B l w) (hg : B + l.length ≤ g) (cs : Array Value) : MkW w0 B l (w.setRow g cs) :=
  ⟨fun i c e => (setRow_ne _ _ _ _ (by have := (List.getElem?_eq_some_iff.1 e).1; omega)).trans (h.b i c e), below_setRow h.bel (by omega) cs, by rw [setRow_size]; exact h.sz⟩
abbrev Rc4 := Int × Int × Int × Int
def qF (pr r : Nat) : Nat := if r = 0 then pr else pr - 1
/-- What precinct k of a resolution's rectangle z has of a band's rectangle b. -/
def partF (b z : Rc4) (pr r k : Nat) : Rc4 :=
  let n : Int := ((2 ^ qF pr r : Nat) : Int)
  let N : Int := ((2 ^ pr : Nat) : Int)
  let W : Nat := (pcF z N).1.toNat
  let i : Int := z.1 / N + ((k % W : Nat) : Int)
  let j : Int := z.2.1 / N + ((k / W : Nat) : Int)
  (maxJ b.1 (i * n), maxJ b.2.1 (j * n), minJ b.2.2.1 ((i + 1) * n), minJ b.2.2.2 ((j + 1) * n))
def emptyB (p : Rc4) : Bool := decide (p.2.2.1 ≤ p.1 ∨ p.2.2.2 ≤ p.2.1)
/-- The pieces that a grid of cells of x by y cuts a rectangle to. -/
def blksF (p : Rc4) (x y : Int) : List Rc4 := (plP (p.1 / x) (p.2.1 / y) (ceilF p.2.2.1 x - p.1 / x).toNat (ceilF p.2.2.2 y - p.2.1 / y).toNat).map fun q => cellR p.1 p.2.1 p.2.2.1 p.2.2.2 x y q
def wideF (p : Rc4) (x : Int) : Int := ceilF p.2.2.1 x - p.1 / x
def cellX (bw q : Nat) : Int := ((2 ^ min bw q : Nat) : Int)
/-- The blocks, and how many there are in a row. -/
def blkF (b z : Rc4) (pr bw bh r k : Nat) : List Rc4 × Int :=
  if (pcF z ((2 ^ pr : Nat) : Int)).1 * (pcF z ((2 ^ pr : Nat) : Int)).2 ≤ (k : Int) ∨ emptyB (partF b z pr r k) = true then ([], 0)
  else (blksF (partF b z pr r k) (cellX bw (qF pr r)) (cellX bh (qF pr r)), wideF (partF b z pr r k) (cellX bw (qF pr r)))
theorem pc_bd {z : Rc4} {m : Int} (N : Int) (hN : 1 ≤ N) (hm : 0 ≤ m) (hz : inN z m) (hle : z.1 ≤ z.2.2.1 ∧ z.2.1 ≤ z.2.2.2) : (0 ≤ (pcF z N).1 ∧ (pcF z N).1 ≤ m) ∧ (0 ≤ (pcF z N).2 ∧ (pcF z N).2 ≤ m) := by
  unfold pcF
  split
  · simp only; omega
  · rename_i h
    have h1 := ceil_bd z.2.2.1 N (by have := hz.2.2.1; omega) hN
    have h2 := ceil_bd z.2.2.2 N (by have := hz.2.2.2; omega) hN
    have key : ∀ a b : Int, 0 ≤ a → a ≤ b → b ≤ m → 0 ≤ ceilF b N - a / N ∧ ceilF b N - a / N ≤ m := fun a b h0 hab hb => by
      have e0 : 0 ≤ a / N := Int.ediv_nonneg h0 (by omega)
      have e1 := ceil_bd b N (by omega) hN
      have e2 : a / N ≤ b / N := Int.ediv_le_ediv (by omega) hab
      have e3 : b / N ≤ ceilF b N := by unfold ceilF; split <;> omega
      omega
    exact ⟨key z.1 z.2.2.1 hz.1.1 hle.1 hz.2.2.1.2, key z.2.1 z.2.2.2 hz.2.1.1 hle.2 hz.2.2.2.2⟩
end Go.Proofs.Ythcpmonahmogaaa
