/- canvas: the reference's Bands. -/
import Derived.Test.YtejoedanhonpkaaCvM5
import Derived.Test.YtejoedanhonpkaaAnyRk
set_option linter.unusedVariables false
set_option linter.unusedSimpArgs false
namespace Go.Proofs.Ytejoedanhonpkaa
open Go.RowKit
set_option maxRecDepth 100000
theorem blk_cell {w : World} {p : Nat} {cs : Array Value} {t : TypeId} (h : w.heap[p]? = some (.cells cs t (0, 0))) (i : Nat) : w.cell? ⟨p, i, none⟩ = cs[i]? := cell_of_row w p i cs t (0, 0) h
structure B3 (Y w' : World) (l0 l1 : Bool) (z0 z1 : Nat) (I R : Array Value) : Prop where
  bel : Below Y.heap.size Y w'
  i : l0 = true → w'.heap[z0]? = some (.cells I 3 (0, 0))
  r : l1 = true → w'.heap[z1]? = some (.cells R 38 (0, 0))
section
variable {Y w' w2 : World} {l0 l1 : Bool} {z0 z1 : Nat} {I R : Array Value}
theorem B3.below (h : B3 Y w' l0 l1 z0 z1 I R) (hb : Below w'.heap.size w' w2) : B3 Y w2 l0 l1 z0 z1 I R :=
  ⟨h.bel.trans (hb.mono h.bel.size), fun e => (hb.block _ (Array.getElem?_eq_some_iff.1 (h.i e)).1).trans (h.i e), fun e => (hb.block _ (Array.getElem?_eq_some_iff.1 (h.r e)).1).trans (h.r e)⟩
theorem B3.int (h : B3 Y w' l0 l1 z0 z1 I R) : B3 Y (w'.alloc (.cells I 3)) true l1 w'.heap.size z1 I R :=
  ⟨h.bel.alloc h.bel.size _, fun _ => World.alloc_heap_new w' _, fun e => (Below.heap_alloc _ _ _ (Array.getElem?_eq_some_iff.1 (h.r e)).1).trans (h.r e)⟩
end
end Go.Proofs.Ytejoedanhonpkaa
