/- A block of a function's code, as a theorem of its own; two regions and blocks by name. -/
import Derived.Test.YtlbfjaifemnkpaaReg3
import Derived.Below
set_option linter.unusedVariables false
set_option linter.unusedSimpArgs false
namespace Go.Proofs.Ytlbfjaifemnkpaa
open Go.RowKit
/-- A block of a function's code. -/
def findBlk (k : Nat) : Code → Option Code
  | .seq a b => match findBlk k a with
    | some o => some o
    | none => findBlk k b
  | .cond _ a b => match findBlk k a with
    | some o => some o
    | none => findBlk k b
  | .block i a => bif Nat.beq i k then some (.block i a) else findBlk k a
  | .loop a => findBlk k a
  | .scope a => findBlk k a
  | .rangeFunc _ _ a b => match findBlk k a with
    | some o => some o
    | none => findBlk k b
  | _ => none
def blkOf (f : Func) (k : Nat) : Code := match f.body with
  | some c => (findBlk k c).getD .skip
  | none => .skip
theorem wp_code {P : Program} {c c' : Code} {Q : Exit → Act → World → Prop} {a : Act} {W : World} (h : c = c') (k : c'.wp P Q a W) : c.wp P Q a W := h ▸ k
theorem grown_put (w : World) (p i : Nat) (u : Value) : w.grownBy (w.setCell ⟨p, i, none⟩ u) (some p) :=
  ⟨rfl, rfl, rfl, by simp [World.setCell], fun k _ hk => Below.heap_setCell w _ u k (fun e => hk (by rw [e]))⟩
theorem grown_of {a b : World} {B : Nat} (h : Below B a b) {r : Option Nat} (hB : a.heap.size ≤ B) : a.grownBy b r := ⟨h.os, h.tape, h.output, h.size, fun k hk _ => h.block k (by omega)⟩
theorem grown_two {a b c : World} {r : Option Nat} (h : a.grownBy b r) (k : b.grownBy c r) : a.grownBy c r :=
  ⟨k.os.trans h.os, k.tape.trans h.tape, k.output.trans h.output, Nat.le_trans h.size k.size, fun q hq hr => (k.block q (Nat.lt_of_lt_of_le hq h.size) hr).trans (h.block q hq hr)⟩
theorem grown_refl (a : World) (r : Option Nat) : a.grownBy a r := ⟨rfl, rfl, rfl, Nat.le_refl _, fun _ _ _ => rfl⟩
theorem blk_put {w : World} {p : Nat} {cs : Array Value} {t : TypeId} (h : w.heap[p]? = some (.cells cs t (0, 0))) (i : Nat) (u : Value) :
    (w.setCell ⟨p, i, none⟩ u).heap[p]? = some (.cells (cs.setIfInBounds i u) t (0, 0)) := by
  simp [World.setCell, Array.getElem?_modify, h]
end Go.Proofs.Ytlbfjaifemnkpaa
