/- canvas: the reference's Bands. -/
import Derived.Test.YtlbfjaifemnkpaaCvM2
import Derived.Test.YtlbfjaifemnkpaaAnyRk
import Derived.Deep.LoopGhost
set_option linter.unusedVariables false
set_option linter.unusedSimpArgs false
namespace Go.Proofs.Ytlbfjaifemnkpaa
open Go.RowKit
set_option maxRecDepth 100000
theorem blk_cell {w : World} {p : Nat} {cs : Array Value} {t : TypeId} (h : w.heap[p]? = some (.cells cs t (0, 0))) (i : Nat) : w.cell? ⟨p, i, none⟩ = cs[i]? := cell_of_row w p i cs t (0, 0) h
section
variable {Y w' w2 : World} {l0 l1 : Bool} {z0 z1 : Nat} {I R : Array Value}
end
end Go.Proofs.Ytlbfjaifemnkpaa
