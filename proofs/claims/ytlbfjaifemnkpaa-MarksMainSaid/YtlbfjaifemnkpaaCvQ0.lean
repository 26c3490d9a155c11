/- canvas: what the laws share: tiles both ways, bounds of rectangles. -/
import Derived.Test.YtlbfjaifemnkpaaCvMk
import Derived.Test.YtlbfjaifemnkpaaCvN2
import Derived.Test.YtlbfjaifemnkpaaCvC
import Derived.Test.YtlbfjaifemnkpaaCvM7
import Derived.Test.YtlbfjaifemnkpaaAnyRk
import Derived.Test.YtlbfjaifemnkpaaCvM2
import Derived.Test.YtlbfjaifemnkpaaCvF
import Derived.Deep.CutRange
import Derived.Deep.CutBlock
import Derived.Deep.LoopGhost
set_option linter.unusedVariables false
set_option linter.unusedSimpArgs false
namespace Go.Proofs.Ytlbfjaifemnkpaa
open Go.RowKit
set_option maxRecDepth 100000
theorem IsRow.below {k : IntKind} {w w' : World} {a : Option Addr} {len cap : Nat} {zs : List Int} (h : IsRow k w a len cap zs) (hb : Below w.heap.size w w') : IsRow k w' a len cap zs := by
  rcases h with h | ⟨x, h1, h2, h3, h4, h5, h6⟩
  · exact Or.inl h
  · refine Or.inr ⟨x, h1, h2, h3, h4, fun i hi => ?_, h6⟩
    exact (hb.cell (World.block_lt_of_cell? w _ (h5 i hi))).trans (h5 i hi)
end Go.Proofs.Ytlbfjaifemnkpaa
