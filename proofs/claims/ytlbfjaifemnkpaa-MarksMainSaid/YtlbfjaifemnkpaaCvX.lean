/- canvas: cross, places. -/
import Derived.Test.YtlbfjaifemnkpaaCvA
import Derived.RangeFuncBox
import Derived.RangeFuncLeaves
import Derived.Shelf.Abstract
import Derived.OwnWalkIn
import Derived.TacticsInMore
import Derived.LoopNIn
import Derived.LoopIn
set_option linter.unusedVariables false
set_option linter.unusedSimpArgs false
namespace Go.Proofs.Ytlbfjaifemnkpaa
open Go.RowKit
set_option maxRecDepth 100000
def maxJ (a b : Int) : Int := if a < b then b else a
def minJ (a b : Int) : Int := if b < a then b else a
end Go.Proofs.Ytlbfjaifemnkpaa
