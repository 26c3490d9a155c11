/- checkSamples of package canvas, by its contract. -/
import Derived.Test.YtlbfjaifemnkpaaCvPt
import Derived.Deep.CutRange
set_option linter.unusedVariables false
set_option linter.unusedSimpArgs false
namespace Go.Proofs.Ytlbfjaifemnkpaa
open Go.RowKit
set_option maxRecDepth 100000
theorem w64_in {x : Int} (h : -9223372036854775808 ≤ x ∧ x ≤ 9223372036854775807) : wrap64 x = x := IntWalk.wrap64_in _ h
/-- The least and the greatest sample. -/
def leastF (d : Nat) (sg : Bool) : Int := if sg then -(2 : Int) ^ (d - 1) else 0
def mostF (d : Nat) (sg : Bool) : Int := if sg then (2 : Int) ^ (d - 1) - 1 else (2 : Int) ^ d - 1
end Go.Proofs.Ytlbfjaifemnkpaa
