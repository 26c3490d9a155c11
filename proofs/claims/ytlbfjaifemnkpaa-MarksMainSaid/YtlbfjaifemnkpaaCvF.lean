/- canvas: Frame, by its contract. -/
import Derived.Test.YtlbfjaifemnkpaaCvA
set_option linter.unusedVariables false
set_option linter.unusedSimpArgs false
namespace Go.Proofs.Ytlbfjaifemnkpaa
open Go.RowKit
set_option maxRecDepth 100000
structure Cp where
  d : Int
  sg : Bool
  dx : Int
  dy : Int
  A : Option Addr
  n : Nat
  cap : Nat
end Go.Proofs.Ytlbfjaifemnkpaa
