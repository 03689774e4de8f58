
/-
  Walks: the specification's ShapeOk and PlaceOf, whatever lists they are given.
-/
import Derived.Test.YtmmjidhpmbcoiaaSpecShape
namespace Go.Proofs.Ytmmjidhpmbcoiaa
open Go.RowKit
set_option linter.unusedVariables false

end Go.Proofs.Ytmmjidhpmbcoiaa
