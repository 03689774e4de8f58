
/-
  Walks: the specification's ShapeOk and PlaceOf, whatever lists they are given.
-/
import Derived.Test.YtmlncpplkhlnfaaSpecShape
namespace Go.Proofs.Ytmlncpplkhlnfaa
open Go.RowKit
set_option linter.unusedVariables false

end Go.Proofs.Ytmlncpplkhlnfaa
