
/-
  Walks: the specification's ShapeOk and PlaceOf, whatever lists they are given.
-/
import Derived.Test.YtbkbbafhfeihdaaSpecShape
namespace Go.Proofs.Ytbkbbafhfeihdaa
open Go.RowKit
set_option linter.unusedVariables false

end Go.Proofs.Ytbkbbafhfeihdaa
