
/-
  Walks: the specification's ShapeOk and PlaceOf, whatever lists they are given.
-/
import Derived.Test.YtpefeloajnopdaaSpecShape
namespace Go.Proofs.Ytpefeloajnopdaa
open Go.RowKit
set_option linter.unusedVariables false

end Go.Proofs.Ytpefeloajnopdaa
