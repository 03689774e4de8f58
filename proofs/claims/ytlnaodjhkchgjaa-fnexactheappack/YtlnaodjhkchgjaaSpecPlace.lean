
/-
  Walks: the specification's ShapeOk and PlaceOf, whatever lists they are given.
-/
import Derived.Test.YtlnaodjhkchgjaaSpecShape
namespace Go.Proofs.Ytlnaodjhkchgjaa
open Go.RowKit
set_option linter.unusedVariables false

end Go.Proofs.Ytlnaodjhkchgjaa
