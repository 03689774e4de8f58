
/-
  Walks: the specification's ShapeOk and PlaceOf, whatever lists they are given.
-/
import Derived.Test.YtpmcipnookjmgaaSpecShape
namespace Go.Proofs.Ytpmcipnookjmgaa
open Go.RowKit
set_option linter.unusedVariables false

end Go.Proofs.Ytpmcipnookjmgaa
