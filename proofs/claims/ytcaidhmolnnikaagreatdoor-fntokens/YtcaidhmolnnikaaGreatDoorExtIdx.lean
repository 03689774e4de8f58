
/-
  Walks: the program's shapes by value: the place that an index reckons to, and the index of a place.
-/
import Derived.Test.YtcaidhmolnnikaaGreatDoorExtent
namespace Go.Proofs.YtcaidhmolnnikaaGreatDoor
open Go.RowKit
set_option linter.unusedVariables false
end Go.Proofs.YtcaidhmolnnikaaGreatDoor
