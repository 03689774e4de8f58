
/-
  Walks: the specification's functions on shapes (SizeOf, ShapeOk, ..), whatever list they are given.
-/
import Derived.Test.YtcaidhmolnnikaaGreatDoorSmall
import Derived.Test.YtcaidhmolnnikaaGreatDoorInts
import Derived.Test.YtcaidhmolnnikaaGreatDoorShapeM
namespace Go.Proofs.YtcaidhmolnnikaaGreatDoor
open Go.RowKit
set_option linter.unusedVariables false
theorem ret_num {a b : Int} (h : a = b) : Ending.returned (.int .i64 a) = .returned (.int .i64 b) := by rw [h]
end Go.Proofs.YtcaidhmolnnikaaGreatDoor
