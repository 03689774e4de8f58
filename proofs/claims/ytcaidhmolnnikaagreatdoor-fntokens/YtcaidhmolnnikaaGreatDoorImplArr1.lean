
/-
  Walks: the program's helpers on lists of numbers: allRight, slices.Equal, copiedList.
-/
import Derived.Test.YtcaidhmolnnikaaGreatDoorArrM
import Derived.Test.YtcaidhmolnnikaaGreatDoorArr
import Derived.Test.YtcaidhmolnnikaaGreatDoorNumOk
import Derived.Test.YtcaidhmolnnikaaGreatDoorImplShape0
namespace Go.Proofs.YtcaidhmolnnikaaGreatDoor
open Go.RowKit
set_option linter.unusedVariables false
set_option linter.unusedSimpArgs false
end Go.Proofs.YtcaidhmolnnikaaGreatDoor
