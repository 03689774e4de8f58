
/-
  Walks: lists of tokens compared, marked and looked at.
-/
import Derived.Test.YtcaidhmolnnikaaGreatDoorTokQ
import Derived.Test.YtcaidhmolnnikaaGreatDoorLaw3
import Derived.Deep.RegionHeld3
namespace Go.Proofs.YtcaidhmolnnikaaGreatDoor
open Go.RowKit
set_option linter.unusedVariables false
set_option linter.unusedSimpArgs false
/-- Marked from k0 on. -/
def mkS (k0 : Int) : Nat → Spn := fun i => ⟨k0 + 2 * i, k0 + 2 * i + 1⟩
end Go.Proofs.YtcaidhmolnnikaaGreatDoor
