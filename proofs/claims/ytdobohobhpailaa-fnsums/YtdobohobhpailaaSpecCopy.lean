
/-
  Walks: the specification's l3Copy.
-/
import Derived.Test.YtdobohobhpailaaAppend
import Derived.Test.YtdobohobhpailaaLaw3
import Derived.Deep.RegionHeld3
namespace Go.Proofs.Ytdobohobhpailaa
open Go.RowKit
set_option linter.unusedVariables false
set_option linter.unusedSimpArgs false
theorem sizeBelowE {w w' : World} (h : Below w.heap.size w w') : w.heap.size ≤ w'.heap.size := h.size
end Go.Proofs.Ytdobohobhpailaa
