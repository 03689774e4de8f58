
/-
  Walks: the program's shapes by value: the place that an index reckons to, and the index of a place.
-/
import Derived.Test.YtcaidhmolnnikaaDoorExtent
namespace Go.Proofs.YtcaidhmolnnikaaDoor
open Go.RowKit
set_option linter.unusedVariables false
end Go.Proofs.YtcaidhmolnnikaaDoor
