
/-
  Walks: the program's shapes by value: the place that an index reckons to, and the index of a place.
-/
import Derived.Test.YtmmjidhpmbcoiaaExtent
namespace Go.Proofs.Ytmmjidhpmbcoiaa
open Go.RowKit
set_option linter.unusedVariables false
end Go.Proofs.Ytmmjidhpmbcoiaa
