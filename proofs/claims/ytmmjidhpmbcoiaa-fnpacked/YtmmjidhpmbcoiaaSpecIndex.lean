
/-
  Walks: the specification's IndexOf, whatever list and place it is given.
-/
import Derived.Test.YtmmjidhpmbcoiaaSpecPlace
import Derived.LoopN
namespace Go.Proofs.Ytmmjidhpmbcoiaa
open Go.RowKit
set_option linter.unusedVariables false
end Go.Proofs.Ytmmjidhpmbcoiaa
