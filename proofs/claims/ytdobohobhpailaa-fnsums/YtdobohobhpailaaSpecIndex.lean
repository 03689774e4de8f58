
/-
  Walks: the specification's IndexOf, whatever list and place it is given.
-/
import Derived.Test.YtdobohobhpailaaSpecPlace
import Derived.LoopN
namespace Go.Proofs.Ytdobohobhpailaa
open Go.RowKit
set_option linter.unusedVariables false
end Go.Proofs.Ytdobohobhpailaa
