
/-
  Walks: the specification's IndexOf, whatever list and place it is given.
-/
import Derived.Test.YtmknleholglhbaaSpecPlace
import Derived.LoopN
namespace Go.Proofs.Ytmknleholglhbaa
open Go.RowKit
set_option linter.unusedVariables false
end Go.Proofs.Ytmknleholglhbaa
