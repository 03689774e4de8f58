
/-
  Walks: the specification's IndexOf, whatever list and place it is given.
-/
import Derived.Test.YtpefeloajnopdaaSpecPlace
import Derived.LoopN
namespace Go.Proofs.Ytpefeloajnopdaa
open Go.RowKit
set_option linter.unusedVariables false
end Go.Proofs.Ytpefeloajnopdaa
