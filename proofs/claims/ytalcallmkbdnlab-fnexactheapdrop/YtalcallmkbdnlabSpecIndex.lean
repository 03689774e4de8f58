
/-
  Walks: the specification's IndexOf, whatever list and place it is given.
-/
import Derived.Test.YtalcallmkbdnlabSpecPlace
import Derived.LoopN
namespace Go.Proofs.Ytalcallmkbdnlab
open Go.RowKit
set_option linter.unusedVariables false
end Go.Proofs.Ytalcallmkbdnlab
