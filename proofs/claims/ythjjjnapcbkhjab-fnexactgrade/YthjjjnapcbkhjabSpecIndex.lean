
/-
  Walks: the specification's IndexOf, whatever list and place it is given.
-/
import Derived.Test.YthjjjnapcbkhjabSpecPlace
import Derived.LoopN
namespace Go.Proofs.Ythjjjnapcbkhjab
open Go.RowKit
set_option linter.unusedVariables false
end Go.Proofs.Ythjjjnapcbkhjab
