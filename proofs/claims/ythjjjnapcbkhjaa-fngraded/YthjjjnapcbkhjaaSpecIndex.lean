
/-
  Walks: the specification's IndexOf, whatever list and place it is given.
-/
import Derived.Test.YthjjjnapcbkhjaaSpecPlace
import Derived.LoopN
namespace Go.Proofs.Ythjjjnapcbkhjaa
open Go.RowKit
set_option linter.unusedVariables false
end Go.Proofs.Ythjjjnapcbkhjaa
