
/-
  Walks: the specification's IndexOf, whatever list and place it is given.
-/
import Derived.Test.YtpmcipnookjmgaaSpecPlace
import Derived.LoopN
namespace Go.Proofs.Ytpmcipnookjmgaa
open Go.RowKit
set_option linter.unusedVariables false
end Go.Proofs.Ytpmcipnookjmgaa
