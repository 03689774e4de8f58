
/-
  Walks: the specification's IndexOf, whatever list and place it is given.
-/
import Derived.Test.YtcpgdhffemecbabSpecPlace
import Derived.LoopN
namespace Go.Proofs.Ytcpgdhffemecbab
open Go.RowKit
set_option linter.unusedVariables false
end Go.Proofs.Ytcpgdhffemecbab
