
/-
  Walks: the specification's IndexOf, whatever list and place it is given.
-/
import Derived.Test.YtcpgdhffemecbaaSpecPlace
import Derived.LoopN
namespace Go.Proofs.Ytcpgdhffemecbaa
open Go.RowKit
set_option linter.unusedVariables false
end Go.Proofs.Ytcpgdhffemecbaa
