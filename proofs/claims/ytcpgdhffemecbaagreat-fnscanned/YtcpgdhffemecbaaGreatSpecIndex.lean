
/-
  Walks: the specification's IndexOf, whatever list and place it is given.
-/
import Derived.Test.YtcpgdhffemecbaaGreatSpecPlace
import Derived.LoopN
namespace Go.Proofs.YtcpgdhffemecbaaGreat
open Go.RowKit
set_option linter.unusedVariables false
end Go.Proofs.YtcpgdhffemecbaaGreat
