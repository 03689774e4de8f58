
/-
  Walks: the specification's IndexOf, whatever list and place it is given.
-/
import Derived.Test.YtdcemlghnoecnaaDoorSpecPlace
import Derived.LoopN
namespace Go.Proofs.YtdcemlghnoecnaaDoor
open Go.RowKit
set_option linter.unusedVariables false
end Go.Proofs.YtdcemlghnoecnaaDoor
