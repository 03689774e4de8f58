
/-
  Walks: the specification's IndexOf, whatever list and place it is given.
-/
import Derived.Test.YtfmheanmkfdjnacSpecShape
import Derived.LoopN
namespace Go.Proofs.Ytfmheanmkfdjnac
open Go.RowKit
set_option linter.unusedVariables false
end Go.Proofs.Ytfmheanmkfdjnac
