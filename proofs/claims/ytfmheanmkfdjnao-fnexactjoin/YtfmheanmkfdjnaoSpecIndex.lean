
/-
  Walks: the specification's IndexOf, whatever list and place it is given.
-/
import Derived.Test.YtfmheanmkfdjnaoSpecShape
import Derived.LoopN
namespace Go.Proofs.Ytfmheanmkfdjnao
open Go.RowKit
set_option linter.unusedVariables false
end Go.Proofs.Ytfmheanmkfdjnao
