
/-
  Walks: the specification's IndexOf, whatever list and place it is given.
-/
import Derived.Test.YtfmheanmkfdjnaqSpecShape
import Derived.LoopN
namespace Go.Proofs.Ytfmheanmkfdjnaq
open Go.RowKit
set_option linter.unusedVariables false
end Go.Proofs.Ytfmheanmkfdjnaq
