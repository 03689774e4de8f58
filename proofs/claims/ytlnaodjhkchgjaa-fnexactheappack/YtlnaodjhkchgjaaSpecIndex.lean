
/-
  Walks: the specification's IndexOf, whatever list and place it is given.
-/
import Derived.Test.YtlnaodjhkchgjaaSpecPlace
import Derived.LoopN
namespace Go.Proofs.Ytlnaodjhkchgjaa
open Go.RowKit
set_option linter.unusedVariables false
end Go.Proofs.Ytlnaodjhkchgjaa
