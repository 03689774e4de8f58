
/-
  Walks: the specification's IndexOf, whatever list and place it is given.
-/
import Derived.Test.YtmlncpplkhlnfaaSpecPlace
import Derived.LoopN
namespace Go.Proofs.Ytmlncpplkhlnfaa
open Go.RowKit
set_option linter.unusedVariables false
end Go.Proofs.Ytmlncpplkhlnfaa
