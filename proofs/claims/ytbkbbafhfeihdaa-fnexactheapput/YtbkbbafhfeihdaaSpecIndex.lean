
/-
  Walks: the specification's IndexOf, whatever list and place it is given.
-/
import Derived.Test.YtbkbbafhfeihdaaSpecPlace
import Derived.LoopN
namespace Go.Proofs.Ytbkbbafhfeihdaa
open Go.RowKit
set_option linter.unusedVariables false
end Go.Proofs.Ytbkbbafhfeihdaa
