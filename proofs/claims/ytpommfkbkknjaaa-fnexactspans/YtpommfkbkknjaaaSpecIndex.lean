
/-
  Walks: the specification's IndexOf, whatever list and place it is given.
-/
import Derived.Test.YtpommfkbkknjaaaSpecPlace
import Derived.LoopN
namespace Go.Proofs.Ytpommfkbkknjaaa
open Go.RowKit
set_option linter.unusedVariables false
end Go.Proofs.Ytpommfkbkknjaaa
