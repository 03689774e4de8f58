
/-
  Walks: the specification's IndexOf, whatever list and place it is given.
-/
import Derived.Test.YtommbklaljdcmanSpecPlace
import Derived.LoopN
namespace Go.Proofs.Ytommbklaljdcman
open Go.RowKit
set_option linter.unusedVariables false
end Go.Proofs.Ytommbklaljdcman
