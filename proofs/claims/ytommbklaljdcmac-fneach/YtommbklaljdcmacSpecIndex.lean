
/-
  Walks: the specification's IndexOf, whatever list and place it is given.
-/
import Derived.Test.YtommbklaljdcmacSpecShape
import Derived.LoopN
namespace Go.Proofs.Ytommbklaljdcmac
open Go.RowKit
set_option linter.unusedVariables false
end Go.Proofs.Ytommbklaljdcmac
