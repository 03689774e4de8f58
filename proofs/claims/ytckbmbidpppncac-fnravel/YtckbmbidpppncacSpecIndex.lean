
/-
  Walks: the specification's IndexOf, whatever list and place it is given.
-/
import Derived.Test.YtckbmbidpppncacSpecPlace
import Derived.LoopN
namespace Go.Proofs.Ytckbmbidpppncac
open Go.RowKit
set_option linter.unusedVariables false
end Go.Proofs.Ytckbmbidpppncac
