
/-
  Walks: the specification's IndexOf, whatever list and place it is given.
-/
import Derived.Test.YtckbmbidpppncaoSpecPlace
import Derived.LoopN
namespace Go.Proofs.Ytckbmbidpppncao
open Go.RowKit
set_option linter.unusedVariables false
end Go.Proofs.Ytckbmbidpppncao
