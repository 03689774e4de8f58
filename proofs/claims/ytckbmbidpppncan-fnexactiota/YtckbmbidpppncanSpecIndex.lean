
/-
  Walks: the specification's IndexOf, whatever list and place it is given.
-/
import Derived.Test.YtckbmbidpppncanSpecPlace
import Derived.LoopN
namespace Go.Proofs.Ytckbmbidpppncan
open Go.RowKit
set_option linter.unusedVariables false
end Go.Proofs.Ytckbmbidpppncan
