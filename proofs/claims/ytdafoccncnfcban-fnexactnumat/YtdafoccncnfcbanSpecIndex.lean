
/-
  Walks: the specification's IndexOf, whatever list and place it is given.
-/
import Derived.Test.YtdafoccncnfcbanSpecPlace
import Derived.LoopN
namespace Go.Proofs.Ytdafoccncnfcban
open Go.RowKit
set_option linter.unusedVariables false
end Go.Proofs.Ytdafoccncnfcban
