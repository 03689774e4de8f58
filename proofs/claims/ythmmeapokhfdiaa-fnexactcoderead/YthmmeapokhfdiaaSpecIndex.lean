
/-
  Walks: the specification's IndexOf, whatever list and place it is given.
-/
import Derived.Test.YthmmeapokhfdiaaSpecPlace
import Derived.LoopN
namespace Go.Proofs.Ythmmeapokhfdiaa
open Go.RowKit
set_option linter.unusedVariables false
end Go.Proofs.Ythmmeapokhfdiaa
