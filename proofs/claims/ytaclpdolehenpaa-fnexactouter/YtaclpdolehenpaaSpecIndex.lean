
/-
  Walks: the specification's IndexOf, whatever list and place it is given.
-/
import Derived.Test.YtaclpdolehenpaaSpecPlace
import Derived.LoopN
namespace Go.Proofs.Ytaclpdolehenpaa
open Go.RowKit
set_option linter.unusedVariables false
end Go.Proofs.Ytaclpdolehenpaa
