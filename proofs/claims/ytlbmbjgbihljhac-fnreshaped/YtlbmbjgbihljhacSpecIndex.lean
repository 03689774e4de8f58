
/-
  Walks: the specification's IndexOf, whatever list and place it is given.
-/
import Derived.Test.YtlbmbjgbihljhacSpecShape
import Derived.LoopN
namespace Go.Proofs.Ytlbmbjgbihljhac
open Go.RowKit
set_option linter.unusedVariables false
end Go.Proofs.Ytlbmbjgbihljhac
