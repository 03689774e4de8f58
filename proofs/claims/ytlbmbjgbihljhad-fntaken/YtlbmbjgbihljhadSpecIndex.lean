
/-
  Walks: the specification's IndexOf, whatever list and place it is given.
-/
import Derived.Test.YtlbmbjgbihljhadSpecShape
import Derived.LoopN
namespace Go.Proofs.Ytlbmbjgbihljhad
open Go.RowKit
set_option linter.unusedVariables false
end Go.Proofs.Ytlbmbjgbihljhad
