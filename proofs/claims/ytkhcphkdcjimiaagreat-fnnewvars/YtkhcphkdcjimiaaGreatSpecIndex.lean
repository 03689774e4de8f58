
/-
  Walks: the specification's IndexOf, whatever list and place it is given.
-/
import Derived.Test.YtkhcphkdcjimiaaGreatSpecPlace
import Derived.LoopN
namespace Go.Proofs.YtkhcphkdcjimiaaGreat
open Go.RowKit
set_option linter.unusedVariables false
end Go.Proofs.YtkhcphkdcjimiaaGreat
