
/-
  Walks: the specification's IndexOf, whatever list and place it is given.
-/
import Derived.Test.YtpjmnblkbejdlalSpecPlace
import Derived.LoopN
namespace Go.Proofs.Ytpjmnblkbejdlal
open Go.RowKit
set_option linter.unusedVariables false
end Go.Proofs.Ytpjmnblkbejdlal
