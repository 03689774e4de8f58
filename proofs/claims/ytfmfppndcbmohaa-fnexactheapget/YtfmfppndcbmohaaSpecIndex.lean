
/-
  Walks: the specification's IndexOf, whatever list and place it is given.
-/
import Derived.Test.YtfmfppndcbmohaaSpecPlace
import Derived.LoopN
namespace Go.Proofs.Ytfmfppndcbmohaa
open Go.RowKit
set_option linter.unusedVariables false
end Go.Proofs.Ytfmfppndcbmohaa
