
/-
  Walks: the specification's IndexOf, whatever list and place it is given.
-/
import Derived.Test.YtnkajokecfalnaaSpecPlace
import Derived.LoopN
namespace Go.Proofs.Ytnkajokecfalnaa
open Go.RowKit
set_option linter.unusedVariables false
end Go.Proofs.Ytnkajokecfalnaa
