
/-
  Walks: the specification's IndexOf, whatever list and place it is given.
-/
import Derived.Test.YtbmkfmppcojcgaaSpecPlace
import Derived.LoopN
namespace Go.Proofs.Ytbmkfmppcojcgaa
open Go.RowKit
set_option linter.unusedVariables false
end Go.Proofs.Ytbmkfmppcojcgaa
