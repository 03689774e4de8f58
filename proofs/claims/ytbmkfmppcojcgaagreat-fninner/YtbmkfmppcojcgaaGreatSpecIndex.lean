
/-
  Walks: the specification's IndexOf, whatever list and place it is given.
-/
import Derived.Test.YtbmkfmppcojcgaaGreatSpecPlace
import Derived.LoopN
namespace Go.Proofs.YtbmkfmppcojcgaaGreat
open Go.RowKit
set_option linter.unusedVariables false
end Go.Proofs.YtbmkfmppcojcgaaGreat
