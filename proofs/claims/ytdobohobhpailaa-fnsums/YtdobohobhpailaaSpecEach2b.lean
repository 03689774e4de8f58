
/-
  Walks: the specification's EachTwo, as a whole.
-/
import Derived.Test.YtdobohobhpailaaSpecEach2
namespace Go.Proofs.Ytdobohobhpailaa
open Go.RowKit
set_option linter.unusedVariables false
set_option linter.unusedSimpArgs false
end Go.Proofs.Ytdobohobhpailaa
