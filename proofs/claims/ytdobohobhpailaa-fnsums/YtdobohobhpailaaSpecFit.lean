
/-
  Walks: the specification's Fit and l4Of.
-/
import Derived.Test.YtdobohobhpailaaEachP
import Derived.Test.YtdobohobhpailaaSpecArr
import Derived.Test.YtdobohobhpailaaAppend
namespace Go.Proofs.Ytdobohobhpailaa
open Go.RowKit
set_option linter.unusedVariables false
set_option linter.unusedSimpArgs false
theorem fitC_bad {s d t e : List Int} (h : ¬ (arrOk s d = true ∧ arrOk t e = true)) : fitC s d t e = 1 := by unfold fitC; rw [if_neg h]
end Go.Proofs.Ytdobohobhpailaa
