
/-
  Walks: the specification's ShapeOf, Ravel, l5Vector, l5Right.
-/
import Derived.Test.YtbmkfmppcojcgaaGreatMakeM
import Derived.Test.YtbmkfmppcojcgaaGreatSpecArr2
import Derived.Test.YtbmkfmppcojcgaaGreatLaw3
namespace Go.Proofs.YtbmkfmppcojcgaaGreat
open Go.RowKit
set_option linter.unusedVariables false
set_option linter.unusedSimpArgs false
theorem okC_good {s d : List Int} (h : arrOk s d = true) : okC s d = 0 := by unfold okC; rw [if_pos h]
theorem okC_bad {s d : List Int} (h : ¬ arrOk s d = true) : okC s d = 1 := by unfold okC; rw [if_neg h]
/-- What l5Right makes of an array. -/
def rightR (s d : List Int) : Int × List Int × List Int := mkR (if arrOk s d = true then 0 else 6) s d
end Go.Proofs.YtbmkfmppcojcgaaGreat
