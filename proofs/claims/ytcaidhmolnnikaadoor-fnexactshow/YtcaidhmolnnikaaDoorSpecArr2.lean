
/-
  Walks: the specification's ArraySame, ScalarOf, VectorOf and NumAt.
-/
import Derived.Test.YtcaidhmolnnikaaDoorSpecArr
import Derived.Test.YtcaidhmolnnikaaDoorAppend
import Derived.OwnWalk
import Derived.Laws.ResultCell
namespace Go.Proofs.YtcaidhmolnnikaaDoor
open Go.RowKit
set_option linter.unusedVariables false
set_option linter.unusedSimpArgs false
/-- What VectorOf answers. -/
def vecOk (l : List Int) : Bool := arrOk [(l.length : Int)] l
end Go.Proofs.YtcaidhmolnnikaaDoor
