
/-
  Walks: the program's ArrayOk, ArraySame, ScalarOf, VectorOf.
-/
import Derived.Test.YtmknleholglhbaaImplArr1
import Derived.Test.YtmknleholglhbaaImplArr2
import Derived.Test.YtmknleholglhbaaImplShape
import Derived.Test.YtmknleholglhbaaSpecArr2
namespace Go.Proofs.Ytmknleholglhbaa
open Go.RowKit
set_option linter.unusedVariables false
set_option linter.unusedSimpArgs false
theorem arrOk_one (x : Int) : arrOk [] [x] = ok x := by simp [arrOk, sizeV_0']
end Go.Proofs.Ytmknleholglhbaa
