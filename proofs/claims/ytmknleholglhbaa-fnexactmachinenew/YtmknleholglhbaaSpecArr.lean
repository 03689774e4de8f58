
/-
  Walks: the specification's ArrayOk, ArraySame, ScalarOf, VectorOf and NumAt.
-/
import Derived.Test.YtmknleholglhbaaArrM
import Derived.Test.YtmknleholglhbaaArr
import Derived.Test.YtmknleholglhbaaSpecPlace
namespace Go.Proofs.Ytmknleholglhbaa
open Go.RowKit
set_option linter.unusedVariables false
set_option linter.unusedSimpArgs false
end Go.Proofs.Ytmknleholglhbaa
