
/-
  Walks: the program's helpers on lists of numbers: allRight, slices.Equal, copiedList.
-/
import Derived.Test.YtmknleholglhbaaArrM
import Derived.Test.YtmknleholglhbaaArr
import Derived.Test.YtmknleholglhbaaNumOk
import Derived.Test.YtmknleholglhbaaImplShape0
namespace Go.Proofs.Ytmknleholglhbaa
open Go.RowKit
set_option linter.unusedVariables false
set_option linter.unusedSimpArgs false
end Go.Proofs.Ytmknleholglhbaa
