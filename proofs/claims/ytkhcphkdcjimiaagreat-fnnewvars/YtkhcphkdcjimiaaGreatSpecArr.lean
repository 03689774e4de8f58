
/-
  Walks: the specification's ArrayOk, ArraySame, ScalarOf, VectorOf and NumAt.
-/
import Derived.Test.YtkhcphkdcjimiaaGreatArrM
import Derived.Test.YtkhcphkdcjimiaaGreatArr
import Derived.Test.YtkhcphkdcjimiaaGreatSpecPlace
namespace Go.Proofs.YtkhcphkdcjimiaaGreat
open Go.RowKit
set_option linter.unusedVariables false
set_option linter.unusedSimpArgs false
end Go.Proofs.YtkhcphkdcjimiaaGreat
