
/-
  Walks: the specification's ShapeOk and PlaceOf, whatever lists they are given.
-/
import Derived.Test.YtkhcphkdcjimiaaGreatSpecShape
namespace Go.Proofs.YtkhcphkdcjimiaaGreat
open Go.RowKit
set_option linter.unusedVariables false

end Go.Proofs.YtkhcphkdcjimiaaGreat
