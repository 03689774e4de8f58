
/-
  Walks: the specification's ShapeOk and PlaceOf, whatever lists they are given.
-/
import Derived.Test.YtnkajokecfalnaaSpecShape
namespace Go.Proofs.Ytnkajokecfalnaa
open Go.RowKit
set_option linter.unusedVariables false

end Go.Proofs.Ytnkajokecfalnaa
