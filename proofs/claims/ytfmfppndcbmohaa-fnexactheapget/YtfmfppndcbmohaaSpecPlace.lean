
/-
  Walks: the specification's ShapeOk and PlaceOf, whatever lists they are given.
-/
import Derived.Test.YtfmfppndcbmohaaSpecShape
namespace Go.Proofs.Ytfmfppndcbmohaa
open Go.RowKit
set_option linter.unusedVariables false

end Go.Proofs.Ytfmfppndcbmohaa
