
/-
  Walks: how great a list of Expr is.
-/
import Derived.Test.YtnebjnglcfebeaaDoorTreeQ
namespace Go.Proofs.YtnebjnglcfebeaaDoor
open Go.RowKit
set_option linter.unusedVariables false
set_option linter.unusedSimpArgs false
end Go.Proofs.YtnebjnglcfebeaaDoor
