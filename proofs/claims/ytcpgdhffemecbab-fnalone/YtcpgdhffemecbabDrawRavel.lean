
/-
  The draw of Ravel's law.
-/
import Derived.Test.YtcpgdhffemecbabDrawFill3
namespace Go.Proofs.Ytcpgdhffemecbab
open Go.RowKit
set_option linter.unusedVariables false
set_option linter.unusedSimpArgs false
end Go.Proofs.Ytcpgdhffemecbab
