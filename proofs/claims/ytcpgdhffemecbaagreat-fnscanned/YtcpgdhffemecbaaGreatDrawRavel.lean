
/-
  The draw of Ravel's law.
-/
import Derived.Test.YtcpgdhffemecbaaGreatDrawFill3
namespace Go.Proofs.YtcpgdhffemecbaaGreat
open Go.RowKit
set_option linter.unusedVariables false
set_option linter.unusedSimpArgs false
end Go.Proofs.YtcpgdhffemecbaaGreat
