
/-
  Walks: the specification's Two, whatever it is given.
-/
import Derived.Test.YtdobohobhpailaaSpecOne
namespace Go.Proofs.Ytdobohobhpailaa
open Go.RowKit
end Go.Proofs.Ytdobohobhpailaa
