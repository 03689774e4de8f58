
/-
  Walks: what the functions of Chapter 1 on one number (program and specification) answer, whatever they are given.
-/
import Derived.Test.YtmknleholglhbaaBase
import Derived.Test.YtmknleholglhbaaMath
import Derived.Laws.EntriesVeiled
namespace Go.Proofs.Ytmknleholglhbaa
open Go.RowKit
end Go.Proofs.Ytmknleholglhbaa
