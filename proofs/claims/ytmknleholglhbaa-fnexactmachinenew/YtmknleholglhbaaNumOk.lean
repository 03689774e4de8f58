
/-
  Walks: NumOk, the program's and the specification's, whatever it is given.
-/
import Derived.Test.YtmknleholglhbaaRows
import Derived.Test.YtmknleholglhbaaMath
import Derived.WalkKit
import Derived.WalkSpells
import Derived.WalkLawsBesides
import Derived.RowKit3
import Derived.Handy
import Derived.Laws.EntriesVeiled
namespace Go.Proofs.Ytmknleholglhbaa
open Go.RowKit

end Go.Proofs.Ytmknleholglhbaa
