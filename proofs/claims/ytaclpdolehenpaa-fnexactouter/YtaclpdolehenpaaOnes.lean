
/-
  Walks: the program's One, whatever it is given.
-/
import Derived.Test.YtaclpdolehenpaaSmall
namespace Go.Proofs.Ytaclpdolehenpaa
open Go.RowKit
end Go.Proofs.Ytaclpdolehenpaa
