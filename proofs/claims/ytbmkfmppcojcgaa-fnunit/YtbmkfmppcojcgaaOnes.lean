
/-
  Walks: the program's One, whatever it is given.
-/
import Derived.Test.YtbmkfmppcojcgaaSmall
namespace Go.Proofs.Ytbmkfmppcojcgaa
open Go.RowKit
end Go.Proofs.Ytbmkfmppcojcgaa
