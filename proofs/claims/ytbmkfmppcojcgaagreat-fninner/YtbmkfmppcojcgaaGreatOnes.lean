
/-
  Walks: the program's One, whatever it is given.
-/
import Derived.Test.YtbmkfmppcojcgaaGreatSmall
namespace Go.Proofs.YtbmkfmppcojcgaaGreat
open Go.RowKit
end Go.Proofs.YtbmkfmppcojcgaaGreat
