
/-
  Walks: the program's Outer.
-/
import Derived.Test.YtbmkfmppcojcgaaGreatImplOut1
import Derived.Test.YtbmkfmppcojcgaaGreatOuterN
import Derived.Test.YtbmkfmppcojcgaaGreatImplConcat
import Derived.Test.YtbmkfmppcojcgaaGreatPair5
namespace Go.Proofs.YtbmkfmppcojcgaaGreat
open Go.RowKit
set_option linter.unusedVariables false
set_option linter.unusedSimpArgs false
theorem box3o (w : World) (A B : Obj) (x y : Value) (T : TypeId) : Box (((w.alloc A).alloc B).alloc (.cells #[x, y] T)) (w.heap.size + 1 + 1) x y T := by
  have e := box_new ((w.alloc A).alloc B) x y T
  simp only [World.size_alloc] at e
  exact e
end Go.Proofs.YtbmkfmppcojcgaaGreat
