
/-
  Walks: Fun held against itself; two blocks; two lists of the same numbers.
-/
import Derived.Test.YtkhcphkdcjimiaaGreatLaw3
import Derived.Deep.RegionHeld3
import Derived.Deep.Cut
namespace Go.Proofs.YtkhcphkdcjimiaaGreat
open Go.RowKit
set_option linter.unusedVariables false
set_option linter.unusedSimpArgs false
theorem one_below {w : World} {A : Obj} : Below w.heap.size w (w.alloc A) := bAlloc (Below.refl _ _) _
theorem two_below {w : World} {A B : Obj} : Below w.heap.size w ((w.alloc A).alloc B) := bAlloc (bAlloc (Below.refl _ _) _) _
theorem two_blocks9 (w : World) (A B : Obj) : ((w.alloc A).alloc B).heap[w.heap.size]? = some A ∧ ((w.alloc A).alloc B).heap[w.heap.size + 1]? = some B := by
  have e2 := heap_alloc_new (w.alloc A) B
  simp only [World.size_alloc] at e2
  exact ⟨by rw [heap_alloc_old _ _ (by simp only [World.size_alloc]; omega)]; exact heap_alloc_new w A, e2⟩
end Go.Proofs.YtkhcphkdcjimiaaGreat
