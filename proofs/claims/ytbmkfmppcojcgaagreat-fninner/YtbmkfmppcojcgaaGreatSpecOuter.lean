
/-
  Walks: the specification's Outer.
-/
import Derived.Test.YtbmkfmppcojcgaaGreatSpecMake1
import Derived.Test.YtbmkfmppcojcgaaGreatSpecTwo
import Derived.Test.YtbmkfmppcojcgaaGreatSpecEach2
import Derived.Test.YtbmkfmppcojcgaaGreatOuterN
import Derived.Test.YtbmkfmppcojcgaaGreatOutB
import Derived.Deep.Cut
namespace Go.Proofs.YtbmkfmppcojcgaaGreat
open Go.RowKit
set_option linter.unusedVariables false
set_option linter.unusedSimpArgs false
theorem four7 (w : World) (A B C D : Obj) :
    ((((w.alloc A).alloc B).alloc C).alloc D).heap[w.heap.size]? = some A ∧ ((((w.alloc A).alloc B).alloc C).alloc D).heap[w.heap.size + 1]? = some B ∧ ((((w.alloc A).alloc B).alloc C).alloc D).heap[w.heap.size + 1 + 1]? = some C ∧ ((((w.alloc A).alloc B).alloc C).alloc D).heap[w.heap.size + 1 + 1 + 1]? = some D := by
  have e1 := heap_alloc_new w A
  have e2 := heap_alloc_new (w.alloc A) B
  have e3 := heap_alloc_new ((w.alloc A).alloc B) C
  have e4 := heap_alloc_new (((w.alloc A).alloc B).alloc C) D
  simp only [World.size_alloc] at e2 e3 e4
  refine ⟨?_, ?_, ?_, e4⟩
  · rw [heap_alloc_old _ _ (by simp only [World.size_alloc]; omega), heap_alloc_old _ _ (by simp only [World.size_alloc]; omega), heap_alloc_old _ _ (by simp only [World.size_alloc]; omega)]; exact e1
  · rw [heap_alloc_old _ _ (by simp only [World.size_alloc]; omega), heap_alloc_old _ _ (by simp only [World.size_alloc]; omega)]; exact e2
  · rw [heap_alloc_old _ _ (by simp only [World.size_alloc]; omega)]; exact e3
end Go.Proofs.YtbmkfmppcojcgaaGreat
