
/-
  Walks: the specification's Iota.
-/
import Derived.Test.YtbmkfmppcojcgaaSpecMake1
import Derived.Test.YtbmkfmppcojcgaaGrow
namespace Go.Proofs.Ytbmkfmppcojcgaa
open Go.RowKit
set_option linter.unusedVariables false
set_option linter.unusedSimpArgs false
theorem blocks3 (w : World) (A B C : Obj) : (((w.alloc A).alloc B).alloc C).heap[w.heap.size]? = some A ∧ (((w.alloc A).alloc B).alloc C).heap[w.heap.size + 1]? = some B ∧ (((w.alloc A).alloc B).alloc C).heap[w.heap.size + 1 + 1]? = some C := by
  have e1 := heap_alloc_new w A
  have e2 := heap_alloc_new (w.alloc A) B
  have e3 := heap_alloc_new ((w.alloc A).alloc B) C
  simp only [World.size_alloc] at e2 e3
  refine ⟨?_, ?_, e3⟩
  · rw [heap_alloc_old _ _ (by simp only [World.size_alloc]; omega), heap_alloc_old _ _ (by simp only [World.size_alloc]; omega)]; exact e1
  · rw [heap_alloc_old _ _ (by simp only [World.size_alloc]; omega)]; exact e2
theorem one_list {d : List Int} (h : d.length = 1) : d = [d.getD 0 0] := by
  match d, h with
  | [x], _ => rfl
end Go.Proofs.Ytbmkfmppcojcgaa
