
/-
  Walks: the program's rowsFrom.
-/
import Derived.Test.YtbmkfmppcojcgaaImplMake5
import Derived.Test.YtbmkfmppcojcgaaMakeQ
namespace Go.Proofs.Ytbmkfmppcojcgaa
open Go.RowKit
set_option linter.unusedVariables false
set_option linter.unusedSimpArgs false
theorem cell_keep6 {w w' : World} {o : Nat} {x : Value} (h : w.cell? ⟨o, 0, none⟩ = some x) (ho : o < w.heap.size) (hb : Below w.heap.size w w') : w'.cell? ⟨o, 0, none⟩ = some x := by rw [hb.cell (p := ⟨o, 0, none⟩) ho]; exact h
theorem three5 (w : World) (A B C : Obj) :
    (((w.alloc A).alloc B).alloc C).heap[w.heap.size]? = some A ∧ (((w.alloc A).alloc B).alloc C).heap[w.heap.size + 1]? = some B ∧ (((w.alloc A).alloc B).alloc C).heap[w.heap.size + 1 + 1]? = some C := by
  have e1 := heap_alloc_new w A
  have e2 := heap_alloc_new (w.alloc A) B
  have e3 := heap_alloc_new ((w.alloc A).alloc B) C
  simp only [World.size_alloc] at e2 e3
  refine ⟨?_, ?_, e3⟩
  · rw [heap_alloc_old _ _ (by simp only [World.size_alloc]; omega), heap_alloc_old _ _ (by simp only [World.size_alloc]; omega)]; exact e1
  · rw [heap_alloc_old _ _ (by simp only [World.size_alloc]; omega)]; exact e2
end Go.Proofs.Ytbmkfmppcojcgaa
