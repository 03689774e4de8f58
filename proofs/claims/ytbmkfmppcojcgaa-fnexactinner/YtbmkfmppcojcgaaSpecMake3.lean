
/-
  Walks: the specification's Reshape.
-/
import Derived.Test.YtbmkfmppcojcgaaSpecMake2
namespace Go.Proofs.Ytbmkfmppcojcgaa
open Go.RowKit
set_option linter.unusedVariables false
set_option linter.unusedSimpArgs false
theorem blocks4 (w : World) (A B C D : Obj) : ((((w.alloc A).alloc B).alloc C).alloc D).heap[w.heap.size]? = some A ∧ ((((w.alloc A).alloc B).alloc C).alloc D).heap[w.heap.size + 1]? = some B ∧ ((((w.alloc A).alloc B).alloc C).alloc D).heap[w.heap.size + 1 + 1]? = some C ∧ ((((w.alloc A).alloc B).alloc C).alloc D).heap[w.heap.size + 1 + 1 + 1]? = some D := by
  have q := blocks3 w A B C
  have e4 := heap_alloc_new (((w.alloc A).alloc B).alloc C) D
  simp only [World.size_alloc] at e4
  refine ⟨?_, ?_, ?_, e4⟩
  · rw [heap_alloc_old _ _ (by simp only [World.size_alloc]; omega)]; exact q.1
  · rw [heap_alloc_old _ _ (by simp only [World.size_alloc]; omega)]; exact q.2.1
  · rw [heap_alloc_old _ _ (by simp only [World.size_alloc]; omega)]; exact q.2.2
theorem againD_succ (e : List Int) (k : Nat) : againD e k ++ [if e = [] then 0 else e.getD (k % e.length) 0] = againD e (k + 1) := by
  unfold againD; rw [List.range_succ]; simp
theorem any_take {d : List Int} {k : Nat} (h : (d.take k).any (fun x => decide (x < 0)) = false) (hk : k < d.length) (hx : ¬ d.getD k 0 < 0) : (d.take (k + 1)).any (fun x => decide (x < 0)) = false := by
  rw [take_snoc hk, List.any_append, h]
  simpa using hx
end Go.Proofs.Ytbmkfmppcojcgaa
