
/-
  Walks: slices.Backward: the numbers of a list, told one by one from its end to whatever loop asks for them.
-/
import Derived.Test.YtbmkfmppcojcgaaImplRows1
namespace Go.Proofs.Ytbmkfmppcojcgaa
open Go.RowKit Go.Shelf
set_option linter.unusedVariables false
set_option linter.unusedSimpArgs false
attribute [local go_sem] Oper.semAt_some
/-- What a round keeps: the box of the list, and the list. -/
def KeepsTwo (q b : Nat) (W W' : World) : Prop := W'.heap[q]? = W.heap[q]? ∧ W'.heap[b]? = W.heap[b]?
theorem keepsTwo_t {q b : Nat} {A B C : World} (h : KeepsTwo q b A B) (k : KeepsTwo q b B C) : KeepsTwo q b A C := ⟨k.1.trans h.1, k.2.trans h.2⟩
theorem keepsTwo_b {q b : Nat} {w : World} (hq : q < w.heap.size) (hb : b < w.heap.size) (W : World) (l : Nat) (o o' : Obj) (hl : w.heap.size ≤ l) (_ : W.heap[l]? = some o) (_ : o.isCells = false) (_ : o.isWalk = false) : KeepsTwo q b W (W.putObj l o') :=
  ⟨World.putObj_heap_other (by omega), World.putObj_heap_other (by omega)⟩
theorem cell_same {W W' : World} {b o : Nat} (h : W'.heap[b]? = W.heap[b]?) : W'.cell? ⟨b, o, none⟩ = W.cell? ⟨b, o, none⟩ := World.cell?_of_block (w := W) (w' := W') (a := ⟨b, o, none⟩) h
end Go.Proofs.Ytbmkfmppcojcgaa
