
/-
  The draw of one number as an array, right or not.
-/
import Derived.Test.YtdobohobhpailaaDrawTwoA
import Derived.Test.YtdobohobhpailaaZ1
namespace Go.Proofs.Ytdobohobhpailaa
open Go.RowKit
set_option linter.unusedVariables false
set_option linter.unusedSimpArgs false
/-- How an array that a call has left goes into the answer's cell. -/
theorem drawn_end {B g : Nat} {w w1 W : World} {x y : Value} {s d : List Int} (hR : w1.heap[w.heap.size]? = some (.cells #[.slice none 0 0, .slice none 0 0] 26 (0, 0))) (hg : g < w.heap.size) (h1 : But g w w1) (hA : Arr w1.heap.size W.heap.size W (.agg #[x, y]) s d) (hb : But g w1 W) (hd : DrawOk B g W) :
    W.heap[w.heap.size]? = some (.cells #[.slice none 0 0, .slice none 0 0] 26 (0, 0)) ∧
    ((W.setCell ⟨w.heap.size, 0, none⟩ x).setCell ⟨w.heap.size, 1, none⟩ y).heap[w.heap.size]? = some (.cells #[x, y] 26 (0, 0)) ∧
    Arr w.heap.size ((W.setCell ⟨w.heap.size, 0, none⟩ x).setCell ⟨w.heap.size, 1, none⟩ y).heap.size ((W.setCell ⟨w.heap.size, 0, none⟩ x).setCell ⟨w.heap.size, 1, none⟩ y) (.agg #[x, y]) s d ∧
    But g w ((W.setCell ⟨w.heap.size, 0, none⟩ x).setCell ⟨w.heap.size, 1, none⟩ y) ∧ DrawOk B g ((W.setCell ⟨w.heap.size, 0, none⟩ x).setCell ⟨w.heap.size, 1, none⟩ y) := by
  have S1 := lt_of_heapA hR
  have hR2 : W.heap[w.heap.size]? = some (.cells #[.slice none 0 0, .slice none 0 0] 26 (0, 0)) := (hb.block w.heap.size S1 (by omega)).trans hR
  obtain ⟨x', y', e, px, py, ap⟩ := hA
  cases e
  exact ⟨hR2, draw_end hR2 hg (px.mono (by omega) (Nat.le_refl _)) (py.mono (by omega) (Nat.le_refl _)) ap (h1.trans hb) hd⟩
end Go.Proofs.Ytdobohobhpailaa
