/-
  A cursor behind a new block; a list that the call itself made.
-/
import Derived.Test.YtnebjnglcfebeaaDoorDraw
namespace Go.Proofs.YtnebjnglcfebeaaDoor
open Go.RowKit
theorem DrawOk.alloc {B g : Nat} {w : World} (h : DrawOk B g w) (o : Obj) : DrawOk B g (w.alloc o) :=
  h.keep ((Below.refl _ _).alloc h.2.1 o) (Below.heap_alloc _ _ _ h.lt)
theorem nums_alloc (w : World) (l : List Int) (t : TypeId) : Nums w.heap.size l (w.alloc (.cells (l.map (Value.int .i64)).toArray t)) := by
  intro k hk
  rw [World.cell?_alloc_at _ _ _ _ rfl]
  simp [hk]
end Go.Proofs.YtnebjnglcfebeaaDoor
