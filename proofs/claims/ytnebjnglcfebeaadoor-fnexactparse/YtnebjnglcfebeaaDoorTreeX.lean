
/-
  Walks: a tree copied into memory of its own; marked; boxes of one cell.
-/
import Derived.Test.YtnebjnglcfebeaaDoorTreeK
import Derived.Test.YtnebjnglcfebeaaDoorTreeV
namespace Go.Proofs.YtnebjnglcfebeaaDoor
open Go.RowKit
set_option linter.unusedVariables false
set_option linter.unusedSimpArgs false
/-- A block of one cell. -/
def Box1 (w : World) (g : Nat) (x : Value) (t : TypeId) : Prop := w.heap[g]? = some (.cells #[x] t (0, 0))
section
variable {w w' : World} {g B C : Nat} {x : Value} {t : TypeId}
theorem Box1.lt (h : Box1 w g x t) : g < w.heap.size := lt_of_heapA h
theorem Box1.keep (h : Box1 w g x t) (hb : Below w.heap.size w w') : Box1 w' g x t := by unfold Box1; rw [hb.block g h.lt]; exact h
theorem Box1.win (h : Box1 w g x t) (hw : Win B C w w') (hd : g < B ∨ C ≤ g) : Box1 w' g x t := by unfold Box1; rw [hw.block g h.lt hd]; exact h
theorem Box1.c0 (h : Box1 w g x t) : w.cell? ⟨g, 0, none⟩ = some x := cell_at h rfl
theorem box1_new (w : World) (x : Value) (t : TypeId) : Box1 (w.alloc (.cells #[x] t)) w.heap.size x t := heap_alloc_new w _
end
set_option maxRecDepth 20000 in
set_option maxHeartbeats 4000000 in
/-- A tree is marked. -/
theorem markTree_at {o hi n : Nat} {w : World} {E : Nat → Nat → Int} {N : Nat → List Int} (h : OwnExprsI o hi n n w E N) (hl : ∀ i, (N i).length ≤ 1048576) (hn : n ≤ 1048576) (k0 : Int) (p1 : 0 ≤ k0) (p2 : k0 ≤ 1099511627776) :
    Calls Tryd.prog 12 #[.agg #[.slice (some ⟨o, 0, none⟩) n n], .int .i64 k0] w fun e w' => e = .returned (.int .i64 (k0 + (totN 6 N n : Int))) ∧ Win o hi w w' := by
  have CM : Hid (Calls Tryd.prog 26 #[.slice (some ⟨o, 0, none⟩) n n, .int .i64 k0] (w.alloc (.cells #[.slice (some ⟨o, 0, none⟩) n n] 26)) fun e w' => e = .returned (.int .i64 (k0 + (totN 6 N n : Int))) ∧ Win o hi w w') := by
    refine (markExprS_at (h.keep one_below) hl hn k0 p1 p2).mono ?_
    rintro e w' ⟨rfl, _, hw⟩
    exact ⟨rfl, Win.trans (Below.win one_below) hw⟩
  clear h hl
  generalize totN 6 N n = z at *
  go_enter Tryd.func12, Tryd.ntmps12
  go_wp2_with fail
  refine CM.out.mono ?_
  rintro r w2 ⟨rfl, hw⟩
  have HW : Hid (Win o hi w w2) := hw
  clear hw CM
  go_wp2
  go_ret
  exact ⟨rfl, HW.out⟩
end Go.Proofs.YtnebjnglcfebeaaDoor
