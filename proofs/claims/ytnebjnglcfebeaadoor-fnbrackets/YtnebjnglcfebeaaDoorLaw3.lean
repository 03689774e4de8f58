
/-
  What a law's walk carries: boxes (a local array lies in a block of two cells), lists in memory of their own.
-/
import Derived.Test.YtnebjnglcfebeaaDoorFrame
import Derived.RegionTactic
import Derived.Deep.RegionWith
import Derived.Deep.RegionHeld3
namespace Go.Proofs.YtnebjnglcfebeaaDoor
open Go.RowKit
set_option linter.unusedVariables false
set_option linter.unusedSimpArgs false
/-- A block of two cells. -/
def Box (w : World) (g : Nat) (x y : Value) (t : TypeId) : Prop := w.heap[g]? = some (.cells #[x, y] t (0, 0))
theorem Box.keep {w w' : World} {g : Nat} {x y : Value} {t : TypeId} (h : Box w g x y t) (hb : Below w.heap.size w w') : Box w' g x y t := by
  unfold Box at *; rw [hb.block g (lt_of_heapA h)]; exact h
theorem Box.win {B C : Nat} {w w' : World} {g : Nat} {x y : Value} {t : TypeId} (h : Box w g x y t) (hw : Win B C w w') (hd : g < B ∨ C ≤ g) : Box w' g x y t := by
  unfold Box at *; rw [hw.block g (lt_of_heapA h) hd]; exact h
theorem box_new (w : World) (x y : Value) (t : TypeId) : Box (w.alloc (.cells #[x, y] t)) w.heap.size x y t := heap_alloc_new w _
theorem Box.c0 {w : World} {g : Nat} {x y : Value} {t : TypeId} (h : Box w g x y t) : w.cell? ⟨g, 0, none⟩ = some x := cell_at h rfl
theorem Box.c1 {w : World} {g : Nat} {x y : Value} {t : TypeId} (h : Box w g x y t) : w.cell? ⟨g, 1, none⟩ = some y := cell_at h rfl
theorem Box.lt {w : World} {g : Nat} {x y : Value} {t : TypeId} (h : Box w g x y t) : g < w.heap.size := lt_of_heapA h
theorem szV_big {n : Nat} {left : Int} (h : left < n) : szV n left = -1 := by unfold szV; rw [if_pos (by omega)]
theorem szV_small {n : Nat} {left : Int} (h : n ≤ left) : szV n left = left - n := by unfold szV; rw [if_neg (by omega)]
theorem ne_same (b : Bool) : (b != b) = false := by cases b <;> rfl
theorem box_new2 (w : World) (A : Obj) (x y : Value) (t : TypeId) : Box ((w.alloc A).alloc (.cells #[x, y] t)) (w.heap.size + 1) x y t := heap_alloc2_new w _ _
theorem eq_listI {w : World} {v u : Value} {l : List Int} (h : IntsI w v l) (k : IntsI w u l) (hl : l.length ≤ 1048576) :
    Calls Tryd.prog 69 #[v, u] w fun e w' => e = .returned (.bool true) ∧ Below w.heap.size w w' := by
  obtain ⟨a, c, rfl, _, i⟩ := h
  obtain ⟨b, d, rfl, _, j⟩ := k
  refine (eq_ints c d (by omega) i j).mono ?_
  rintro e w' ⟨rfl, n, rfl⟩
  exact ⟨by simp, bDrewN (Below.refl _ _) n⟩
theorem mark_listI {B C : Nat} {w : World} {v : Value} {l : List Int} (h : Piece B C w v l) (hn : l.length ≤ 1048576) (k0 : Int) (p1 : 0 ≤ k0) (p2 : k0 ≤ 1073741824) :
    Calls Tryd.prog 44 #[v, .int .i64 k0] w fun e w' => e = .returned (.int .i64 (k0 + l.length)) ∧ Piece B C w' v (upFrom k0 l.length) ∧ Win B C w w' := by
  refine (mark_piece h hn k0 p1 (by omega)).mono ?_
  rintro e w' ⟨rfl, q1, q2⟩
  exact ⟨rfl, q1, q2.win h⟩
theorem held_listI {B C n : Nat} {w : World} {v : Value} (k0 : Int) (h : Piece B C w v (upFrom k0 n)) (hn : n ≤ 1048576) (p1 : 0 ≤ k0) (p2 : k0 ≤ 1073741824) :
    Calls Tryd.prog 45 #[v, .int .i64 k0] w fun e w' => e = .returned (.int .i64 (k0 + n)) ∧ Below w.heap.size w w' := by
  refine (held_piece k0 h hn p1 (by omega)).mono ?_
  rintro e w' ⟨rfl, rfl⟩
  exact ⟨rfl, Below.refl _ _⟩
end Go.Proofs.YtnebjnglcfebeaaDoor
