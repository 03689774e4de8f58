/-
  Several texts, one behind the other: SpecEach2, SpecEach2b, SpecCopy.
-/
import Derived.Test.YthbppjkafbhdaaaY8
import Derived.Deep.AppendLies
import Derived.Deep.RegionHeld3
import Derived.Test.YthbppjkafbhdaaaY7
import Derived.Test.YthbppjkafbhdaaaY3
namespace Go.Proofs.Ythbppjkafbhdaaa
open Go.RowKit
set_option linter.unusedVariables false
set_option linter.unusedSimpArgs false
theorem eachTwo_bad {g : Int} {s d t e : List Int} (h : eachTwoC g s d t e ≠ 0) : eachTwoS g s d t e = [] ∧ eachTwoD g s d t e = [] := by
  unfold eachTwoS eachTwoD; rw [if_neg h, if_neg h]; exact ⟨rfl, rfl⟩
theorem eachTwo_good {g : Int} {s d t e : List Int} (h : eachTwoC g s d t e = 0) : eachTwoS g s d t e = fitS s d t e ∧ eachTwoD g s d t e = (List.range (eachN s d t e)).map (fun i => (twoV g (numOf s d i) (numOf t e i)).1) := by
  unfold eachTwoS eachTwoD; rw [if_pos h, if_pos h]; exact ⟨rfl, rfl⟩
/-- Three blocks of two cells, one behind the other. -/
theorem box3 (w : World) (A B : Obj) (x y : Value) (t : TypeId) : Box (((w.alloc A).alloc B).alloc (.cells #[x, y] t)) (w.heap.size + 1 + 1) x y t := by
  have := box_new2 (w.alloc A) B x y t
  simpa using this
theorem boxSetE {w : World} {q : Nat} {x y : Value} {t : TypeId} (h : Box w q x y t) (y' : Value) : Box (w.setCell ⟨q, 1, none⟩ y') q x y' t := by
  have := heap_setCell_same w q 1 _ _ y' h
  unfold Box; simpa using this
theorem boxGrownE {w w' : World} {q : Nat} {x y : Value} {t : TypeId} {row : Option Nat} (h : Box w q x y t) (hg : w.grownBy w' row) (hr : ∀ k, row = some k → q < k) : Box w' q x y t := by
  unfold Box at *; rw [hg.block q (lt_of_heapA h) (fun e => by have := hr q e.symm; omega)]; exact h
theorem below_grown {B : Nat} {a w w' : World} {row : Option Nat} (h : Below B a w) (hg : w.grownBy w' row) (hr : ∀ k, row = some k → B ≤ k) (hB : B ≤ w.heap.size) : Below B a w' :=
  ⟨hg.os.trans h.os, hg.tape.trans h.tape, hg.output.trans h.output, Nat.le_trans h.size hg.size, fun k hk => (hg.block k (by omega) (fun e => by have := hr k e.symm; omega)).trans (h.block k hk)⟩
/-- EachTwo, where nothing stands in its way at first. -/
structure TwoAt (w : World) (zb : Nat) (W0 wr : World) (sv : Value) (m : List Int) (dv : Value) : Prop where
  box : Box wr zb sv dv 26
  row : NewInts (zb + 1) wr dv m
  below : Below zb W0 wr
  lt : zb < wr.heap.size
end Go.Proofs.Ythbppjkafbhdaaa
namespace Go.Proofs.Ythbppjkafbhdaaa
open Go.RowKit
set_option linter.unusedVariables false
set_option linter.unusedSimpArgs false
end Go.Proofs.Ythbppjkafbhdaaa
namespace Go.Proofs.Ythbppjkafbhdaaa
open Go.RowKit
set_option linter.unusedVariables false
set_option linter.unusedSimpArgs false
theorem sizeBelowE {w w' : World} (h : Below w.heap.size w w') : w.heap.size ≤ w'.heap.size := h.size
end Go.Proofs.Ythbppjkafbhdaaa
