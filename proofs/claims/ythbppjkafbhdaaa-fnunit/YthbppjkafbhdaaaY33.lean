/-
  Several texts, one behind the other: ImplMake9, SpecRed, SpecMake1.
-/
import Derived.Test.YthbppjkafbhdaaaY23
import Derived.Test.YthbppjkafbhdaaaY32
import Derived.Test.YthbppjkafbhdaaaY12
import Derived.Test.YthbppjkafbhdaaaY30
import Derived.Test.YthbppjkafbhdaaaY9
import Derived.Deep.Cut
import Derived.Deep.CutRange
import Derived.Deep.LoopGhost
import Derived.Deep.RegionHeld3
import Derived.Test.YthbppjkafbhdaaaY5
import Derived.Test.YthbppjkafbhdaaaY21
import Derived.Test.YthbppjkafbhdaaaY3
namespace Go.Proofs.Ythbppjkafbhdaaa
open Go.RowKit
set_option linter.unusedVariables false
set_option linter.unusedSimpArgs false
theorem cell_keep6 {w w' : World} {o : Nat} {x : Value} (h : w.cell? ⟨o, 0, none⟩ = some x) (ho : o < w.heap.size) (hb : Below w.heap.size w w') : w'.cell? ⟨o, 0, none⟩ = some x := by rw [hb.cell (p := ⟨o, 0, none⟩) ho]; exact h
theorem three5 (w : World) (A B C : Obj) :
    (((w.alloc A).alloc B).alloc C).heap[w.heap.size]? = some A ∧ (((w.alloc A).alloc B).alloc C).heap[w.heap.size + 1]? = some B ∧ (((w.alloc A).alloc B).alloc C).heap[w.heap.size + 1 + 1]? = some C := by
  have e1 := heap_alloc_new w A
  have e2 := heap_alloc_new (w.alloc A) B
  have e3 := heap_alloc_new ((w.alloc A).alloc B) C
  simp only [World.size_alloc] at e2 e3
  refine ⟨?_, ?_, e3⟩
  · rw [heap_alloc_old _ _ (by simp only [World.size_alloc]; omega), heap_alloc_old _ _ (by simp only [World.size_alloc]; omega)]; exact e1
  · rw [heap_alloc_old _ _ (by simp only [World.size_alloc]; omega)]; exact e2
end Go.Proofs.Ythbppjkafbhdaaa
namespace Go.Proofs.Ythbppjkafbhdaaa
open Go.RowKit
set_option linter.unusedVariables false
set_option linter.unusedSimpArgs false
/-- What the loop keeps: the answer's box as it was laid, what was reckoned so far in a box of its own. -/
structure RedSt (w W : World) (q : Nat) (x y : Value) (t D : List Int) : Prop where
  r : Box W w.heap.size (.slice none 0 0) (.slice none 0 0) 26
  z : Box W q x y 26
  a : ∃ B C, Arr B C W (.agg #[x, y]) t D ∧ w.heap.size + 1 ≤ B ∧ C ≤ W.heap.size ∧ (C ≤ q ∨ q < B)
  hq : w.heap.size < q
  bl : Below w.heap.size w W
theorem RedSt.arrI {w W : World} {q : Nat} {x y : Value} {t D : List Int} (h : RedSt w W q x y t D) : ArrI W (.agg #[x, y]) t D := by
  obtain ⟨B, C, ha, _⟩ := h.a
  exact ha.arrI
theorem RedSt.put {w W W' : World} {q : Nat} {x y x' y' : Value} {t D D' : List Int} (h : RedSt w W q x y t D) (hb : Below W.heap.size W W') (ha : Arr W.heap.size W'.heap.size W' (.agg #[x', y']) t D') : RedSt w ((W'.setCell ⟨q, 0, none⟩ x').setCell ⟨q, 1, none⟩ y') q x' y' t D' := by
  have h1 := h.hq
  have h2 := h.z.lt
  have h3 := hb.size
  have h4 := h.bl.size
  have ww : Win q (q + 1) W' ((W'.setCell ⟨q, 0, none⟩ x').setCell ⟨q, 1, none⟩ y') := (win_setCell _ _ _ _).trans (win_setCell _ _ _ _)
  refine ⟨(h.r.keep hb).win ww (.inl (by omega)), arr_stored (h.z.keep hb), ⟨W.heap.size, W'.heap.size, ha.win ww (.inr (by omega)), by omega, by simp [size_setCell], .inr h2⟩, h1, (bTrans h.bl hb).trans (ww.below (by omega) (by omega))⟩
end Go.Proofs.Ythbppjkafbhdaaa
namespace Go.Proofs.Ythbppjkafbhdaaa
open Go.RowKit
set_option linter.unusedVariables false
set_option linter.unusedSimpArgs false
theorem okC_good {s d : List Int} (h : arrOk s d = true) : okC s d = 0 := by unfold okC; rw [if_pos h]
theorem okC_bad {s d : List Int} (h : ¬ arrOk s d = true) : okC s d = 1 := by unfold okC; rw [if_neg h]
/-- What l5Right makes of an array. -/
def rightR (s d : List Int) : Int × List Int × List Int := mkR (if arrOk s d = true then 0 else 6) s d
end Go.Proofs.Ythbppjkafbhdaaa
