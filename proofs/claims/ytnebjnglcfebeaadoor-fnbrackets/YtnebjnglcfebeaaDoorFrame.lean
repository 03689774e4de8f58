/-
  How an argument of a law is read: a list of numbers, an array.
-/
import Derived.Test.YtnebjnglcfebeaaDoorArr
import Derived.ProofKit
import Derived.OpenShut
import Derived.ChangeOld
import Derived.Lib.SmallJoins
namespace Go.Proofs.YtnebjnglcfebeaaDoor
open Go.RowKit Go.ChangeShapes Go.WideShapes Go.ChangeAt
set_option linter.unusedVariables false
/-- A list of numbers that can be read. -/
def IntsI (w : World) (v : Value) (l : List Int) : Prop := ∃ a c, v = .slice a l.length c ∧ l.length ≤ c ∧ Ints w a l
theorem IntsI.keep {w w' : World} {v : Value} {l : List Int} (h : IntsI w v l) (hb : Below w.heap.size w w') : IntsI w' v l := by
  obtain ⟨a, c, rfl, hle, h⟩ := h
  exact ⟨a, c, rfl, hle, h.keep hb⟩
theorem Piece.intsI {B C : Nat} {w : World} {v : Value} {l : List Int} (h : Piece B C w v l) : IntsI w v l := h.intsC
theorem ints_of_rowB {w : World} {a : Option Addr} {len cap : Nat} {zs : List Int} (h : IsRow .i64 w a len cap zs) : ∃ l : List Int, l.length = len ∧ Ints w a l ∧ l.length ≤ 9223372036854775807 := by
  obtain ⟨l, e, hi⟩ := ints_of_row h
  refine ⟨l, e, hi, ?_⟩
  rcases h with ⟨_, rfl, _⟩ | ⟨x, _, h1, h2, _⟩
  · omega
  · unfold maxLen at h2; omega
theorem cell_ints {H : Type} {enc : TypeId × Value → H} {W : World} {base : Nat} {held : Bool} {n : Nat} {c : Value} {y : DataW H × List MemPlace} (h : DataW.trod enc Tryd.prog W base (fun _ => true) held n 65 [c] = some y) :
    ∃ l, IntsI W c l ∧ l.length ≤ 9223372036854775807 := by
  rcases open_ints Tryd.underlying65 Tryd.underlying3 (by kernel_rfl) h with ⟨hcs, _⟩ | ⟨x, l, c', zs, hcs, _, hl, hm, hz, _, hcell, hwz⟩
  · simp at hcs
    subst hcs
    exact ⟨[], ⟨_, _, rfl, by simp, .inl rfl⟩, by simp⟩
  · simp at hcs
    subst hcs
    obtain ⟨k, e, hi, hb⟩ := ints_of_rowB (w := W) (a := some x) (len := l) (cap := c') (zs := zs) (.inr ⟨_, rfl, hl, hm, by simpa using hz, hcell, hwz⟩)
    subst e
    exact ⟨k, ⟨_, _, rfl, hl, hi⟩, hb⟩
end Go.Proofs.YtnebjnglcfebeaaDoor
