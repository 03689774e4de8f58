
/-
  How an argument of a law is read: a list of numbers, an array.
-/
import Derived.Test.YtnclnnkkkofjaaaDoorArr
import Derived.ProofKit
import Derived.OpenShut
import Derived.ChangeOld
import Derived.Lib.SmallJoins
namespace Go.Proofs.YtnclnnkkkofjaaaDoor
open Go.RowKit Go.ChangeShapes Go.WideShapes Go.ChangeAt
set_option linter.unusedVariables false
/-- A list of numbers that can be read. -/
def IntsI (w : World) (v : Value) (l : List Int) : Prop := ∃ a c, v = .slice a l.length c ∧ l.length ≤ c ∧ Ints w a l
theorem IntsI.keep {w w' : World} {v : Value} {l : List Int} (h : IntsI w v l) (hb : Below w.heap.size w w') : IntsI w' v l := by
  obtain ⟨a, c, rfl, hle, h⟩ := h
  exact ⟨a, c, rfl, hle, h.keep hb⟩
theorem Piece.intsI {B C : Nat} {w : World} {v : Value} {l : List Int} (h : Piece B C w v l) : IntsI w v l := h.intsC
theorem ints_of_rowB {w : World} {a : Option Addr} {len cap : Nat} {zs : List Int} (h : IsRow .i64 w a len cap zs) : ∃ l : List Int, l.length = len ∧ Ints w a l ∧ l.length ≤ 9223372036854775807 := by
  obtain ⟨l, e, hi⟩ := ints_of_row h
  refine ⟨l, e, hi, ?_⟩
  rcases h with ⟨_, rfl, _⟩ | ⟨x, _, h1, h2, _⟩
  · omega
  · unfold maxLen at h2; omega
end Go.Proofs.YtnclnnkkkofjaaaDoor
