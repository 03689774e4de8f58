
/-
  Walks: the specification's draws of lists and numbers for arrays (l1Size, DrawScalarOf, DrawVectorOf).
-/
import Derived.Test.YtcaidhmolnnikaaDoorDraws
import Derived.Test.YtcaidhmolnnikaaDoorDrawShape
namespace Go.Proofs.YtcaidhmolnnikaaDoor
open Go.RowKit
set_option linter.unusedVariables false
set_option linter.unusedSimpArgs false
theorem srcKeep {w w' : World} {a : Option Addr} {len : Nat} (h : Src w.heap.size w a len) (hb : Below w.heap.size w w') : Src w'.heap.size w' a len := by
  obtain ⟨h1, h2⟩ := h.keep hb
  refine ⟨h1, ?_⟩
  rcases h2 with h2 | ⟨b, off, e, hB, hc⟩
  · exact .inl h2
  · exact .inr ⟨b, off, e, Nat.lt_of_lt_of_le hB hb.size, hc⟩
end Go.Proofs.YtcaidhmolnnikaaDoor
