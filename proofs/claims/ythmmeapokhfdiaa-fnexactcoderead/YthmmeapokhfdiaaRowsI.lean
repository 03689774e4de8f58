
/-
  A list of arrays that grows by one at its end, each with two lists in new memory.
-/
import Derived.Test.YthmmeapokhfdiaaRowsM
import Derived.Test.YthmmeapokhfdiaaAppend
namespace Go.Proofs.Ythmmeapokhfdiaa
open Go.RowKit
set_option linter.unusedVariables false
set_option linter.unusedSimpArgs false
theorem own_lt {B : Nat} {w : World} {e : TypeId} {sz : Nat} {v : Value} {n : Nat} {xs : List Value} (h : w.ownsRow B e sz v n xs) {g : Nat} (hg : v.ownBlock = some g) : g < w.heap.size := by
  obtain ⟨h1, h2⟩ := h
  rcases h2 with ⟨rfl, _⟩ | ⟨g', cap, cur, rfl, hB, hh, _⟩
  · simp [Value.ownBlock] at hg
  · simp [Value.ownBlock] at hg
    subst hg
    exact lt_of_heapA hh
theorem Piece.grown {B C : Nat} {w w' : World} {u : Value} {m : List Int} {row : Option Nat} (h : Piece B C w u m) (hg : w.grownBy w' row) (hn : ∀ g, row = some g → NotAt g u) : Piece B C w' u m := by
  obtain ⟨a, c, rfl, hle, h⟩ := h
  refine ⟨a, c, rfl, hle, ?_⟩
  rcases h with rfl | ⟨g, off, cur, t, rfl, h1, h2, hh, r⟩
  · exact .inl rfl
  · by_cases h0 : m.length = 0
    · exact .inl (List.eq_nil_of_length_eq_zero h0)
    · refine .inr ⟨g, off, cur, t, rfl, h1, h2, ?_, r⟩
      rw [hg.block g (lt_of_heapA hh) (fun e => h0 (hn g e.symm off m.length c rfl))]
      exact hh
theorem Piece.notAt {B C g : Nat} {w : World} {u : Value} {m : List Int} (h : Piece B C w u m) (hg : g < B ∨ C ≤ g) : NotAt g u := by
  obtain ⟨a, c, rfl, _, h⟩ := h
  intro off n c' e
  cases e
  rcases h with rfl | ⟨g', off, cur, t, e, h1, h2, _⟩
  · rfl
  · cases e; omega
theorem getD_app {α : Type} (xs ys : List α) (j : Nat) (d : α) : (xs ++ ys).getD j d = if j < xs.length then xs.getD j d else ys.getD (j - xs.length) d := by
  simp only [List.getD, List.getElem?_append]
  split <;> rfl
end Go.Proofs.Ythmmeapokhfdiaa
