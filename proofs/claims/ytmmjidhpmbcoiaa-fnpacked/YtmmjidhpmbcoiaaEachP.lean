/-
  A number of a list in memory told anew: what turns, and what stays.
-/
import Derived.Test.YtmmjidhpmbcoiaaEachM
import Derived.Test.YtmmjidhpmbcoiaaLaw3
namespace Go.Proofs.Ytmmjidhpmbcoiaa
open Go.RowKit
set_option linter.unusedVariables false
set_option linter.unusedSimpArgs false
theorem only_setCell (w : World) (g off n c k : Nat) (u : Value) (hk : k < n) : Only (.slice (some ⟨g, off, none⟩) n c) w (w.setCell ⟨g, off + k, none⟩ u) := by
  refine ⟨rfl, rfl, rfl, size_setCell _ _ _, fun j hj hq => Below.heap_setCell _ _ _ _ (fun e => ?_), fun g' off' n' c' e cur t hg => ?_⟩
  · have := hq off n c (by rw [show j = g from e])
    omega
  · cases e
    refine ⟨_, heap_setCell_same w g (off + k) _ _ u hg, fun i hi => ?_⟩
    rw [Array.getElem?_setIfInBounds, if_neg (by omega)]
theorem Piece.set {B C g off c k : Nat} {w : World} {l : List Int} (h : Piece B C w (.slice (some ⟨g, off, none⟩) l.length c) l) (hk : k < l.length) (x : Int) : Piece B C (w.setCell ⟨g, off + k, none⟩ (.int .i64 x)) (.slice (some ⟨g, off, none⟩) l.length c) (l.set k x) := by
  obtain ⟨a, c', e, hle, h⟩ := h
  cases e
  refine ⟨_, _, by rw [List.length_set], by rw [List.length_set]; exact hle, ?_⟩
  rcases h with rfl | ⟨g', off', cur, t, e, h1, h2, hg, r⟩
  · simp at hk
  · cases e
    have hs : off + k < cur.size := by
      have := (Array.getElem?_eq_some_iff.1 (r k hk)).1
      exact this
    refine .inr ⟨g, off, _, t, rfl, h1, h2, heap_setCell_same w g (off + k) _ _ _ hg, fun j hj => ?_⟩
    rw [List.length_set] at hj
    rw [Array.getElem?_setIfInBounds]
    by_cases e : k = j
    · subst e
      rw [if_pos rfl, if_pos hs]
      simp [List.getD, hk]
    · rw [if_neg (by omega), r j hj]
      simp [List.getD, e]
/-- The cell of a number of a piece, and that it may be written. -/
theorem Piece.cellAt {B C g off n c k : Nat} {w : World} {l : List Int} (h : Piece B C w (.slice (some ⟨g, off, none⟩) n c) l) (hk : k < l.length) : w.cell? ⟨g, off + k, none⟩ = some (.int .i64 (l.getD k 0)) ∧ w.frozen? ⟨g, off + k, none⟩ = false ∧ B ≤ g ∧ g < C ∧ g < w.heap.size := by
  obtain ⟨a, c', e, _, h⟩ := h
  cases e
  rcases h with rfl | ⟨g', off', cur, t, e, h1, h2, hg, r⟩
  · simp at hk
  · cases e
    exact ⟨cell_at hg (r k hk), free_at hg _, h1, h2, lt_of_heapA hg⟩
theorem Piece.some {B C n c : Nat} {a : Option Addr} {w : World} {l : List Int} (h : Piece B C w (.slice a n c) l) (hl : 0 < l.length) : ∃ g off, a = .some ⟨g, off, none⟩ := by
  obtain ⟨a', c', e, _, h⟩ := h
  cases e
  rcases h with rfl | ⟨g', off', cur, t, e, _⟩
  · simp at hl
  · exact ⟨g', off', e⟩
end Go.Proofs.Ytmmjidhpmbcoiaa
