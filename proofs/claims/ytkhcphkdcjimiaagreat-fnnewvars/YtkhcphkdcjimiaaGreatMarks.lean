
/-
  Walks: a list of the call's own is marked, and what is marked is held.
-/
import Derived.Test.YtkhcphkdcjimiaaGreatOwn
namespace Go.Proofs.YtkhcphkdcjimiaaGreat
open Go.RowKit
set_option linter.unusedVariables false
set_option linter.unusedSimpArgs false
theorem set_take (A : Array Value) (k : Nat) (v : Value) (h : k < A.size) : (A.setIfInBounds k v).toList.take (k + 1) = A.toList.take k ++ [v] := by
  apply List.ext_getElem?
  intro i
  by_cases e : i < k
  · rw [List.getElem?_take_of_lt (by omega), List.getElem?_append_left (by simp; omega), List.getElem?_take_of_lt e]
    simp [Array.getElem?_setIfInBounds, show ¬ k = i by omega]
  · by_cases e2 : i = k
    · subst e2
      rw [List.getElem?_take_of_lt (by omega), List.getElem?_append_right (by simp; omega)]
      simp [h, show min i A.size = i by omega]
    · rw [List.getElem?_eq_none (by simp; omega), List.getElem?_eq_none (by simp; omega)]
theorem upFrom_snoc (k0 : Int) (k : Nat) : (upFrom k0 (k + 1)).map (Value.int .i64) = (upFrom k0 k).map (Value.int .i64) ++ [.int .i64 (k0 + k)] := by
  simp [upFrom, List.range_succ]
theorem NewInts.keep {B : Nat} {w w' : World} {v : Value} {l : List Int} (h : NewInts B w v l) (hb : Below w.heap.size w w') : NewInts B w' v l := by
  obtain ⟨h1, h2⟩ := h
  refine ⟨h1, ?_⟩
  rcases h2 with h2 | ⟨k, cap, cur, e, hk, hh, r⟩
  · exact .inl h2
  · exact .inr ⟨k, cap, cur, e, hk, by rw [hb.block k (Array.getElem?_eq_some_iff.1 hh).1]; exact hh, r⟩
theorem OwnInts.keepB {B g : Nat} {w w' : World} {l : List Int} (h : OwnInts w g l) (hb : Below B w w') (hg : g < B) : OwnInts w' g l := by
  unfold OwnInts at *
  rw [hb.block g hg]; exact h
theorem OwnInts.lt {g : Nat} {w : World} {l : List Int} (h : OwnInts w g l) : g < w.heap.size := (Array.getElem?_eq_some_iff.1 h).1
theorem OwnInts.keep {g : Nat} {w w' : World} {l : List Int} (h : OwnInts w g l) (hb : Below w.heap.size w w') : OwnInts w' g l := h.keepB hb h.lt
theorem OwnInts.but {g g' : Nat} {w w' : World} {l : List Int} (h : OwnInts w g l) (hb : But g' w w') (hn : g ≠ g') : OwnInts w' g l := by
  have hl := h.lt
  unfold OwnInts at *
  rw [hb.block g hl hn]; exact h
end Go.Proofs.YtkhcphkdcjimiaaGreat
