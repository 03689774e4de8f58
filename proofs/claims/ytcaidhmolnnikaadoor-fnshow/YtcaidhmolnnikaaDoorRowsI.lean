/-
  A list of arrays that grows by one at its end, each with two lists in new memory.
-/
import Derived.Test.YtcaidhmolnnikaaDoorRowsM
import Derived.Test.YtcaidhmolnnikaaDoorAppend
namespace Go.Proofs.YtcaidhmolnnikaaDoor
open Go.RowKit
set_option linter.unusedVariables false
set_option linter.unusedSimpArgs false
structure RI (B : Nat) (w0 wr : World) (v : Value) (k : Nat) (xs : List Value) (F : List (List Int)) : Prop where
  own : wr.ownsRow B 27 2 v k xs
  piece : ∀ j, j < 2 * k → Piece B wr.heap.size wr (xs.getD j undef) (F.getD j [])
  apart : ∀ i j, i < j → j < 2 * k → Apart (xs.getD i undef) (xs.getD j undef)
  far : ∀ j, j < 2 * k → ∀ g, v.ownBlock = some g → NotAt g (xs.getD j undef)
  below : Below B w0 wr
  size : B ≤ wr.heap.size
theorem RI.len {B : Nat} {w0 wr : World} {v : Value} {k : Nat} {xs : List Value} {F : List (List Int)} (h : RI B w0 wr v k xs F) : xs.length = 2 * k := by
  have := h.own.1; omega
theorem own_lt {B : Nat} {w : World} {e : TypeId} {sz : Nat} {v : Value} {n : Nat} {xs : List Value} (h : w.ownsRow B e sz v n xs) {g : Nat} (hg : v.ownBlock = some g) : g < w.heap.size := by
  obtain ⟨h1, h2⟩ := h
  rcases h2 with ⟨rfl, _⟩ | ⟨g', cap, cur, rfl, hB, hh, _⟩
  · simp [Value.ownBlock] at hg
  · simp [Value.ownBlock] at hg
    subst hg
    exact lt_of_heapA hh
theorem Piece.grown {B C : Nat} {w w' : World} {u : Value} {m : List Int} {row : Option Nat} (h : Piece B C w u m) (hg : w.grownBy w' row) (hn : ∀ g, row = some g → NotAt g u) : Piece B C w' u m := by
  obtain ⟨a, c, rfl, hle, h⟩ := h
  refine ⟨a, c, rfl, hle, ?_⟩
  rcases h with rfl | ⟨g, off, cur, t, rfl, h1, h2, hh, r⟩
  · exact .inl rfl
  · by_cases h0 : m.length = 0
    · exact .inl (List.eq_nil_of_length_eq_zero h0)
    · refine .inr ⟨g, off, cur, t, rfl, h1, h2, ?_, r⟩
      rw [hg.block g (lt_of_heapA hh) (fun e => h0 (hn g e.symm off m.length c rfl))]
      exact hh
theorem Piece.notAt {B C g : Nat} {w : World} {u : Value} {m : List Int} (h : Piece B C w u m) (hg : g < B ∨ C ≤ g) : NotAt g u := by
  obtain ⟨a, c, rfl, _, h⟩ := h
  intro off n c' e
  cases e
  rcases h with rfl | ⟨g', off, cur, t, e, h1, h2, _⟩
  · rfl
  · cases e; omega
theorem getD_app {α : Type} (xs ys : List α) (j : Nat) (d : α) : (xs ++ ys).getD j d = if j < xs.length then xs.getD j d else ys.getD (j - xs.length) d := by
  simp only [List.getD, List.getElem?_append]
  split <;> rfl
theorem RI.step {B : Nat} {w0 wr w2 w3 : World} {v : Value} {k g cap : Nat} {xs : List Value} {F : List (List Int)} {x y : Value} (h : RI B w0 wr v k xs F) (hb : Below wr.heap.size wr w2)
    (px : Piece wr.heap.size w2.heap.size w2 x (F.getD (2 * k) [])) (py : Piece wr.heap.size w2.heap.size w2 y (F.getD (2 * k + 1) [])) (ha : Apart x y)
    (ho : w3.ownsRow B 27 2 (.slice (some ⟨g, 0, none⟩) (k + 1) cap) (k + 1) (xs ++ [x, y])) (hg : w2.grownBy w3 v.ownBlock) (hat : v.ownBlock = some g ∨ g = w2.heap.size) :
    RI B w0 w3 (.slice (some ⟨g, 0, none⟩) (k + 1) cap) (k + 1) (xs ++ [x, y]) F := by
  have hl := h.len
  have hz := hb.size
  have hB := h.size
  have z3 := hg.size
  have lt : ∀ q, v.ownBlock = some q → q < wr.heap.size := fun q e => own_lt h.own e
  have nx : ∀ q, v.ownBlock = some q → NotAt q x := fun q e => px.notAt (.inl (lt q e))
  have ny : ∀ q, v.ownBlock = some q → NotAt q y := fun q e => py.notAt (.inl (lt q e))
  have at_ : ∀ j, j < 2 * (k + 1) → (j < 2 * k ∧ (xs ++ [x, y]).getD j undef = xs.getD j undef) ∨ (j = 2 * k ∧ (xs ++ [x, y]).getD j undef = x) ∨ (j = 2 * k + 1 ∧ (xs ++ [x, y]).getD j undef = y) := by
    intro j hj
    rw [getD_app, hl]
    by_cases e : j < 2 * k
    · rw [if_pos e]; exact .inl ⟨e, rfl⟩
    · rw [if_neg e]
      by_cases e2 : j = 2 * k
      · subst e2; exact .inr (.inl ⟨rfl, by simp⟩)
      · obtain rfl : j = 2 * k + 1 := by omega
        exact .inr (.inr ⟨rfl, by rw [show 2 * k + 1 - 2 * k = 1 by omega]; rfl⟩)
  refine ⟨ho, fun j hj => ?_, fun i j hij hj => ?_, fun j hj q hq => ?_, ?_, by omega⟩
  · rcases at_ j hj with ⟨e, e2⟩ | ⟨rfl, e2⟩ | ⟨rfl, e2⟩
    · rw [e2]
      exact (((h.piece j e).keep hb).grown hg (h.far j e)).mono (Nat.le_refl _) (by omega)
    · rw [e2]; exact (px.grown hg nx).mono (by omega) (by omega)
    · rw [e2]; exact (py.grown hg ny).mono (by omega) (by omega)
  · rcases at_ j hj with ⟨e, e2⟩ | ⟨rfl, e2⟩ | ⟨rfl, e2⟩
    · rcases at_ i (by omega) with ⟨f, f2⟩ | ⟨rfl, f2⟩ | ⟨rfl, f2⟩
      · rw [e2, f2]; exact h.apart i j hij e
      · omega
      · omega
    · rcases at_ i (by omega) with ⟨f, f2⟩ | ⟨rfl, f2⟩ | ⟨rfl, f2⟩
      · rw [e2, f2]; exact (h.piece i f).apart px (.inl (Nat.le_refl _))
      · omega
      · omega
    · rcases at_ i (by omega) with ⟨f, f2⟩ | ⟨rfl, f2⟩ | ⟨rfl, f2⟩
      · rw [e2, f2]; exact (h.piece i f).apart py (.inl (Nat.le_refl _))
      · rw [e2, f2]; exact ha
      · omega
  · simp [Value.ownBlock] at hq
    subst hq
    rcases at_ j hj with ⟨e, e2⟩ | ⟨rfl, e2⟩ | ⟨rfl, e2⟩
    · rw [e2]
      rcases hat with hat | rfl
      · exact h.far j e g hat
      · exact (h.piece j e).notAt (.inr hz)
    · rw [e2]
      rcases hat with hat | rfl
      · exact nx g hat
      · exact px.notAt (.inr (Nat.le_refl _))
    · rw [e2]
      rcases hat with hat | rfl
      · exact ny g hat
      · exact py.notAt (.inr (Nat.le_refl _))
  · have b2 : Below B w0 w2 := h.below.trans (hb.mono hB)
    refine ⟨hg.os.trans b2.os, hg.tape.trans b2.tape, hg.output.trans b2.output, Nat.le_trans b2.size hg.size, fun q hq => ?_⟩
    rw [hg.block q (by omega) ?_]
    · exact b2.block q hq
    · intro e
      have h2 := h.own.2
      rcases h2 with ⟨rfl, _⟩ | ⟨g', cap', cur, rfl, hB', _⟩
      · simp [Value.ownBlock] at e
      · simp [Value.ownBlock] at e; omega
theorem RI.done {B : Nat} {w0 wr : World} {v : Value} {k : Nat} {xs : List Value} {F : List (List Int)} (h : RI B w0 wr v k xs F) (hF : F.length = 2 * k) : Arrs B wr.heap.size wr v F := by
  have hl := h.len
  have h2 := h.own.2
  rcases h2 with ⟨rfl, rfl⟩ | ⟨g, cap, cur, rfl, hB, hh, hc, hm, hs, ht⟩
  · exact ⟨none, 0, 0, rfl, hF, .inl rfl⟩
  · refine ⟨_, k, cap, rfl, hF, .inr ⟨g, 0, xs, rfl, by omega, hB, lt_of_heapA hh, ⟨cur, _, _, hh, fun j hj => ?_⟩, fun j hj => h.piece j (by omega), fun i j hij hj => h.apart i j hij (by omega), fun j hj => h.far j (by omega) g rfl⟩⟩
    have e : (cur.toList.take (k * 2))[j]? = xs[j]? := by rw [ht]
    rw [List.getElem?_take_of_lt (by omega)] at e
    rw [Nat.zero_add]
    have e3 : xs[j]? = some (xs.getD j undef) := by simp [hj]
    rw [e3] at e
    simpa using e
end Go.Proofs.YtcaidhmolnnikaaDoor
