
/-
  Pieces of memory that hold numbers: where they lie, what a mark turns, and what stays.
-/
import Derived.Test.YtcaidhmolnnikaaGreatDoorOwn
namespace Go.Proofs.YtcaidhmolnnikaaGreatDoor
open Go.RowKit
set_option linter.unusedVariables false
set_option linter.unusedSimpArgs false
/-- A slice of these numbers; if there are any, they lie in one block from B on and below C, and can be written. -/
def Piece (B C : Nat) (w : World) (v : Value) (l : List Int) : Prop :=
  ∃ a c, v = .slice a l.length c ∧ l.length ≤ c ∧ (l = [] ∨ ∃ g off cur t, a = some ⟨g, off, none⟩ ∧ B ≤ g ∧ g < C ∧ w.heap[g]? = some (.cells cur t (0, 0)) ∧ ∀ k, k < l.length → cur[off + k]? = some (.int .i64 (l.getD k 0)))
theorem Piece.ints {B C : Nat} {w : World} {v : Value} {l : List Int} (h : Piece B C w v l) : ∃ a c, v = .slice a l.length c ∧ Ints w a l := by
  obtain ⟨a, c, rfl, hle, h⟩ := h
  refine ⟨a, c, rfl, ?_⟩
  rcases h with rfl | ⟨g, off, cur, t, rfl, hB, hC, hg, hc⟩
  · exact .inl rfl
  · refine .inr ⟨g, off, rfl, (Array.getElem?_eq_some_iff.1 hg).1, fun k hk => ?_⟩
    simp only [World.cell?, hg]
    simpa using hc k hk
theorem Piece.intsC {B C : Nat} {w : World} {v : Value} {l : List Int} (h : Piece B C w v l) : ∃ a c, v = .slice a l.length c ∧ l.length ≤ c ∧ Ints w a l := by
  obtain ⟨a, c, e, i⟩ := h.ints
  obtain ⟨a', c', e', hle, _⟩ := h
  rw [e] at e'
  cases e'
  exact ⟨a, c, e, hle, i⟩
theorem Piece.nil (B C : Nat) (w : World) : Piece B C w (.slice none 0 0) [] := ⟨none, 0, rfl, Nat.le_refl _, .inl rfl⟩
theorem Piece.mono {B C B' C' : Nat} {w : World} {v : Value} {l : List Int} (h : Piece B C w v l) (hB : B' ≤ B) (hC : C ≤ C') : Piece B' C' w v l := by
  obtain ⟨a, c, rfl, hle, h⟩ := h
  refine ⟨a, c, rfl, hle, ?_⟩
  rcases h with rfl | ⟨g, off, cur, t, rfl, h1, h2, r⟩
  · exact .inl rfl
  · exact .inr ⟨g, off, cur, t, rfl, by omega, by omega, r⟩
/-- No block has turned but those from B on and below C. -/
structure Win (B C : Nat) (w w' : World) : Prop where
  os : w'.os = w.os
  tape : w'.tape = w.tape
  output : w'.output = w.output
  size : w.heap.size ≤ w'.heap.size
  block : ∀ k, k < w.heap.size → (k < B ∨ C ≤ k) → w'.heap[k]? = w.heap[k]?
theorem Win.below {B C A : Nat} {w w' : World} (h : Win B C w w') (hA : A ≤ B) (hs : A ≤ w.heap.size) : Below A w w' :=
  ⟨h.os, h.tape, h.output, h.size, fun k hk => h.block k (by omega) (.inl (by omega))⟩
theorem Piece.win {B C B' C' : Nat} {w w' : World} {u : Value} {m : List Int} (h : Piece B' C' w u m) (hw : Win B C w w') (hd : C' ≤ B ∨ C ≤ B') : Piece B' C' w' u m := by
  obtain ⟨a, c, rfl, hle, h⟩ := h
  refine ⟨a, c, rfl, hle, ?_⟩
  rcases h with rfl | ⟨g, off, cur, t, rfl, h1, h2, hg, r⟩
  · exact .inl rfl
  · exact .inr ⟨g, off, cur, t, rfl, h1, h2, by rw [hw.block g (Array.getElem?_eq_some_iff.1 hg).1 (by omega)]; exact hg, r⟩
theorem Piece.belowC {B C A : Nat} {w w' : World} {u : Value} {m : List Int} (h : Piece B C w u m) (hb : Below A w w') (hd : C ≤ A) : Piece B C w' u m := by
  obtain ⟨a, c, rfl, hle, h⟩ := h
  refine ⟨a, c, rfl, hle, ?_⟩
  rcases h with rfl | ⟨g, off, cur, t, rfl, h1, h2, hg, r⟩
  · exact .inl rfl
  · exact .inr ⟨g, off, cur, t, rfl, h1, h2, by rw [hb.block g (by omega)]; exact hg, r⟩
/-- What is as it was below the whole of the heap keeps every piece. -/
theorem Piece.keep {B C : Nat} {w w' : World} {u : Value} {m : List Int} (h : Piece B C w u m) (hb : Below w.heap.size w w') : Piece B C w' u m := by
  obtain ⟨a, c, rfl, hle, h⟩ := h
  refine ⟨a, c, rfl, hle, ?_⟩
  rcases h with rfl | ⟨g, off, cur, t, rfl, h1, h2, hg, r⟩
  · exact .inl rfl
  · exact .inr ⟨g, off, cur, t, rfl, h1, h2, by rw [hb.block g (Array.getElem?_eq_some_iff.1 hg).1]; exact hg, r⟩
theorem NewInts.piece {B : Nat} {w : World} {v : Value} {l : List Int} (h : NewInts B w v l) : Piece B w.heap.size w v l := by
  obtain ⟨h1, h2⟩ := h
  rcases h2 with ⟨rfl, h0⟩ | ⟨g, cap, cur, rfl, hB, hg, hc, hm, hs, ht⟩
  · have : l = [] := List.eq_nil_of_length_eq_zero h0
    subst this
    exact Piece.nil _ _ _
  · refine ⟨_, cap, rfl, hc, .inr ⟨g, 0, cur, 3, rfl, hB, (Array.getElem?_eq_some_iff.1 hg).1, hg, fun k hk => ?_⟩⟩
    have h3 : (cur.toList.take (l.length * 1))[k]? = (l.map (Value.int .i64))[k]? := by rw [ht]
    rw [Nat.mul_one, List.getElem?_take_of_lt hk] at h3
    rw [Nat.zero_add]
    simpa [hk] using h3
theorem OwnInts.piece {g : Nat} {w : World} {l : List Int} (h : OwnInts w g l) {B C : Nat} (hB : B ≤ g) (hC : g < C) (c : Nat) (hc : l.length ≤ c := by simp) : Piece B C w (.slice (some ⟨g, 0, none⟩) l.length c) l :=
  ⟨_, c, rfl, hc, .inr ⟨g, 0, vals l, 3, rfl, hB, hC, h, fun k hk => by rw [Nat.zero_add]; exact vals_at hk⟩⟩
/-- Two slices have no cell together. -/
def Apart (v u : Value) : Prop := ∀ g off n c off' n' c', v = .slice (some ⟨g, off, none⟩) n c → u = .slice (some ⟨g, off', none⟩) n' c' → n = 0 ∨ n' = 0 ∨ off + n ≤ off' ∨ off' + n' ≤ off
theorem Apart.symm {v u : Value} (h : Apart v u) : Apart u v := by
  intro g off n c off' n' c' h1 h2
  have := h g off' n' c' off n c h2 h1
  omega
theorem apart_blocks {v u : Value} (h : ∀ g off n c off' n' c', v = .slice (some ⟨g, off, none⟩) n c → ¬ u = .slice (some ⟨g, off', none⟩) n' c') : Apart v u := fun g off n c off' n' c' h1 h2 => absurd h2 (h g off n c off' n' c' h1)
theorem Piece.apart {B C B' C' : Nat} {w w' : World} {v u : Value} {l m : List Int} (h : Piece B C w v l) (k : Piece B' C' w' u m) (hd : C ≤ B' ∨ C' ≤ B) : Apart v u := by
  obtain ⟨a, c, rfl, hle, h⟩ := h
  obtain ⟨b, d, rfl, _, k⟩ := k
  intro g off n c off' n' c' h1 h2
  cases h1
  cases h2
  rcases h with rfl | ⟨g1, o1, _, _, e1, q1, q2, _⟩
  · exact .inl rfl
  rcases k with rfl | ⟨g2, o2, _, _, e2, r1, r2, _⟩
  · exact .inr (.inl rfl)
  cases e1
  cases e2
  omega
/-- The world is as it was but for the cells of one slice. -/
structure Only (v : Value) (w w' : World) : Prop where
  os : w'.os = w.os
  tape : w'.tape = w.tape
  output : w'.output = w.output
  size : w'.heap.size = w.heap.size
  block : ∀ k, k < w.heap.size → (∀ off n c, v = .slice (some ⟨k, off, none⟩) n c → n = 0) → w'.heap[k]? = w.heap[k]?
  cells : ∀ g off n c, v = .slice (some ⟨g, off, none⟩) n c → ∀ cur t, w.heap[g]? = some (.cells cur t (0, 0)) → ∃ cur', w'.heap[g]? = some (.cells cur' t (0, 0)) ∧ ∀ i, (i < off ∨ off + n ≤ i) → cur'[i]? = cur[i]?
theorem Only.refl (v : Value) (w : World) : Only v w w := ⟨rfl, rfl, rfl, rfl, fun _ _ _ => rfl, fun _ _ _ _ _ cur t h => ⟨cur, h, fun _ _ => rfl⟩⟩
theorem Only.win {B C : Nat} {w w' : World} {v : Value} {l : List Int} (h : Only v w w') (hp : Piece B C w v l) : Win B C w w' := by
  refine ⟨h.os, h.tape, h.output, by rw [h.size]; exact Nat.le_refl _, fun k hk hd => h.block k hk ?_⟩
  obtain ⟨a, c, rfl, _, hp⟩ := hp
  intro off n c' e
  cases e
  rcases hp with rfl | ⟨g, off, cur, t, e, h1, h2, hg, r⟩
  · rfl
  · cases e; omega
theorem Piece.only {B C : Nat} {w w' : World} {v u : Value} {m : List Int} (h : Piece B C w u m) (hv : Only v w w') (ha : Apart v u) : Piece B C w' u m := by
  obtain ⟨a, c, rfl, hle, h⟩ := h
  refine ⟨a, c, rfl, hle, ?_⟩
  rcases h with rfl | ⟨g, off, cur, t, rfl, h1, h2, hg, r⟩
  · exact .inl rfl
  · by_cases hm : m.length = 0
    · exact .inl (List.eq_nil_of_length_eq_zero hm)
    by_cases hq : ∀ o n c, v = .slice (some ⟨g, o, none⟩) n c → n = 0
    · exact .inr ⟨g, off, cur, t, rfl, h1, h2, by rw [hv.block g (Array.getElem?_eq_some_iff.1 hg).1 hq]; exact hg, r⟩
    · have : ∃ o n c, v = .slice (some ⟨g, o, none⟩) n c ∧ n ≠ 0 := by
        apply Classical.byContradiction
        intro hh
        exact hq fun o n c e => Classical.byContradiction fun e2 => hh ⟨o, n, c, e, e2⟩
      obtain ⟨o, n, c', e, hn⟩ := this
      obtain ⟨cur', hg', hc'⟩ := hv.cells g o n c' e cur t hg
      refine .inr ⟨g, off, cur', t, rfl, h1, h2, hg', fun k hk => ?_⟩
      have hap := ha g o n c' off m.length c e rfl
      rw [hc' (off + k) (by omega)]
      exact r k hk
end Go.Proofs.YtcaidhmolnnikaaGreatDoor
