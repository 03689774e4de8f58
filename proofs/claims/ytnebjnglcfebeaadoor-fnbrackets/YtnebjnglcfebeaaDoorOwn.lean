/-
  Lists of numbers in memory that the call itself made.
-/
import Derived.Test.YtnebjnglcfebeaaDoorInts
import Derived.OwnWalk
namespace Go.Proofs.YtnebjnglcfebeaaDoor
open Go.RowKit
set_option linter.unusedVariables false
/-- A list of numbers in memory from block B on, which nothing else shares. -/
def NewInts (B : Nat) (w : World) (v : Value) (l : List Int) : Prop := w.ownsRow B 3 1 v l.length (l.map (Value.int .i64))
theorem NewInts.ints {B : Nat} {w : World} {v : Value} {l : List Int} (h : NewInts B w v l) : ∃ a c, v = .slice a l.length c ∧ Ints w a l := by
  obtain ⟨h1, h2⟩ := h
  rcases h2 with ⟨rfl, h0⟩ | ⟨g, cap, cur, rfl, hB, hg, hc, hm, hs, ht⟩
  · have : l = [] := List.eq_nil_of_length_eq_zero h0
    subst this
    exact ⟨none, 0, rfl, .inl rfl⟩
  · refine ⟨_, cap, rfl, .inr ⟨g, 0, rfl, (Array.getElem?_eq_some_iff.1 hg).1, fun k hk => ?_⟩⟩
    have e : cur[k]? = some (.int .i64 (l.getD k 0)) := by
      have h3 : (cur.toList.take (l.length * 1))[k]? = (l.map (Value.int .i64))[k]? := by rw [ht]
      rw [Nat.mul_one, List.getElem?_take_of_lt hk] at h3
      simpa [hk] using h3
    simp only [World.cell?, hg, Nat.zero_add]
    simpa using e
theorem NewInts.mono {B B' : Nat} {w : World} {v : Value} {l : List Int} (h : NewInts B w v l) (hB : B' ≤ B) : NewInts B' w v l := by
  obtain ⟨h1, h2⟩ := h
  refine ⟨h1, ?_⟩
  rcases h2 with h2 | ⟨g, cap, cur, e, hg, r⟩
  · exact .inl h2
  · exact .inr ⟨g, cap, cur, e, by omega, r⟩
theorem NewInts.but {B g : Nat} {w w' : World} {v : Value} {l : List Int} (h : NewInts B w v l) (hb : But g w w') (hg : g < B) : NewInts B w' v l := by
  obtain ⟨h1, h2⟩ := h
  refine ⟨h1, ?_⟩
  rcases h2 with h2 | ⟨k, cap, cur, e, hk, hh, r⟩
  · exact .inl h2
  · exact .inr ⟨k, cap, cur, e, hk, by rw [hb.block k (Array.getElem?_eq_some_iff.1 hh).1 (by omega)]; exact hh, r⟩
theorem NewInts.row {B : Nat} {w : World} {v : Value} {l : List Int} (h : NewInts B w v l) : ∀ k, v.ownBlock = some k → B ≤ k := by
  obtain ⟨h1, h2⟩ := h
  intro k hk
  rcases h2 with ⟨rfl, _⟩ | ⟨g, cap, cur, rfl, hB, _⟩
  · simp [Value.ownBlock] at hk
  · simp [Value.ownBlock] at hk; omega
/-- Behind an append to a list from block B on. -/
theorem But.grown {g : Nat} {a w w' : World} {row : Option Nat} (h : But g a w) (hg : w.grownBy w' row) (hr : ∀ k, row = some k → a.heap.size ≤ k) : But g a w' :=
  ⟨hg.os.trans h.os, hg.tape.trans h.tape, hg.output.trans h.output, Nat.le_trans h.size hg.size, fun k hk hn => (hg.block k (Nat.lt_of_lt_of_le hk h.size) (fun e => by have := hr k e.symm; omega)).trans (h.block k hk hn)⟩
theorem newInts_alloc (w : World) (l : List Int) {B : Nat} (hB : B ≤ w.heap.size) (hl : l.length ≤ 1073741824) : NewInts B (w.alloc (.cells (vals l) 3)) (.slice (some ⟨w.heap.size, 0, none⟩) l.length l.length) l := by
  refine ⟨by simp, .inr ⟨w.heap.size, l.length, vals l, rfl, hB, heap_alloc_new w _, Nat.le_refl _, by unfold maxLen; omega, by simp [vals], ?_⟩⟩
  simp only [vals, Nat.mul_one]
  exact List.take_of_length_le (by simp)
end Go.Proofs.YtnebjnglcfebeaaDoor
