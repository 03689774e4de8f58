
/-
  Walks: lists of Instr, told by value: held against each other.
-/
import Derived.Test.YtkhcphkdcjimiaaGreatFunQ
import Derived.Deep.RegionHeld3
import Derived.Deep.Cut
namespace Go.Proofs.YtkhcphkdcjimiaaGreat
open Go.RowKit
set_option linter.unusedVariables false
set_option linter.unusedSimpArgs false
/-- A list of Instr: the i-th has the numbers E i 0 .. 4 and the list N i. -/
def InsI (w : World) (v : Value) (n : Nat) (E : Nat → Nat → Int) (N : Nat → List Int) : Prop :=
  ∃ a c, v = .slice a n c ∧ (n = 0 ∨ ∃ (o off : Nat) (x : Nat → Value), a = some ⟨o, off, none⟩ ∧ o < w.heap.size ∧ ∀ i, i < n →
    (w.cell? ⟨o, off + i * 6, none⟩ = some (.int .i64 (E i 0)) ∧ w.cell? ⟨o, off + i * 6 + 1, none⟩ = some (.int .i64 (E i 1)) ∧ w.cell? ⟨o, off + i * 6 + 2, none⟩ = some (.int .i64 (E i 2)) ∧ w.cell? ⟨o, off + i * 6 + 3, none⟩ = some (.int .i64 (E i 3)) ∧ w.cell? ⟨o, off + i * 6 + 4, none⟩ = some (.int .i64 (E i 4)) ∧ w.cell? ⟨o, off + i * 6 + 5, none⟩ = some (x i)) ∧ IntsI w (x i) (N i))
theorem InsI.keep {w w' : World} {v : Value} {n : Nat} {E : Nat → Nat → Int} {N : Nat → List Int} (h : InsI w v n E N) (hb : Below w.heap.size w w') : InsI w' v n E N := by
  obtain ⟨a, c, rfl, h⟩ := h
  refine ⟨a, c, rfl, ?_⟩
  rcases h with h | ⟨o, off, x, e, ho, hi⟩
  · exact .inl h
  · refine .inr ⟨o, off, x, e, Nat.lt_of_lt_of_le ho hb.size, fun i hn => ?_⟩
    obtain ⟨⟨h0, h1, h2, h3, h4, h5⟩, hz⟩ := hi i hn
    exact ⟨⟨(hb.cell (p := ⟨o, off + i * 6, none⟩) ho).trans h0, (hb.cell (p := ⟨o, off + i * 6 + 1, none⟩) ho).trans h1, (hb.cell (p := ⟨o, off + i * 6 + 2, none⟩) ho).trans h2, (hb.cell (p := ⟨o, off + i * 6 + 3, none⟩) ho).trans h3, (hb.cell (p := ⟨o, off + i * 6 + 4, none⟩) ho).trans h4, (hb.cell (p := ⟨o, off + i * 6 + 5, none⟩) ho).trans h5⟩, hz.keep hb⟩
theorem InsI.at {w : World} {a : Option Addr} {c n : Nat} {E : Nat → Nat → Int} {N : Nat → List Int} (h : InsI w (.slice a n c) n E N) {i : Nat} (hi : i < n) :
    ∃ o off xa xc, a = some ⟨o, off, none⟩ ∧ o < w.heap.size ∧ (w.cell? ⟨o, off + i * 6, none⟩ = some (.int .i64 (E i 0)) ∧ w.cell? ⟨o, off + i * 6 + 1, none⟩ = some (.int .i64 (E i 1)) ∧ w.cell? ⟨o, off + i * 6 + 2, none⟩ = some (.int .i64 (E i 2)) ∧ w.cell? ⟨o, off + i * 6 + 3, none⟩ = some (.int .i64 (E i 3)) ∧ w.cell? ⟨o, off + i * 6 + 4, none⟩ = some (.int .i64 (E i 4)) ∧ w.cell? ⟨o, off + i * 6 + 5, none⟩ = some (.slice xa (N i).length xc)) ∧ IntsI w (.slice xa (N i).length xc) (N i) := by
  obtain ⟨a', c', e, h⟩ := h
  cases e
  rcases h with h | ⟨o, off, x, e, ho, hh⟩
  · omega
  · obtain ⟨⟨h0, h1, h2, h3, h4, h5⟩, hz⟩ := hh i hi
    have hy := hz
    obtain ⟨xa, xc, e1, g1, i1⟩ := hz
    rw [e1] at h5 hy
    exact ⟨o, off, xa, xc, e, ho, ⟨h0, h1, h2, h3, h4, h5⟩, hy⟩
end Go.Proofs.YtkhcphkdcjimiaaGreat
