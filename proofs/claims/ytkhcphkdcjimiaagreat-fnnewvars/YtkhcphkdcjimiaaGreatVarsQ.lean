
/-
  Walks: lists of letters, told by value: held against each other, and right or not (the specification's and the program's VarsOk).
-/
import Derived.Test.YtkhcphkdcjimiaaGreatLaw3
import Derived.Test.YtkhcphkdcjimiaaGreatSpecArr
import Derived.Test.YtkhcphkdcjimiaaGreatImplArr3
import Derived.Shelf.Abstract
import Derived.Deep.RegionHeld3
import Derived.Deep.Cut
namespace Go.Proofs.YtkhcphkdcjimiaaGreat
open Go.RowKit Go.Shelf
set_option linter.unusedVariables false
set_option linter.unusedSimpArgs false
/-- A list of letters: letter i is set or not by B i, its Shape is S i, its Data D i. -/
def VarsI (w : World) (v : Value) (n : Nat) (B : Nat → Bool) (S D : Nat → List Int) : Prop :=
  ∃ a c, v = .slice a n c ∧ (n = 0 ∨ ∃ (o off : Nat) (x y : Nat → Value), a = some ⟨o, off, none⟩ ∧ o < w.heap.size ∧ ∀ i, i < n →
    w.cell? ⟨o, off + i * 3, none⟩ = some (.bool (B i)) ∧ w.cell? ⟨o, off + i * 3 + 1, none⟩ = some (x i) ∧ w.cell? ⟨o, off + i * 3 + 2, none⟩ = some (y i) ∧ IntsI w (x i) (S i) ∧ IntsI w (y i) (D i))
theorem VarsI.keep {w w' : World} {v : Value} {n : Nat} {B : Nat → Bool} {S D : Nat → List Int} (h : VarsI w v n B S D) (hb : Below w.heap.size w w') : VarsI w' v n B S D := by
  obtain ⟨a, c, rfl, h⟩ := h
  refine ⟨a, c, rfl, ?_⟩
  rcases h with h | ⟨o, off, x, y, e, ho, hi⟩
  · exact .inl h
  · refine .inr ⟨o, off, x, y, e, Nat.lt_of_lt_of_le ho hb.size, fun i hn => ?_⟩
    obtain ⟨h1, h2, h3, h4, h5⟩ := hi i hn
    exact ⟨(hb.cell (p := ⟨o, off + i * 3, none⟩) ho).trans h1, (hb.cell (p := ⟨o, off + i * 3 + 1, none⟩) ho).trans h2, (hb.cell (p := ⟨o, off + i * 3 + 2, none⟩) ho).trans h3, h4.keep hb, h5.keep hb⟩
theorem VarsI.at {w : World} {a : Option Addr} {c n : Nat} {B : Nat → Bool} {S D : Nat → List Int} (h : VarsI w (.slice a n c) n B S D) {i : Nat} (hi : i < n) :
    ∃ o off xa xc ya yc, a = some ⟨o, off, none⟩ ∧ o < w.heap.size ∧ w.cell? ⟨o, off + i * 3, none⟩ = some (.bool (B i)) ∧ w.cell? ⟨o, off + i * 3 + 1, none⟩ = some (.slice xa (S i).length xc) ∧ w.cell? ⟨o, off + i * 3 + 2, none⟩ = some (.slice ya (D i).length yc) ∧ ArrI w (.agg #[.slice xa (S i).length xc, .slice ya (D i).length yc]) (S i) (D i) := by
  obtain ⟨a', c', e, h⟩ := h
  cases e
  rcases h with h | ⟨o, off, x, y, e, ho, hh⟩
  · omega
  · obtain ⟨h1, h2, h3, h4, h5⟩ := hh i hi
    obtain ⟨xa, xc, e1, g1, i1⟩ := h4
    obtain ⟨ya, yc, e2, g2, i2⟩ := h5
    rw [e1] at h2
    rw [e2] at h3
    exact ⟨o, off, xa, xc, ya, yc, e, ho, h1, h2, h3, _, _, _, _, rfl, i1, i2, g1, g2⟩
/-- Whether a letter is right. -/
def varB (b : Bool) (s d : List Int) : Bool := if b = true then arrOk s d else decide (s.length + d.length = 0)
def varsB (n : Nat) (B : Nat → Bool) (S D : Nat → List Int) : Bool := decide (n = 26) && (List.range 26).all fun i => varB (B i) (S i) (D i)
theorem varsB_long {n : Nat} {B : Nat → Bool} {S D : Nat → List Int} (h : n ≠ 26) : varsB n B S D = false := by unfold varsB; rw [decide_eq_false h]; rfl
theorem varsB_bad {B : Nat → Bool} {S D : Nat → List Int} {i : Nat} (hi : i < 26) (h : varB (B i) (S i) (D i) = false) : varsB 26 B S D = false := by
  unfold varsB
  rw [Bool.and_eq_false_iff]
  refine .inr ?_
  rw [List.all_eq_false]
  exact ⟨i, by simpa using hi, by rw [h]; decide⟩
theorem varsB_good {B : Nat → Bool} {S D : Nat → List Int} (h : ∀ i, i < 26 → varB (B i) (S i) (D i) = true) : varsB 26 B S D = true := by
  unfold varsB
  simp only [decide_true, Bool.true_and, List.all_eq_true, List.mem_range]
  exact h
end Go.Proofs.YtkhcphkdcjimiaaGreat
