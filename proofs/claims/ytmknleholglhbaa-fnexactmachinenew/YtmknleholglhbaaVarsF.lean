/-
  A list of letters that is handed in, opened.
-/
import Derived.Test.YtmknleholglhbaaVarsQ
import Derived.Test.YtmknleholglhbaaFrame
import Derived.Deep.Slices
namespace Go.Proofs.Ytmknleholglhbaa
open Go.RowKit Go.Shelf Go.ChangeShapes Go.WideShapes
set_option linter.unusedVariables false
set_option linter.unusedSimpArgs false
theorem one_var {H : Type} {enc : TypeId × Value → H} {W : World} {base : Nat} {held : Bool} {n : Nat} {cs : List Value} {y : DataW H × List MemPlace} (hl : cs.length = 3) (h : DataW.trod enc Try.prog W base (fun _ => true) held n 40 cs = some y) :
    ∃ (b : Bool) (x z : Value) (s d : List Int), cs = [.bool b, x, z] ∧ IntsI W x s ∧ IntsI W z d ∧ s.length ≤ 9223372036854775807 ∧ d.length ≤ 9223372036854775807 := by
  have c1 : Try.prog.cellsOf 4 = 1 := by kernel_rfl
  have c2 : Try.prog.cellsOf 38 = 2 := by kernel_rfl
  have c3 : Try.prog.cellsOf 36 = 1 := by kernel_rfl
  obtain ⟨y0, y1, k, _, _, g0, g1⟩ := trod_struct2 Try.underlying40 h
  match cs, hl with
  | [v0, v1, v2], _ =>
    simp [c1, c2] at g0 g1
    obtain ⟨z0, z1, m, _, _, e0, e1⟩ := trod_struct2 Try.underlying38 g1
    simp [c3] at e0 e1
    obtain ⟨s, i1, b1⟩ := cell_ints e0
    obtain ⟨d, i2, b2⟩ := cell_ints e1
    obtain ⟨b, hb, _⟩ := DataW.trod_bool Try.underlying4 g0
    simp at hb
    subst hb
    exact ⟨b, v1, v2, s, d, rfl, i1, i2, b1, b2⟩
theorem cell_vars {H : Type} {enc : TypeId × Value → H} {W : World} {base : Nat} {held : Bool} {n : Nat} {c : Value} {y : DataW H × List MemPlace} (h : DataW.trod enc Try.prog W base (fun _ => true) held n 22 [c] = some y) :
    ∃ (n : Nat) (B : Nat → Bool) (S D : Nat → List Int), VarsI W c n B S D ∧ n ≤ 9223372036854775807 ∧ (∀ i, (S i).length ≤ 9223372036854775807 ∧ (D i).length ≤ 9223372036854775807) ∧ ∀ i, n ≤ i → S i = [] ∧ D i = [] := by
  have c3 : Try.prog.cellsOf 40 = 3 := by kernel_rfl
  rcases Deep.open_slice Try.underlying22 h with ⟨hcs, _⟩ | ⟨a, len, cap, m, k, DD, Pl, hcs, _, hl, hm, hmm, _, hx⟩
  · simp at hcs
    subst hcs
    exact ⟨0, fun _ => false, fun _ => [], fun _ => [], ⟨_, _, rfl, .inl rfl⟩, by omega, by simp, by simp⟩
  · simp at hcs
    subst hcs
    have hlm : len ≤ m := by rw [hmm]; simpa using hl
    have each : ∀ i, ∃ q : Bool × Value × Value × List Int × List Int, (i < len → W.cell? (a.add (i * 3)) = some (.bool q.1) ∧ W.cell? (a.add (i * 3 + 1)) = some q.2.1 ∧ W.cell? (a.add (i * 3 + 2)) = some q.2.2.1 ∧ IntsI W q.2.1 q.2.2.2.1 ∧ IntsI W q.2.2.1 q.2.2.2.2) ∧ (q.2.2.2.1.length ≤ 9223372036854775807 ∧ q.2.2.2.2.length ≤ 9223372036854775807) ∧ (len ≤ i → q.2.2.2.1 = [] ∧ q.2.2.2.2 = []) := by
      intro i
      by_cases hi : i < len
      · obtain ⟨cs', h1, h2⟩ := hx i (by omega)
        rw [c3] at h1
        obtain ⟨_, hlen, hcell⟩ := World.cells?_some h1
        obtain ⟨b, x, z, s, d, rfl, i1, i2, b1, b2⟩ := one_var hlen h2
        have e0 := hcell 0 (by omega)
        have e1 := hcell 1 (by omega)
        have e2 := hcell 2 (by omega)
        rw [Deep.add_add] at e0 e1 e2
        exact ⟨(b, x, z, s, d), fun _ => ⟨by simpa using e0, by simpa using e1, by simpa using e2, i1, i2⟩, ⟨b1, b2⟩, fun h => absurd h (by omega)⟩
      · exact ⟨(false, undef, undef, [], []), fun h => absurd h hi, by simp, fun _ => ⟨rfl, rfl⟩⟩
    have ⟨q, hq⟩ := Classical.axiomOfChoice each
    refine ⟨len, fun i => (q i).1, fun i => (q i).2.2.2.1, fun i => (q i).2.2.2.2, ⟨_, _, rfl, ?_⟩, by unfold maxLen at hm; omega, fun i => (hq i).2.1, fun i hi => (hq i).2.2 hi⟩
    by_cases h0 : len = 0
    · exact .inl h0
    · obtain ⟨ab, off, spot⟩ := a
      have hc := ((hq 0).1 (by omega)).1
      have hspot : spot = none := by simpa [Addr.add] using World.cell?_spot hc
      subst hspot
      have hadd : ∀ k, (⟨ab, off, none⟩ : Addr).add k = ⟨ab, off + k, none⟩ := fun k => by unfold Addr.add; split <;> simp_all
      refine .inr ⟨ab, off, fun i => (q i).2.1, fun i => (q i).2.2.1, rfl, ?_, fun i hi => ?_⟩
      · by_cases hb : ab < W.heap.size
        · exact hb
        · have : W.heap[ab]? = none := Array.getElem?_eq_none (by omega)
          simp [Addr.add, World.cell?, this] at hc
      · obtain ⟨q1, q2, q3, q4, q5⟩ := (hq i).1 hi
        rw [hadd] at q1 q2 q3
        exact ⟨q1, by rw [Nat.add_assoc]; exact q2, by rw [Nat.add_assoc]; exact q3, q4, q5⟩
end Go.Proofs.Ytmknleholglhbaa
