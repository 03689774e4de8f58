
/-
  Walks: the program's Within.
-/
import Derived.Test.YtfmheanmkfdjnapLookL
import Derived.Test.YtfmheanmkfdjnapImplEach1
import Derived.Test.YtfmheanmkfdjnapImplMake1
namespace Go.Proofs.Ytfmheanmkfdjnap
open Go.RowKit
set_option linter.unusedVariables false
set_option linter.unusedSimpArgs false
theorem withinR_bad {s d t e : List Int} (h : ¬ (arrOk s d = true ∧ arrOk t e = true)) : withinR s d t e = (1, [], []) := by
  unfold withinR withinC; rw [if_neg h]; rfl
theorem withinR_good {s d t e : List Int} (h : arrOk s d = true ∧ arrOk t e = true) : withinR s d t e = (0, s, (List.range d.length).map (fun i => if placeIn e (d.getD i 0) < e.length then 1 else 0)) := by
  unfold withinR withinC; rw [if_pos h]; rfl
theorem firstC_none {g : Nat → Int} (h : ∀ i, g i = 0) : ∀ n, firstC g n = 0 := by
  intro n
  induction n with
  | zero => rfl
  | succ n ih => exact firstC_go ih (h n)
theorem nums_wf {s d : List Int} (ho : arrOk s d = true) {j : Nat} (hj : j < d.length) : (Lit.int .i64 (d.getD j 0)).wf = true := by
  unfold arrOk at ho
  rw [Bool.and_eq_true, List.all_eq_true] at ho
  have := ok_bd (ho.2 (d.getD j 0) (by simp [hj]))
  exact wf_i64 this.1 this.2
/-- placesOf, of a list of right numbers wherever it lies. -/
theorem places_impl {s d : List Int} {a : Option Addr} {c : Nat} {w : World} (h : Ints w a d) (ho : arrOk s d = true) (hw : 0 < w.heap.size) :
    Calls Try.prog 62 #[.slice a d.length c] w fun r w' => ∃ b g, r = .returned (.tuple #[.map (some b), .slice (some ⟨g, 0, none⟩) d.length d.length]) ∧ MapAt w' b d.length (firstM d d.length) ∧ w.heap.size ≤ b ∧ Below w.heap.size w w' := by
  have hc : d.length ≤ 300 := by have := arrOk_len ho; omega
  rcases h with rfl | ⟨b1, o1, rfl, hb1, hcell⟩
  · exact places_walk (b1 := 0) (o1 := 0) (fun j hj => by simp at hj) (fun q => by simp at q) hw hc (fun j hj => by simp at hj)
  · exact places_walk hcell (fun _ => rfl) hb1 hc (fun j hj => nums_wf ho hj)
end Go.Proofs.Ytfmheanmkfdjnap
