
/-
  Walks: the specification's EachOne.
-/
import Derived.Test.YtbmkfmppcojcgaaGreatEachP
import Derived.Test.YtbmkfmppcojcgaaGreatSpecCopy
import Derived.Test.YtbmkfmppcojcgaaGreatSpecArr
import Derived.Test.YtbmkfmppcojcgaaGreatSpecOne
namespace Go.Proofs.YtbmkfmppcojcgaaGreat
open Go.RowKit
set_option linter.unusedVariables false
set_option linter.unusedSimpArgs false
theorem eachOne_bad {g : Int} {s d : List Int} (h : eachOneC g s d ≠ 0) : eachOneS g s d = [] ∧ eachOneD g s d = [] := by
  unfold eachOneS eachOneD; rw [if_neg h, if_neg h]; exact ⟨rfl, rfl⟩
theorem eachOne_good {g : Int} {s d : List Int} (h : eachOneC g s d = 0) : eachOneS g s d = s ∧ eachOneD g s d = (List.range d.length).map (fun i => (oneV g (d.getD i 0)).1) := by
  unfold eachOneS eachOneD; rw [if_pos h, if_pos h]; exact ⟨rfl, rfl⟩
theorem below_of_win {B : Nat} {w a b : World} (h : Below w.heap.size w a) (k : Win B B a b) : Below w.heap.size w b := by
  exact h.trans ⟨k.os, k.tape, k.output, k.size, fun i hi => k.block i (Nat.lt_of_lt_of_le hi h.size) (by omega)⟩
end Go.Proofs.YtbmkfmppcojcgaaGreat
