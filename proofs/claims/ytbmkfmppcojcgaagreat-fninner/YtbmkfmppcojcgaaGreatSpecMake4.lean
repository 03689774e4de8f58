
/-
  Walks: the specification's l5Rows: rows one behind the other.
-/
import Derived.Test.YtbmkfmppcojcgaaGreatMakeM
import Derived.Test.YtbmkfmppcojcgaaGreatGrow
import Derived.Test.YtbmkfmppcojcgaaGreatArrs
namespace Go.Proofs.YtbmkfmppcojcgaaGreat
open Go.RowKit
set_option linter.unusedVariables false
set_option linter.unusedSimpArgs false
/-- The numbers of the first n arrays of a list, one behind the other. -/
def catF (F : List (List Int)) (n : Nat) : List Int := (List.range n).flatMap (fun i => F.getD (2 * i + 1) [])
theorem catF_succ (F : List (List Int)) (n : Nat) : catF F (n + 1) = catF F n ++ F.getD (2 * n + 1) [] := by
  unfold catF; rw [List.range_succ, List.flatMap_append]; simp
theorem catF_mono (F : List (List Int)) {k n : Nat} (h : k ≤ n) : (catF F k).length ≤ (catF F n).length := by
  induction n with
  | zero => obtain rfl : k = 0 := by omega
            exact Nat.le_refl _
  | succ n ih =>
    by_cases e : k = n + 1
    · subst e; exact Nat.le_refl _
    · rw [catF_succ, List.length_append]
      have := ih (by omega)
      omega
end Go.Proofs.YtbmkfmppcojcgaaGreat
