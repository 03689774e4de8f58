
/-
  Walks: the program's ShowRow.
-/
import Derived.Test.YtcaidhmolnnikaaGreatDoorRowI
namespace Go.Proofs.YtcaidhmolnnikaaGreatDoor
open Go.RowKit
set_option linter.unusedVariables false
set_option linter.unusedSimpArgs false
theorem jn_nil : jn [] = ⟨#[]⟩ := rfl
theorem rowB_jn (l : List Int) : ∀ k, rowB l k = jn ((List.range k).map fun i => digB (l.getD i 0))
  | 0 => rfl
  | k + 1 => by
    rw [List.range_succ, List.map_append, List.map_cons, List.map_nil, jn_snoc]
    simp only [rowB, rowB_jn l k]
    by_cases h : k = 0
    · subst h; rfl
    · rw [if_neg h, if_neg (by simp [h])]
theorem wds_zero (l : List Int) : wds 0 l = (List.range l.length).map fun i => digB (l.getD i 0) := by
  unfold wds
  apply List.map_congr_left
  intro i _
  rw [padB_zero]
end Go.Proofs.YtcaidhmolnnikaaGreatDoor
