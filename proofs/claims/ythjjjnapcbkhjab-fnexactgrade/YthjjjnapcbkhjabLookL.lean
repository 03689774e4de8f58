/-
  Plain: the first places that the program's map tells are those of the list.
-/
import Derived.Test.YthjjjnapcbkhjabLookM
import Derived.Test.YthjjjnapcbkhjabImplPlaces
namespace Go.Proofs.Ythjjjnapcbkhjab
set_option linter.unusedVariables false
theorem placeIn_cons (x y : Int) (l : List Int) : placeIn (x :: l) y = if y = x then 0 else placeIn l y + 1 := by
  unfold placeIn
  rw [List.findIdx_cons]
  by_cases h : y = x
  · subst h; simp
  · have h' : (x == y) = false := by simp; omega
    rw [h', if_neg h]
    rfl
theorem firstM_at (d : List Int) (y : Int) : ∀ k, k ≤ d.length → firstM d k y = if placeIn (d.drop (d.length - k)) y < k then some (((d.length - k) + placeIn (d.drop (d.length - k)) y : Nat) : Int) else none := by
  intro k
  induction k with
  | zero => intro _; simp [firstM]
  | succ k ih =>
    intro h
    have e : d.drop (d.length - (k + 1)) = d.getD (d.length - 1 - k) 0 :: d.drop (d.length - k) := by
      have hl : d.length - (k + 1) < d.length := by omega
      rw [List.drop_eq_getElem_cons hl]
      congr 1
      · rw [List.getD_eq_getElem?_getD, List.getElem?_eq_getElem (by omega)]
        simp [Nat.sub_sub, Nat.add_comm]
      · congr 1; omega
    show (if y = d.getD (d.length - 1 - k) 0 then some ((d.length - 1 - k : Nat) : Int) else firstM d k y) = _
    rw [e, placeIn_cons]
    by_cases hy : y = d.getD (d.length - 1 - k) 0
    · rw [if_pos hy, if_pos hy, if_pos (by omega)]
      congr 2
      omega
    · rw [if_neg hy, if_neg hy, ih (by omega)]
      by_cases hp : placeIn (d.drop (d.length - k)) y < k
      · rw [if_pos hp, if_pos (by omega)]
        congr 2
        omega
      · rw [if_neg hp, if_neg (by omega)]
theorem firstM_all (d : List Int) (y : Int) : firstM d d.length y = if placeIn d y < d.length then some ((placeIn d y : Nat) : Int) else none := by
  have h := firstM_at d y d.length (Nat.le_refl _)
  rw [Nat.sub_self, List.drop_zero] at h
  rw [h]
  simp
theorem firstM_some (d : List Int) (y : Int) : (firstM d d.length y).isSome = decide (placeIn d y < d.length) := by
  rw [firstM_all]
  split <;> simp_all
theorem firstM_getD (d : List Int) (y : Int) : (firstM d d.length y).getD (d.length : Int) = ((placeIn d y : Nat) : Int) := by
  rw [firstM_all]
  have := placeIn_le d y
  split
  · rfl
  · show (d.length : Int) = _
    omega
end Go.Proofs.Ythjjjnapcbkhjab
