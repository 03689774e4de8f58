/-
  Plain arithmetic of Reduce: row by row, as a loop from the end does it; no Go in sight.
-/
import Derived.Test.YtbmkfmppcojcgaaReduceM
namespace Go.Proofs.Ytbmkfmppcojcgaa
set_option linter.unusedVariables false
/-- From the last row on, by those that were told. -/
def accR (g : Int) (t : List Int) (R : List (List Int)) (m : Nat) (pre : List (Fin m)) : Int × List Int :=
  pre.foldl (fun acc x => if acc.1 = 0 then (eachTwoC g t (R.getD (m - 1 - x.1) []) t acc.2, eachTwoD g t (R.getD (m - 1 - x.1) []) t acc.2) else acc) (0, R.getD m [])
theorem accR_nil (g : Int) (t : List Int) (R : List (List Int)) (m : Nat) : accR g t R m [] = (0, R.getD m []) := rfl
theorem accR_snoc {g : Int} {t : List Int} {R : List (List Int)} {m : Nat} {pre : List (Fin m)} {D : List Int} (x : Fin m) (h : accR g t R m pre = (0, D)) : accR g t R m (pre ++ [x]) = (eachTwoC g t (R.getD (m - 1 - x.1) []) t D, eachTwoD g t (R.getD (m - 1 - x.1) []) t D) := by
  have h' := h
  unfold accR at h' ⊢
  rw [List.foldl_append, h']
  rfl
theorem accR_stop {g : Int} {t : List Int} {R : List (List Int)} {m : Nat} {pre : List (Fin m)} (x : Fin m) (h : (accR g t R m pre).1 ≠ 0) : accR g t R m (pre ++ [x]) = accR g t R m pre := by
  have h' := h
  unfold accR at h' ⊢
  rw [List.foldl_append, List.foldl_cons, List.foldl_nil, if_neg h']
theorem accR_to {g : Int} {t : List Int} {R : List (List Int)} {m : Nat} (hR : R.length = m + 1) : ∀ k, k ≤ m → accR g t R m ((List.finRange m).take k) = redL g t (R.drop (m - k)) := by
  intro k
  induction k with
  | zero =>
    intro _
    rw [List.take_zero, accR_nil, Nat.sub_zero, drop_at (by omega), List.drop_eq_nil_of_le (by omega), redL_one]
  | succ k ih =>
    intro hk
    have q := ih (by omega)
    have e : (List.finRange m).take (k + 1) = (List.finRange m).take k ++ [⟨k, by omega⟩] := by
      rw [List.take_succ_eq_append_getElem (by rw [List.length_finRange]; omega)]
      simp
    rw [e, drop_at (R := R) (i := m - (k + 1)) (by omega), show m - (k + 1) + 1 = m - k by omega]
    by_cases h0 : (redL g t (R.drop (m - k))).1 = 0
    · have h1 : accR g t R m ((List.finRange m).take k) = (0, (redL g t (R.drop (m - k))).2) := by rw [q]; exact Prod.ext h0 rfl
      rw [accR_snoc _ h1, redL_cons (by intro e; have := congrArg List.length e; rw [List.length_drop, List.length_nil] at this; omega) h0]
      simp only []
      rw [show m - 1 - k = m - (k + 1) by omega]
    · rw [accR_stop _ (by rw [q]; exact h0), q, redL_stop h0]
      exact Prod.ext rfl (redL_none h0)
theorem accR_len {g : Int} {t : List Int} {R : List (List Int)} {m : Nat} (h : (R.getD m []).length ≤ 300) (pre : List (Fin m)) : (accR g t R m pre).2.length ≤ 300 := by
  unfold accR
  have key : ∀ (pre : List (Fin m)) (acc : Int × List Int), acc.2.length ≤ 300 → (pre.foldl (fun acc x => if acc.1 = 0 then (eachTwoC g t (R.getD (m - 1 - x.1) []) t acc.2, eachTwoD g t (R.getD (m - 1 - x.1) []) t acc.2) else acc) acc).2.length ≤ 300 := by
    intro pre
    induction pre with
    | nil => intro acc ha; exact ha
    | cons x xs ih =>
      intro acc ha
      rw [List.foldl_cons]
      apply ih
      split
      · exact eachTwoD_len _ _ _ _ _
      · exact ha
  exact key pre _ h
end Go.Proofs.Ytbmkfmppcojcgaa
