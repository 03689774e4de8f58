/-
  Plain: the rows of an array, and how long they are.
-/
import Derived.Test.YtcaidhmolnnikaaDoorArrs
import Derived.Test.YtcaidhmolnnikaaDoorArrM
namespace Go.Proofs.YtcaidhmolnnikaaDoor
set_option linter.unusedVariables false
/-- The rows of an array, shape and numbers of each in turn. -/
def rowsF (s d : List Int) : List (List Int) := if arrOk s d = true ∧ s ≠ [] then (List.range (s.getD 0 0).toNat).flatMap (fun i => [s.drop 1, (d.drop (i * (sizeV (s.drop 1)).toNat)).take (sizeV (s.drop 1)).toNat]) else []
theorem flat2_length (n : Nat) (f : Nat → List (List Int)) (hf : ∀ i, (f i).length = 2) : ((List.range n).flatMap f).length = 2 * n := by
  induction n with
  | zero => rfl
  | succ n ih => rw [List.range_succ, List.flatMap_append, List.length_append, ih]; simp [hf]; omega
theorem head_bd {s d : List Int} (h : arrOk s d = true) : 0 ≤ s.getD 0 0 ∧ s.getD 0 0 ≤ 300 := by
  obtain ⟨k1, k2, _, _⟩ := sizeV_ok (arrOk_shape h)
  cases s with
  | nil => simp
  | cons x t =>
    simp only [List.all_cons, Bool.and_eq_true] at k2
    simpa using dimOk_bd k2.1
theorem rowsF_length (s d : List Int) : (rowsF s d).length = if arrOk s d = true ∧ s ≠ [] then 2 * (s.getD 0 0).toNat else 0 := by
  unfold rowsF
  split
  · exact flat2_length _ _ (fun i => rfl)
  · rfl
theorem rowsF_len (s d : List Int) : (rowsF s d).length ≤ 600 := by
  rw [rowsF_length]
  split
  · rename_i h
    have := head_bd h.1
    omega
  · omega
theorem rowsF_mem {s d : List Int} {x : List Int} (h : x ∈ rowsF s d) : x.length ≤ 300 := by
  unfold rowsF at h
  split at h
  · rename_i ho
    obtain ⟨i, _, hx⟩ := List.mem_flatMap.1 h
    have h3 := (sizeV_ok (arrOk_shape ho.1)).1
    have h4 := arrOk_len ho.1
    simp at hx
    rcases hx with rfl | rfl
    · simp; omega
    · simp; omega
  · cases h
theorem rowsF_each (s d : List Int) : ∀ j, ((rowsF s d).getD j []).length ≤ 300 := by
  intro j
  by_cases h : j < (rowsF s d).length
  · have e : (rowsF s d).getD j [] = (rowsF s d)[j] := by simp [h]
    rw [e]
    exact rowsF_mem (List.getElem_mem h)
  · have e : (rowsF s d).getD j [] = [] := by simp [List.getD, List.getElem?_eq_none (Nat.le_of_not_lt h)]
    rw [e]; simp
theorem sumTo_bound (F : List (List Int)) (m j : Nat) (h : ∀ j, (F.getD j []).length ≤ m) : sumTo F j ≤ j * m := by
  induction j with
  | zero => simp [sumTo]
  | succ j ih =>
    rw [sumTo_succ, Nat.succ_mul]
    have := h j
    omega
theorem rowsF_sum (s d : List Int) : sumTo (rowsF s d) (rowsF s d).length ≤ 180000 := by
  have h1 := sumTo_bound (rowsF s d) 300 (rowsF s d).length (rowsF_each s d)
  have h2 := rowsF_len s d
  omega
end Go.Proofs.YtcaidhmolnnikaaDoor
