/-
  Plain: how great what is picked is, and that the program's choice of rows is it.
-/
import Derived.Test.YtfmheanmkfdjnapRowsM
import Derived.Test.YtfmheanmkfdjnapCutI
namespace Go.Proofs.Ytfmheanmkfdjnap
set_option linter.unusedVariables false
theorem prodV_app (s u : List Int) : prodV (s ++ u) = prodV s * prodV u := by
  induction s with
  | nil => rw [List.nil_append, show prodV [] = 1 from rfl, Int.one_mul]
  | cons x s ih => rw [List.cons_append, prodV_cons5, prodV_cons5, ih, Int.mul_assoc]
theorem pick_size {s d t e : List Int} (h1 : arrOk s d = true) (h2 : arrOk t e = true) (hz : 0 ≤ sizeV (pickS s t)) : 0 ≤ sizeV ((d.length : Int) :: t.drop 1) := by
  obtain ⟨k1, k2, k3, k4⟩ := sizeV_ok hz
  have e1 := arrOk_size h1
  have e2 := (sizeV_ok (arrOk_shape h1)).2.2.2
  have e3 := arrOk_len h1
  have e4 := (sizeV_ok (arrOk_shape h2)).1
  unfold pickS at k2 k3
  rw [prodV_app] at k3
  rw [List.all_append, Bool.and_eq_true] at k2
  have hp : prodV ((d.length : Int) :: t.drop 1) = prodV s * prodV (t.drop 1) := by rw [prodV_cons5, ← e2, e1]
  have p0 := (prodV_bd (t.drop 1) k2.2).1
  have q0 := (prodV_bd s (sizeV_ok (arrOk_shape h1)).2.1).1
  have hm := Int.mul_nonneg q0 p0
  unfold sizeV
  rw [if_neg (by simp; omega), if_pos (by rw [List.all_cons, Bool.and_eq_true]; exact ⟨by simp [dimOk]; omega, k2.2⟩), hp, if_neg (by omega)]
  exact hm
theorem pick_chosen {d t e : List Int} (h2 : arrOk t e = true) (ht : t ≠ []) (h : ∀ j, j < d.length → noRow (t.getD 0 0) (d.getD j 0) = false) : chosenD t e (fun k => (rowNo (t.getD 0 0) (d.getD k 0) : Int)) d.length = pickD d t e := by
  unfold chosenD pickD
  rw [List.flatMap_def, List.flatMap_def]
  congr 1
  apply List.map_congr_left
  intro i hi
  have hi' : i < d.length := by simpa using hi
  dsimp only
  have q := (rowNo_bd (h i hi')).1
  have hd := (head_bd h2).1
  unfold chosenRow
  rw [if_pos ⟨by omega, by omega⟩, Int.toNat_natCast]
theorem any_none {d : List Int} {φ : Int → Bool} : d.any φ = false ↔ ∀ j, j < d.length → φ (d.getD j 0) = false := by
  constructor
  · intro h j hj
    rw [List.any_eq_false] at h
    have := h (d.getD j 0) (by simp [hj])
    simpa using this
  · intro h
    rw [List.any_eq_false]
    intro y hy
    obtain ⟨j, hj, rfl⟩ := List.getElem_of_mem hy
    have := h j hj
    rw [List.getD_eq_getElem?_getD, List.getElem?_eq_getElem hj] at this
    simpa using this
theorem pickC_zero {s d t e : List Int} (h : pickC s d t e = 0) : arrOk s d = true ∧ arrOk t e = true ∧ t ≠ [] ∧ s.length + t.length ≤ 4 ∧ (∀ j, j < d.length → noRow (t.getD 0 0) (d.getD j 0) = false) ∧ 0 ≤ sizeV (pickS s t) := by
  unfold pickC at h
  by_cases q : arrOk s d = true ∧ arrOk t e = true
  · rw [if_pos q] at h
    by_cases q2 : t = [] ∨ 4 < s.length + t.length
    · rw [if_pos q2] at h; cases h
    · rw [if_neg q2] at h
      by_cases q3 : d.any (noRow (t.getD 0 0)) = true
      · rw [if_pos q3] at h; cases h
      · rw [if_neg q3] at h
        by_cases q4 : sizeV (pickS s t) < 0
        · rw [if_pos q4] at h; cases h
        · exact ⟨q.1, q.2, fun k => q2 (.inl k), by omega, any_none.1 (by simpa using q3), by omega⟩
  · rw [if_neg q] at h; cases h
theorem flat_le (n m : Nat) (f : Nat → List Int) (h : ∀ i, (f i).length ≤ m) : ((List.range n).flatMap f).length ≤ n * m := by
  induction n with
  | zero => simp
  | succ n ih =>
    have e : [n].flatMap f = f n := by simp
    rw [List.range_succ, List.flatMap_append, List.length_append, Nat.succ_mul, e]
    have := h n
    omega
theorem pick_len {s d t e : List Int} (h : pickC s d t e = 0) : (pickS s t).length ≤ 1048576 ∧ (pickD d t e).length ≤ 1048576 := by
  obtain ⟨h1, h2, h3, h4, _, _⟩ := pickC_zero h
  have e1 := arrOk_len h1
  have e2 := arrOk_len h2
  constructor
  · unfold pickS; rw [List.length_append, List.length_drop]; omega
  · unfold pickD
    have := flat_le d.length 300 (fun i => rowAt t e (rowNo (t.getD 0 0) (d.getD i 0))) (fun i => by unfold rowAt; rw [List.length_take, List.length_drop]; omega)
    have h3 : d.length * 300 ≤ 300 * 300 := Nat.mul_le_mul_right _ (by omega)
    omega
end Go.Proofs.Ytfmheanmkfdjnap
