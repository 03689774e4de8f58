/-
  Plain: rows of an array that are chosen by their numbers.
-/
import Derived.Test.YtbmkfmppcojcgaaMakeM
import Derived.Test.YtbmkfmppcojcgaaCutI
namespace Go.Proofs.Ytbmkfmppcojcgaa
set_option linter.unusedVariables false
theorem foldl_mul5 (a : Int) (l : List Int) : l.foldl (fun x y => x * y) a = a * l.foldl (fun x y => x * y) 1 := by
  induction l generalizing a with
  | nil => simp
  | cons x l ih => rw [List.foldl_cons, List.foldl_cons, ih (a * x), ih (1 * x), Int.one_mul, Int.mul_assoc]
theorem prodV_cons5 (x : Int) (l : List Int) : prodV (x :: l) = x * prodV l := by
  unfold prodV
  rw [List.foldl_cons, foldl_mul5, Int.one_mul]
theorem tail5 {n0 : Int} {t : List Int} (h : 0 ≤ sizeV (n0 :: t)) (hp : 0 < n0) : 0 ≤ sizeV t ∧ n0 * sizeV t = sizeV (n0 :: t) ∧ sizeV t ≤ 300 := by
  obtain ⟨k1, k2, k3, k4⟩ := sizeV_ok h
  rw [prodV_cons5] at k3 k4
  simp only [List.all_cons, Bool.and_eq_true] at k2
  have p0 := (prodV_bd t k2.2).1
  have p1 : 1 * prodV t ≤ n0 * prodV t := Int.mul_le_mul_of_nonneg_right (by omega) p0
  rw [Int.one_mul] at p1
  have e : sizeV t = prodV t := by
    unfold sizeV
    rw [if_neg (by simp at k1; omega), if_pos k2.2, if_neg (by omega)]
  rw [e]
  exact ⟨p0, by rw [← k4], by omega⟩
theorem zero5 {t : List Int} (h : 0 ≤ sizeV (0 :: t)) : sizeV (0 :: t) = 0 := by
  rw [(sizeV_ok h).2.2.2, prodV_cons5, Int.zero_mul]
theorem dim5 {n0 : Int} {t : List Int} (h : 0 ≤ sizeV (n0 :: t)) : 0 ≤ n0 ∧ n0 ≤ 300 := by
  have := (sizeV_ok h).2.1
  rw [List.all_eq_true] at this
  have := this n0 (by simp)
  simpa [dimOk] using this
theorem rowsN5 {s d : List Int} (ho : arrOk s d = true) : rowsN s ≤ 300 ∧ s.getD 0 0 = (rowsN s : Int) := by
  have := head_bd ho
  unfold rowsN
  omega
theorem rows5 {s d : List Int} (ho : arrOk s d = true) (hs : s ≠ []) : rowsN s * rowN s = d.length := by
  obtain ⟨e1, e2⟩ := rowsN5 ho
  have z := arrOk_size ho
  have h := arrOk_shape ho
  cases s with
  | nil => exact absurd rfl hs
  | cons n0 t =>
    have h0 : n0 = (rowsN (n0 :: t) : Int) := e2
    have : rowN (n0 :: t) = (sizeV t).toNat := rfl
    by_cases hp : 0 < n0
    · obtain ⟨p0, p1, p2⟩ := tail5 h hp
      have q : ((rowsN (n0 :: t) * rowN (n0 :: t) : Nat) : Int) = (d.length : Int) := by
        rw [this, Int.natCast_mul, ← h0, Int.toNat_of_nonneg p0, p1, z]
      omega
    · have hz : rowsN (n0 :: t) = 0 := by omega
      have e : n0 = 0 := by omega
      subst e
      rw [zero5 h] at z
      rw [hz, Nat.zero_mul]
      omega
/-- One chosen row: that of a number, or noughts. -/
def chosenRow (s d : List Int) (j : Int) : List Int := if 0 ≤ j ∧ j < s.getD 0 0 then rowAt s d j.toNat else List.replicate (rowN s) 0
def chosenD (s d : List Int) (φ : Nat → Int) (n : Nat) : List Int := (List.range n).flatMap fun i => chosenRow s d (φ i)
theorem rowAt_length {s d : List Int} (ho : arrOk s d = true) (hs : s ≠ []) {i : Nat} (hi : i < rowsN s) : (rowAt s d i).length = rowN s := by
  have q := rows5 ho hs
  have : (i + 1) * rowN s ≤ rowsN s * rowN s := Nat.mul_le_mul_right _ (by omega)
  rw [Nat.succ_mul] at this
  unfold rowAt
  simp
  omega
theorem chosenRow_length {s d : List Int} (ho : arrOk s d = true) (hs : s ≠ []) (j : Int) : (chosenRow s d j).length = rowN s := by
  unfold chosenRow
  split
  · rename_i h
    have := (rowsN5 ho).2
    exact rowAt_length ho hs (by omega)
  · simp
theorem flat_len {n m : Nat} {f : Nat → List Int} (h : ∀ i, (f i).length = m) : ((List.range n).flatMap f).length = n * m := by
  induction n with
  | zero => simp
  | succ n ih => rw [List.range_succ, List.flatMap_append, List.length_append, ih, Nat.succ_mul]; simp [h]
theorem chosenD_length {s d : List Int} (ho : arrOk s d = true) (hs : s ≠ []) (φ : Nat → Int) (n : Nat) : (chosenD s d φ n).length = n * rowN s := flat_len (fun i => chosenRow_length ho hs (φ i))
theorem chosenD_succ (s d : List Int) (φ : Nat → Int) (n : Nat) : chosenD s d φ (n + 1) = chosenD s d φ n ++ chosenRow s d (φ n) := by
  unfold chosenD; rw [List.range_succ, List.flatMap_append]; simp
/-- The first k rows of n are chosen. -/
def chosenTo (s d : List Int) (φ : Nat → Int) (n k : Nat) : List Int := chosenD s d φ k ++ List.replicate ((n - k) * rowN s) 0
theorem chosenTo_zero (s d : List Int) (φ : Nat → Int) (n : Nat) : chosenTo s d φ n 0 = List.replicate (n * rowN s) 0 := by simp [chosenTo, chosenD]
theorem chosenTo_all (s d : List Int) (φ : Nat → Int) (n : Nat) : chosenTo s d φ n n = chosenD s d φ n := by simp [chosenTo]
theorem chosenTo_length {s d : List Int} (ho : arrOk s d = true) (hs : s ≠ []) (φ : Nat → Int) {n k : Nat} (hk : k ≤ n) : (chosenTo s d φ n k).length = n * rowN s := by
  unfold chosenTo
  rw [List.length_append, chosenD_length ho hs, List.length_replicate, ← Nat.add_mul]
  congr 1
  omega
theorem chosenTo_no {s d : List Int} {φ : Nat → Int} {n k : Nat} (hk : k < n) (h : ¬ (0 ≤ φ k ∧ φ k < s.getD 0 0)) : chosenTo s d φ n k = chosenTo s d φ n (k + 1) := by
  unfold chosenTo
  rw [chosenD_succ]
  unfold chosenRow
  rw [if_neg h, List.append_assoc, List.replicate_append_replicate]
  congr 2
  rw [show n - k = (n - (k + 1)) + 1 by omega, Nat.succ_mul, Nat.add_comm]
theorem chosenTo_yes {s d : List Int} (ho : arrOk s d = true) (hs : s ≠ []) {φ : Nat → Int} {n k : Nat} (hk : k < n) (h : 0 ≤ φ k ∧ φ k < s.getD 0 0) : paste (chosenTo s d φ n k) (k * rowN s) (d.drop ((φ k).toNat * rowN s)) (rowN s) = chosenTo s d φ n (k + 1) := by
  have l0 := chosenD_length ho hs φ k
  unfold paste chosenTo
  rw [chosenD_succ]
  have e1 : chosenRow s d (φ k) = (d.drop ((φ k).toNat * rowN s)).take (rowN s) := by unfold chosenRow; rw [if_pos h]; rfl
  have e2 : (chosenD s d φ k).drop (k * rowN s + rowN s) = [] := List.drop_of_length_le (by omega)
  rw [e1, List.take_append_of_le_length (by omega), List.take_of_length_le (by omega), List.drop_append, l0, e2, List.nil_append, List.drop_replicate]
  congr 2
  rw [show n - k = (n - (k + 1)) + 1 by omega, Nat.succ_mul]
  omega
end Go.Proofs.Ytbmkfmppcojcgaa
