/-
  Plain: an array that is rotated has the same rows, that of a number at that number from there.
-/
import Derived.Test.YtbmkfmppcojcgaaGreatSpecMake6
import Derived.Test.YtbmkfmppcojcgaaGreatRowsF
import Derived.Test.YtbmkfmppcojcgaaGreatMakeP
namespace Go.Proofs.YtbmkfmppcojcgaaGreat
set_option linter.unusedVariables false
theorem flat_at {N : Nat} {g : Nat → List Int} (k : Nat) : ∀ n, k < n → (∀ i, i < n → (g i).length = N) → (((List.range n).flatMap g).drop (k * N)).take N = g k ∧ ((List.range n).flatMap g).length = n * N := by
  intro n
  induction n with
  | zero => intro h; omega
  | succ n ih =>
    intro hk hg
    have hl : ∀ m, m ≤ n + 1 → ((List.range m).flatMap g).length = m * N := by
      intro m
      induction m with
      | zero => intro _; simp
      | succ m im => intro hm; rw [List.range_succ, List.flatMap_append, List.length_append, im (by omega), Nat.add_mul, Nat.one_mul]; simp [hg m (by omega)]
    refine ⟨?_, hl _ (Nat.le_refl _)⟩
    rw [List.range_succ, List.flatMap_append]
    have e : List.flatMap g [n] = g n := by simp
    rw [e]
    have h1 := hl n (by omega)
    by_cases hkn : k < n
    · obtain ⟨q, _⟩ := ih hkn (fun i hi => hg i (by omega))
      have hle : k * N + N ≤ n * N := by
        have : (k + 1) * N ≤ n * N := Nat.mul_le_mul_right N (by omega)
        rw [Nat.add_mul, Nat.one_mul] at this; exact this
      rw [List.drop_append_of_le_length (by omega), List.take_append_of_le_length (by rw [List.length_drop]; omega)]
      exact q
    · obtain rfl : k = n := by omega
      rw [← h1, List.drop_left, List.take_of_length_le (by rw [hg k (by omega)]; exact Nat.le_refl _)]
theorem rot_code {s d t f : List Int} (h : (rotateR s d t f).1 = 0) : (arrOk s d = true ∧ arrOk t f = true) ∧ d.length = 1 ∧ (rotateR s d t f).2.1 = t ∧ (rotateR s d t f).2.2 = rotateD (d.getD 0 0) t f := by
  unfold rotateR at h ⊢
  rw [mkR_code] at h
  rw [h, mkR_good]
  unfold oneC at h
  by_cases q : arrOk s d = true ∧ arrOk t f = true
  · rw [if_pos q] at h
    by_cases l : d.length ≠ 1
    · rw [if_pos l] at h; cases h
    · exact ⟨q, by simpa using l, rfl, rfl⟩
  · rw [if_neg q] at h; cases h
theorem rot_bad {s d t f : List Int} (h : (rotateR s d t f).1 ≠ 0) : (rotateR s d t f).2.2.length = 0 := by
  unfold rotateR at h ⊢
  rw [mkR_code] at h
  rw [mkR_bad h]; rfl
theorem rot_none {t f : List Int} {x : Int} (h : t = [] ∨ t.getD 0 0 = 0) : rotateD x t f = f := by unfold rotateD; rw [if_pos h]
theorem rowAt_len {t f : List Int} (ho : arrOk t f = true) (ht : t ≠ []) {i : Nat} (hi : i < rowsN t) : (rowAt t f i).length = rowN t := by
  have h := rows5 ho ht
  have : (i + 1) * rowN t ≤ rowsN t * rowN t := Nat.mul_le_mul_right _ (by omega)
  rw [Nat.add_mul, Nat.one_mul] at this
  unfold rowAt
  simp
  omega
theorem rot_rows {t f : List Int} (x : Int) (ho : arrOk t f = true) (hn : ¬ (t = [] ∨ t.getD 0 0 = 0)) :
    ∃ n : Nat, t.getD 0 0 = (n : Int) ∧ 0 < n ∧ n ≤ 300 ∧ (rowsF t f).length = 2 * n ∧ (rowsF t (rotateD x t f)).length = 2 * n ∧
      (Int.tmod (Int.tmod x n + n) n) = ((rotateBy x n : Nat) : Int) ∧ rotateBy x n < n ∧ (-(n : Int) < Int.tmod x n ∧ Int.tmod x n < n) ∧
      ∀ k, k < n → (rowsF t (rotateD x t f)).getD (2 * k) [] = (rowsF t f).getD (2 * ((k + rotateBy x n) % n)) [] ∧ (rowsF t (rotateD x t f)).getD (2 * k + 1) [] = (rowsF t f).getD (2 * ((k + rotateBy x n) % n) + 1) [] := by
  have ht : t ≠ [] := fun h => hn (.inl h)
  have h0 : t.getD 0 0 ≠ 0 := fun h => hn (.inr h)
  have hb := head_bd ho
  have hr : t.getD 0 0 = (rowsN t : Int) := by unfold rowsN; omega
  have hp : 0 < rowsN t := by omega
  have hlen : ∀ i, i < rowsN t → (rowAt t f ((i + rotateBy x (rowsN t)) % rowsN t)).length = rowN t := fun i _ => rowAt_len ho ht (Nat.mod_lt _ hp)
  have hD : rotateD x t f = (List.range (rowsN t)).flatMap (fun i => rowAt t f ((i + rotateBy x (rowsN t)) % rowsN t)) := by unfold rotateD; rw [if_neg hn]
  have hoD : arrOk t (rotateD x t f) = true := by
    have hz := arrOk_size ho
    have hl := (flat_at 0 (rowsN t) hp hlen).2
    rw [← hD, rows5 ho ht] at hl
    have hf : f.all ok = true := by unfold arrOk at ho; rw [Bool.and_eq_true] at ho; exact ho.2
    unfold arrOk
    rw [Bool.and_eq_true, hl]
    refine ⟨by simpa using hz, ?_⟩
    rw [List.all_eq_true] at hf ⊢
    intro y hy
    rw [hD, List.mem_flatMap] at hy
    obtain ⟨i, _, hy⟩ := hy
    exact hf y (List.mem_of_mem_drop (List.mem_of_mem_take hy))
  obtain ⟨q1, q2, q3⟩ := turn_num (x := x) hp
  have hF : ∀ e, arrOk t e = true → rowsF t e = (List.range (rowsN t)).flatMap (fun i => [t.drop 1, rowAt t e i]) := by
    intro e he
    unfold rowsF
    rw [if_pos ⟨he, ht⟩]; rfl
  refine ⟨rowsN t, hr, hp, by omega, ?_, ?_, q1, q2, q3, fun k hk => ?_⟩
  · rw [rowsF_length, if_pos ⟨ho, ht⟩]; rfl
  · rw [rowsF_length, if_pos ⟨hoD, ht⟩]; rfl
  · have a1 := flat2_at (rowsN t) k (fun _ => t.drop 1) (fun i => rowAt t (rotateD x t f) i) hk
    have a2 := flat2_at (rowsN t) ((k + rotateBy x (rowsN t)) % rowsN t) (fun _ => t.drop 1) (fun i => rowAt t f i) (Nat.mod_lt _ hp)
    rw [hF _ hoD, hF _ ho]
    rw [a1.1, a1.2, a2.1, a2.2]
    refine ⟨rfl, ?_⟩
    have := (flat_at k (rowsN t) hk hlen).1
    rw [← hD] at this
    exact this
end Go.Proofs.YtbmkfmppcojcgaaGreat
