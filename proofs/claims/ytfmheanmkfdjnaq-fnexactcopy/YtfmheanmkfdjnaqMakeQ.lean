/-
  Plain: rows in order, from one on: what Take and Drop are made of.
-/
import Derived.Test.YtfmheanmkfdjnaqCutI
import Derived.Test.YtfmheanmkfdjnaqImplMake1
namespace Go.Proofs.Ytfmheanmkfdjnaq
set_option linter.unusedVariables false
theorem chosen_in {s d : List Int} (ho : arrOk s d = true) (hs : s ≠ []) {f : Nat} {φ : Nat → Int} : ∀ (n : Nat), f + n ≤ rowsN s → (∀ k, k < n → φ k = ((f + k : Nat) : Int)) → chosenD s d φ n = (d.drop (f * rowN s)).take (n * rowN s) := by
  have e2 := (rowsN5 ho).2
  intro n
  induction n with
  | zero => intro _ _; simp [chosenD]
  | succ n ih =>
    intro h hφ
    rw [chosenD_succ, ih (by omega) (fun k hk => hφ k (by omega)), Nat.succ_mul, List.take_add, List.drop_drop]
    congr 1
    unfold chosenRow
    rw [hφ n (by omega), if_pos ⟨by omega, by rw [e2]; omega⟩, Int.toNat_natCast]
    unfold rowAt
    rw [Nat.add_mul]
theorem chosen_out {s d : List Int} {φ : Nat → Int} : ∀ (n : Nat), (∀ k, k < n → ¬ (0 ≤ φ k ∧ φ k < s.getD 0 0)) → chosenD s d φ n = List.replicate (n * rowN s) 0 := by
  intro n
  induction n with
  | zero => intro _; simp [chosenD]
  | succ n ih =>
    intro h
    rw [chosenD_succ, ih (fun k hk => h k (by omega))]
    unfold chosenRow
    rw [if_neg (h n (by omega)), List.replicate_append_replicate, Nat.succ_mul]
theorem chosen_add (s d : List Int) (φ : Nat → Int) (m : Nat) : ∀ n, chosenD s d φ (m + n) = chosenD s d φ m ++ chosenD s d (fun k => φ (m + k)) n := by
  intro n
  induction n with
  | zero => simp [chosenD]
  | succ n ih => rw [← Nat.add_assoc, chosenD_succ, ih, chosenD_succ, List.append_assoc]
theorem rowsS_ok {t e : List Int} (h : arrOk t e = true) : arrOk (rowsS t) e = true ∧ rowsS t ≠ [] ∧ vecS t e = rowsS t := by
  unfold rowsS vecS
  by_cases ht : t = []
  · subst ht
    have z := arrOk_size h
    rw [sizeV_0'] at z
    have e1 : e.length = 1 := by omega
    refine ⟨?_, by simp, by rw [if_pos rfl, if_pos rfl, e1]; rfl⟩
    unfold arrOk at *
    rw [if_pos rfl]
    rw [Bool.and_eq_true] at *
    exact ⟨by rw [e1]; decide, h.2⟩
  · rw [if_neg ht, if_neg ht]
    exact ⟨h, ht, rfl⟩
theorem take_chosen {t e : List Int} {x : Int} (h : arrOk t e = true) : chosenD (rowsS t) e (fun k => (if x < 0 then (rowsS t).getD 0 0 + x else 0) + (k : Int)) (manyV x).toNat = takeD x t e := by
  obtain ⟨ho, hs, hv⟩ := rowsS_ok h
  obtain ⟨e1, e2⟩ := rowsN5 ho
  have q := rows5 ho hs
  unfold takeD haveN
  rw [hv]
  generalize hM : (manyV x).toNat = M
  generalize hH : min M (rowsN (rowsS t)) = H
  by_cases hx : 0 ≤ x
  · rw [if_pos hx]
    have : M = H + (M - H) := by omega
    conv => lhs; rw [this]
    rw [chosen_add, chosen_in ho hs (f := 0) H (by omega) (fun k hk => by rw [if_neg (by omega)]; omega), chosen_out (M - H) (fun k hk => by rw [if_neg (by omega), e2]; omega)]
    simp
  · rw [if_neg hx]
    have hm : (M : Int) = -x := by rw [← hM]; unfold manyV; rw [if_neg (by omega)]; omega
    have : M = (M - H) + H := by omega
    conv => lhs; rw [this]
    rw [chosen_add, chosen_out (M - H) (fun k hk => by rw [if_pos (by omega), e2]; omega), chosen_in ho hs (f := rowsN (rowsS t) - H) H (by omega) (fun k hk => by rw [if_pos (by omega), e2]; omega)]
    congr 1
    apply List.take_of_length_le
    rw [List.length_drop, ← q, ← Nat.sub_mul]
    apply Nat.mul_le_mul_right
    omega
theorem drop_chosen {t e : List Int} {x : Int} (h : arrOk t e = true) : chosenD (rowsS t) e (fun k => (if x < 0 then 0 else x) + (k : Int)) (rowsN (vecS t e) - haveN x t e) = dropD x t e := by
  obtain ⟨ho, hs, hv⟩ := rowsS_ok h
  obtain ⟨e1, e2⟩ := rowsN5 ho
  have q := rows5 ho hs
  unfold dropD haveN
  rw [hv]
  generalize hM : (manyV x).toNat = M
  generalize hH : min M (rowsN (rowsS t)) = H
  by_cases hx : 0 ≤ x
  · rw [if_pos hx]
    have hm : (M : Int) = x := by rw [← hM]; unfold manyV; split <;> omega
    by_cases hc : M ≤ rowsN (rowsS t)
    · rw [chosen_in ho hs (f := H) (rowsN (rowsS t) - H) (by omega) (fun k hk => by rw [if_neg (by omega)]; omega)]
      apply List.take_of_length_le
      rw [List.length_drop, ← q, ← Nat.sub_mul]
      exact Nat.le_refl _
    · have hz : rowsN (rowsS t) - H = 0 := by omega
      have hz2 : H = rowsN (rowsS t) := by omega
      rw [hz, hz2, q, List.drop_length]
      rfl
  · rw [if_neg hx]
    rw [chosen_in ho hs (f := 0) (rowsN (rowsS t) - H) (by omega) (fun k hk => by rw [if_pos (by omega)]; omega)]
    simp
theorem drop_count {t e : List Int} {x : Int} (h : arrOk t e = true) : (((rowsN (vecS t e) - haveN x t e : Nat)) : Int) = max (if x < 0 then (rowsS t).getD 0 0 + x else (rowsS t).getD 0 0 - x) 0 := by
  obtain ⟨ho, hs, hv⟩ := rowsS_ok h
  obtain ⟨e1, e2⟩ := rowsN5 ho
  unfold haveN manyV
  rw [hv, e2]
  by_cases hx : x < 0
  · rw [if_pos hx, if_neg (by omega)]; omega
  · rw [if_neg hx]; split <;> omega
end Go.Proofs.Ytfmheanmkfdjnaq
namespace Go.Proofs.Ytfmheanmkfdjnaq
set_option linter.unusedVariables false
theorem join_right {m n : Int} {tl d e : List Int} (h1 : arrOk (m :: tl) d = true) (h2 : arrOk (n :: tl) e = true) (hz : 0 ≤ sizeV ((m + n) :: tl)) : arrOk ((m + n) :: tl) (d ++ e) = true := by
  have k1 := (sizeV_ok (arrOk_shape h1)).2.2.2
  have k2 := (sizeV_ok (arrOk_shape h2)).2.2.2
  have k3 := (sizeV_ok hz).2.2.2
  have z1 := arrOk_size h1
  have z2 := arrOk_size h2
  rw [prodV_cons5] at k1 k2 k3
  have hd : d.all ok = true := by unfold arrOk at h1; rw [Bool.and_eq_true] at h1; exact h1.2
  have he : e.all ok = true := by unfold arrOk at h2; rw [Bool.and_eq_true] at h2; exact h2.2
  unfold arrOk
  rw [Bool.and_eq_true]
  refine ⟨?_, by rw [List.all_append, hd, he]; rfl⟩
  rw [decide_eq_true_eq, List.length_append, k3, Int.add_mul]
  push_cast
  omega
theorem rows_cons {t e : List Int} (h : arrOk t e = true) : ∃ m tl, rowsS t = m :: tl ∧ 0 ≤ m ∧ m ≤ 300 ∧ arrOk (m :: tl) e = true ∧ tl.length ≤ 2 := by
  obtain ⟨r1, r2, r3⟩ := rowsS_ok h
  have hb := head_bd r1
  have hl := (sizeV_ok (arrOk_shape r1)).1
  cases hq : rowsS t with
  | nil => exact absurd hq r2
  | cons m tl =>
    rw [hq] at r1 hb hl
    simp at hb hl
    exact ⟨m, tl, rfl, by omega, by omega, r1, by omega⟩
/-- Join, told by the heads and tails of the two shapes. -/
theorem joinR_bad {s d t e : List Int} (h : ¬ (arrOk s d = true ∧ arrOk t e = true)) : joinR s d t e = (1, [], []) := by
  unfold joinR joinC; rw [if_neg h]; rfl
theorem joinR_told {s d t e : List Int} (h1 : arrOk s d = true) (h2 : arrOk t e = true) {m n : Int} {tl tl' : List Int} (q1 : rowsS s = m :: tl) (q2 : rowsS t = n :: tl') :
    joinR s d t e = if tl.length ≠ tl'.length then (4, [], []) else if tl ≠ tl' then (3, [], []) else if 0 ≤ sizeV ((m + n) :: tl) then (0, (m + n) :: tl, d ++ e) else (6, [], []) := by
  obtain ⟨r1, _, r3⟩ := rowsS_ok h1
  obtain ⟨u1, _, u3⟩ := rowsS_ok h2
  rw [q1] at r1 r3
  rw [q2] at u1 u3
  unfold joinR joinC joinS
  rw [if_pos ⟨h1, h2⟩, r3, u3]
  simp only [List.length_cons, List.drop_succ_cons, List.drop_zero, List.getD_cons_zero]
  by_cases l : tl.length = tl'.length
  · rw [if_neg (show ¬ (tl.length + 1 ≠ tl'.length + 1) by omega), if_neg (show ¬ (tl.length ≠ tl'.length) by omega)]
    by_cases q : tl = tl'
    · rw [if_neg (show ¬ (tl ≠ tl') from fun k => k q), if_neg (show ¬ (tl ≠ tl') from fun k => k q)]
      by_cases z : 0 ≤ sizeV ((m + n) :: tl)
      · rw [if_pos (join_right r1 (by rw [q]; exact u1) z), mkR_good, if_pos z]
      · rw [if_neg (show ¬ (arrOk ((m + n) :: tl) (d ++ e) = true) from fun k => z (arrOk_shape k)), mkR_bad (by decide), if_neg z]
    · rw [if_pos (show tl ≠ tl' from q), if_pos (show tl ≠ tl' from q), mkR_bad (by decide)]
  · rw [if_pos (show tl.length + 1 ≠ tl'.length + 1 by omega), if_pos (show tl.length ≠ tl'.length from l), mkR_bad (by decide)]
end Go.Proofs.Ytfmheanmkfdjnaq
