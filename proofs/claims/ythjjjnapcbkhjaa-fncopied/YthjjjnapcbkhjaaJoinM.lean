/-
  Plain: when rows are joined, and what comes.
-/
import Derived.Test.YthjjjnapcbkhjaaMakeQ
namespace Go.Proofs.Ythjjjnapcbkhjaa
set_option linter.unusedVariables false
theorem join_right {m n : Int} {tl d e : List Int} (h1 : arrOk (m :: tl) d = true) (h2 : arrOk (n :: tl) e = true) (hz : 0 ≤ sizeV ((m + n) :: tl)) : arrOk ((m + n) :: tl) (d ++ e) = true := by
  have k1 := (sizeV_ok (arrOk_shape h1)).2.2.2
  have k2 := (sizeV_ok (arrOk_shape h2)).2.2.2
  have k3 := (sizeV_ok hz).2.2.2
  have z1 := arrOk_size h1
  have z2 := arrOk_size h2
  rw [prodV_cons5] at k1 k2 k3
  have hd : d.all ok = true := by unfold arrOk at h1; rw [Bool.and_eq_true] at h1; exact h1.2
  have he : e.all ok = true := by unfold arrOk at h2; rw [Bool.and_eq_true] at h2; exact h2.2
  unfold arrOk
  rw [Bool.and_eq_true]
  refine ⟨?_, by rw [List.all_append, hd, he]; rfl⟩
  rw [decide_eq_true_eq, List.length_append, k3, Int.add_mul]
  push_cast
  omega
theorem rows_cons {t e : List Int} (h : arrOk t e = true) : ∃ m tl, rowsS t = m :: tl ∧ 0 ≤ m ∧ m ≤ 300 ∧ arrOk (m :: tl) e = true ∧ tl.length ≤ 2 := by
  obtain ⟨r1, r2, r3⟩ := rowsS_ok h
  have hb := head_bd r1
  have hl := (sizeV_ok (arrOk_shape r1)).1
  cases hq : rowsS t with
  | nil => exact absurd hq r2
  | cons m tl =>
    rw [hq] at r1 hb hl
    simp at hb hl
    exact ⟨m, tl, rfl, by omega, by omega, r1, by omega⟩
/-- Join, told by the heads and tails of the two shapes. -/
theorem joinR_bad {s d t e : List Int} (h : ¬ (arrOk s d = true ∧ arrOk t e = true)) : joinR s d t e = (1, [], []) := by
  unfold joinR joinC; rw [if_neg h]; rfl
theorem joinR_told {s d t e : List Int} (h1 : arrOk s d = true) (h2 : arrOk t e = true) {m n : Int} {tl tl' : List Int} (q1 : rowsS s = m :: tl) (q2 : rowsS t = n :: tl') :
    joinR s d t e = if tl.length ≠ tl'.length then (4, [], []) else if tl ≠ tl' then (3, [], []) else if 0 ≤ sizeV ((m + n) :: tl) then (0, (m + n) :: tl, d ++ e) else (6, [], []) := by
  obtain ⟨r1, _, r3⟩ := rowsS_ok h1
  obtain ⟨u1, _, u3⟩ := rowsS_ok h2
  rw [q1] at r1 r3
  rw [q2] at u1 u3
  unfold joinR joinC joinS
  rw [if_pos ⟨h1, h2⟩, r3, u3]
  simp only [List.length_cons, List.drop_succ_cons, List.drop_zero, List.getD_cons_zero]
  by_cases l : tl.length = tl'.length
  · rw [if_neg (show ¬ (tl.length + 1 ≠ tl'.length + 1) by omega), if_neg (show ¬ (tl.length ≠ tl'.length) by omega)]
    by_cases q : tl = tl'
    · rw [if_neg (show ¬ (tl ≠ tl') from fun k => k q), if_neg (show ¬ (tl ≠ tl') from fun k => k q)]
      by_cases z : 0 ≤ sizeV ((m + n) :: tl)
      · rw [if_pos (join_right r1 (by rw [q]; exact u1) z), mkR_good, if_pos z]
      · rw [if_neg (show ¬ (arrOk ((m + n) :: tl) (d ++ e) = true) from fun k => z (arrOk_shape k)), mkR_bad (by decide), if_neg z]
    · rw [if_pos (show tl ≠ tl' from q), if_pos (show tl ≠ tl' from q), mkR_bad (by decide)]
  · rw [if_pos (show tl.length + 1 ≠ tl'.length + 1 by omega), if_pos (show tl.length ≠ tl'.length from l), mkR_bad (by decide)]
end Go.Proofs.Ythjjjnapcbkhjaa
