/-
  Plain facts on what One, Two and Neutral answer, for the law FnNums; no Go in sight.
-/
import Derived.Test.YtidhfgncebaphabMath
namespace Go.Proofs.Ytidhfgncebaphab
/-- An answer of Two is right, or has a code and is 0. -/
theorem two_fact {s a b x c : Int} (h : twoV s a b = (x, c)) : (c = 0 → ok x = true) ∧ (c ≠ 0 → x = 0) := by
  unfold twoV at h
  split at h
  · simp at h; omega
  · split at h
    · have h1 : limV (twoX s a b) = x := congrArg Prod.fst h
      have h2 : limC (twoX s a b) = c := congrArg Prod.snd h
      by_cases k : ok (twoX s a b) = true
      · rw [(lim_yes k).1] at h1; rw [(lim_yes k).2] at h2; subst h1 h2; exact ⟨fun _ => k, fun e => (e rfl).elim⟩
      · have k : ok (twoX s a b) = false := by simpa using k
        rw [(lim_no k).1] at h1; rw [(lim_no k).2] at h2; subst h1 h2; exact ⟨(fun e => by cases e), fun _ => rfl⟩
    · rename_i hne
      have h1 : (0 : Int) = x := congrArg Prod.fst h
      have h2 : twoC s b = c := congrArg Prod.snd h
      exact ⟨fun e => (hne (h2.trans e)).elim, fun _ => h1.symm⟩
theorem one_fact {s a y d : Int} (h : oneV s a = (y, d)) : d = 0 → ok y = true := by
  intro e
  by_cases k : ok a = true
  · obtain ⟨a1, a2⟩ := ok_bd k
    by_cases hs : sign1 s = true
    · rcases sign1_of hs with rfl | rfl | rfl | rfl | rfl
      · rw [oneV_43 k] at h; simp at h; rw [← h.1]; exact k
      · rw [oneV_45 k] at h; simp at h; rw [← h.1]; exact ok_mk (by omega) (by omega)
      · rw [oneV_42 k] at h; simp at h; rw [← h.1]; unfold sgn; exact ok_mk (by split <;> (try split) <;> omega) (by split <;> (try split) <;> omega)
      · rw [oneV_124 k] at h; simp at h; rw [← h.1]; exact ok_mk (by have := mag_bd a1 a2; omega) (mag_bd a1 a2).2
      · rw [oneV_126 k] at h; simp at h; rw [← h.1]; unfold invV; exact ok_mk (by split <;> omega) (by split <;> omega)
    · have hs : sign1 s = false := by simpa using hs
      rw [oneV_none hs] at h; simp at h; omega
  · have k : ok a = false := by simpa using k
    rw [oneV_bad k] at h; simp at h; omega
theorem neu_sign (s : Int) : (neu s).2 = sign2 s := by
  unfold neu
  by_cases h : sign2 s = true
  · rw [h]
    rcases sign2_of h with rfl | rfl | rfl | rfl | rfl | rfl | rfl | rfl | rfl | rfl <;> simp
  · have h : sign2 s = false := by simpa using h
    rw [h]
    simp [sign2] at h
    simp [h]
/-- Of right numbers a sign of two has no code of its own. -/
theorem two_code {s a b x c : Int} (h : twoV s a b = (x, c)) (ka : ok a = true) (kb : ok b = true) (hs : sign2 s = true) : c ≠ 1 := by
  intro e
  subst e
  have h2 : (twoV s a b).2 = 1 := by rw [h]
  simp only [twoV, ka, kb, hs] at h2
  simp at h2
  split at h2
  · simp only [limC] at h2; split at h2 <;> cases h2
  · simp only [twoC] at h2; split at h2 <;> cases h2
theorem mn_top {b : Int} (h : b ≤ 1000000000000) : mn 1000000000000 b = b := by unfold mn; split <;> omega
theorem mx_low {b : Int} (h : -1000000000000 ≤ b) : mx (-1000000000000) b = b := by unfold mx; split <;> omega
end Go.Proofs.Ytidhfgncebaphab
