/-
  Plain: what is joined is taken and dropped again.
-/
import Derived.Test.YtfmheanmkfdjnacMakeQ
import Derived.Test.YtfmheanmkfdjnacCuts2
namespace Go.Proofs.Ytfmheanmkfdjnac
set_option linter.unusedVariables false
theorem scalar_right {m : Int} (h0 : 0 ≤ m) (h1 : m ≤ 300) : ok m = true ∧ arrOk [] [m] = true := by
  have : ok m = true := by simp [ok]; omega
  exact ⟨this, by simp [arrOk, sizeV, prodV, this]⟩
theorem joined_facts {m n : Int} {tl d e : List Int} (h1 : arrOk (m :: tl) d = true) (h2 : arrOk (n :: tl) e = true) (h3 : arrOk ((m + n) :: tl) (d ++ e) = true) :
    takeR [] [m] ((m + n) :: tl) (d ++ e) = (0, m :: tl, d) ∧ (dropR [] [m] ((m + n) :: tl) (d ++ e)).1 = 0 ∧ (dropR [] [m] ((m + n) :: tl) (d ++ e)).2.2 = e := by
  have b1 := head_bd h1
  have b2 := head_bd h2
  simp only [List.getD_cons_zero] at b1 b2
  have hs := (scalar_right b1.1 b1.2).2
  have hr := rows_all h1 (by simp)
  have hN : rowN (m :: tl) = rowN ((m + n) :: tl) := rfl
  have hM : rowsN (m :: tl) = m.toNat := rfl
  have hV : vecS ((m + n) :: tl) (d ++ e) = (m + n) :: tl := by simp [vecS]
  have hm : manyV m = m := by unfold manyV; split <;> omega
  have hh : haveN m ((m + n) :: tl) (d ++ e) = m.toNat := by
    unfold haveN
    rw [hV, hm]
    show min m.toNat (m + n).toNat = _
    omega
  rw [hN, hM] at hr
  have hT : takeS m ((m + n) :: tl) (d ++ e) = m :: tl := by unfold takeS; rw [hV, hm]; rfl
  refine ⟨?_, ?_, ?_⟩
  · unfold takeR takeC
    rw [if_pos ⟨hs, h3⟩, if_neg (by simp)]
    simp only [List.getD_cons_zero]
    rw [hT, if_pos (arrOk_shape h1), mkR_good]
    unfold takeD
    rw [if_pos b1.1, hh, hV, hr, hm]
    simp
  · unfold dropR oneC
    rw [if_pos ⟨hs, h3⟩, if_neg (by simp)]
    rfl
  · unfold dropR oneC
    rw [if_pos ⟨hs, h3⟩, if_neg (by simp), mkR_good]
    simp only [List.getD_cons_zero]
    unfold dropD
    rw [if_pos b1.1, hh, hV, hr]
    simp
theorem joined_code {s d t e : List Int} (h : (joinR s d t e).1 = 0) : ∃ m n tl, rowsS s = m :: tl ∧ (0 ≤ m ∧ m ≤ 300) ∧ arrOk (m :: tl) d = true ∧ arrOk (n :: tl) e = true ∧ arrOk ((m + n) :: tl) (d ++ e) = true ∧ joinR s d t e = (0, (m + n) :: tl, d ++ e) := by
  by_cases q : arrOk s d = true ∧ arrOk t e = true
  · obtain ⟨m, tl, q1, m0, m1, r1, _⟩ := rows_cons q.1
    obtain ⟨n, tl', q2, _, _, r2, _⟩ := rows_cons q.2
    have e0 := joinR_told q.1 q.2 q1 q2
    rw [e0] at h
    by_cases l : tl.length ≠ tl'.length
    · rw [if_pos l] at h; cases h
    · rw [if_neg l] at h
      by_cases l2 : tl ≠ tl'
      · rw [if_pos l2] at h; cases h
      · rw [if_neg l2] at h
        by_cases z : 0 ≤ sizeV ((m + n) :: tl)
        · have l3 : tl = tl' := by simpa using l2
          subst l3
          refine ⟨m, n, tl, q1, ⟨m0, m1⟩, r1, r2, join_right r1 r2 z, ?_⟩
          rw [e0, if_neg l, if_neg l2, if_pos z]
        · rw [if_neg z] at h; cases h
  · rw [joinR_bad q] at h; cases h
theorem joined_bad {s d t e : List Int} (h : (joinR s d t e).1 ≠ 0) : (joinR s d t e).2.2.length = 0 := by
  unfold joinR at h ⊢
  rw [mkR_code] at h
  rw [mkR_bad h]; rfl
end Go.Proofs.Ytfmheanmkfdjnac
