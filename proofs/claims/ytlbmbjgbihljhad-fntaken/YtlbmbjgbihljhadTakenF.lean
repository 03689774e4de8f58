/-
  Plain: what is taken and what is dropped, together, are all.
-/
import Derived.Test.YtlbmbjgbihljhadCuts2
import Derived.Test.YtlbmbjgbihljhadSpecMake7
namespace Go.Proofs.Ytlbmbjgbihljhad
set_option linter.unusedVariables false
theorem taken_code {s d t f : List Int} (h : (takeR s d t f).1 = 0) : (arrOk s d = true ∧ arrOk t f = true) ∧ d.length = 1 ∧ 0 ≤ sizeV (takeS (d.getD 0 0) t f) ∧ (takeR s d t f).2.1 = takeS (d.getD 0 0) t f ∧ (takeR s d t f).2.2 = takeD (d.getD 0 0) t f ∧ (dropR s d t f).1 = 0 ∧ (dropR s d t f).2.2 = dropD (d.getD 0 0) t f := by
  unfold takeR at h ⊢
  rw [mkR_code] at h
  rw [h, mkR_good]
  unfold takeC at h
  by_cases q : arrOk s d = true ∧ arrOk t f = true
  · rw [if_pos q] at h
    by_cases l : d.length ≠ 1
    · rw [if_pos l] at h; cases h
    · rw [if_neg l] at h
      by_cases z : 0 ≤ sizeV (takeS (d.getD 0 0) t f)
      · have hc : oneC s d t f = 0 := by unfold oneC; rw [if_pos q, if_neg l]
        refine ⟨q, by simpa using l, z, rfl, rfl, ?_, ?_⟩
        · unfold dropR; rw [mkR_code]; exact hc
        · unfold dropR; rw [hc, mkR_good]
      · rw [if_neg z] at h; cases h
  · rw [if_neg q] at h; cases h
theorem taken_bad {s d t f : List Int} (h : (takeR s d t f).1 ≠ 0) : (takeR s d t f).2.2.length = 0 := by
  unfold takeR at h ⊢
  rw [mkR_code] at h
  rw [mkR_bad h]; rfl
/-- How many rows there are. -/
def haveV (t : List Int) : Int := if t = [] then 1 else t.getD 0 0
theorem have_rows {t f : List Int} (ho : arrOk t f = true) : (rowsN (vecS t f) : Int) = haveV t := by
  have hz := arrOk_size ho
  unfold haveV vecS rowsN
  by_cases h : t = []
  · subst h
    rw [if_pos rfl, if_pos rfl]
    simp [sizeV, prodV] at hz ⊢
    omega
  · rw [if_neg h, if_neg h]
    have := head_bd ho
    omega
theorem taken_both {t f : List Int} {x : Int} (ho : arrOk t f = true) (hz : 0 ≤ sizeV (takeS x t f)) :
    (haveV t < manyV x → (dropD x t f).length = 0) ∧ (manyV x ≤ haveV t → (0 ≤ x → takeD x t f ++ dropD x t f = f) ∧ (x < 0 → dropD x t f ++ takeD x t f = f)) := by
  obtain ⟨ov, hv0⟩ := vec_ok ho
  have eall := rows_all ov hv0
  have hr := have_rows ho
  have hm := many_nat x
  have hH : haveN x t f = min (manyV x).toNat (rowsN (vecS t f)) := rfl
  constructor
  · intro hlt
    have hN : haveN x t f = rowsN (vecS t f) := by rw [hH]; omega
    unfold dropD
    rw [hN]
    split
    · rw [List.length_drop, eall]; omega
    · simp
  · intro hle
    have hN : haveN x t f = (manyV x).toNat := by rw [hH]; omega
    constructor
    · intro h0
      unfold takeD dropD
      rw [if_pos h0, if_pos h0, hN]
      simp
    · intro h0
      unfold takeD dropD
      rw [if_neg (by omega), if_neg (by omega), hN]
      simp
end Go.Proofs.Ytlbmbjgbihljhad
