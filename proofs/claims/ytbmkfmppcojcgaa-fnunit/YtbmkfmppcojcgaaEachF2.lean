/-
  Plain: what the law on one sign and two arrays asks.
-/
import Derived.Test.YtbmkfmppcojcgaaSpecEach2b
import Derived.Test.YtbmkfmppcojcgaaEachF
namespace Go.Proofs.Ytbmkfmppcojcgaa
set_option linter.unusedVariables false
set_option linter.unusedSimpArgs false
theorem two_ok {g a b : Int} (h : (twoV g a b).2 = 0) : ok (twoV g a b).1 = true := by
  unfold twoV at *
  by_cases h1 : ok a = false ∨ ok b = false ∨ sign2 g = false
  · rw [if_pos h1] at h; cases h
  · rw [if_neg h1] at h ⊢
    by_cases h2 : twoC g b = 0
    · rw [if_pos h2] at h ⊢
      by_cases h3 : ok (twoX g a b) = true
      · rw [(lim_yes h3).1]; exact h3
      · have := (lim_no (by simpa using h3)).2
        rw [this] at h; cases h
    · rw [if_neg h2] at h; exact absurd h h2
theorem two_facts {g : Int} {s d t e : List Int} (h : eachTwoC g s d t e = 0) : fitC s d t e = 0 ∧ eachTwoS g s d t e = fitS s d t e ∧ (eachTwoD g s d t e).length = eachN s d t e ∧ arrOk (eachTwoS g s d t e) (eachTwoD g s d t e) = true ∧
    ∀ i, i < eachN s d t e → (twoV g (numOf s d i) (numOf t e i)).2 = 0 ∧ (eachTwoD g s d t e).getD i 0 = (twoV g (numOf s d i) (numOf t e i)).1 := by
  have hall : arrOk s d = true ∧ arrOk t e = true ∧ sign2 g = true := by
    apply Classical.byContradiction
    intro hn
    unfold eachTwoC at h
    rw [if_neg hn] at h
    cases h
  have hf : fitC s d t e = 0 := by
    apply Classical.byContradiction
    intro hn
    unfold eachTwoC at h
    rw [if_pos hall, if_neg hn] at h
    exact hn h
  have hc : firstC (fun i => (twoV g (numOf s d i) (numOf t e i)).2) (eachN s d t e) = 0 := by
    have q := h
    unfold eachTwoC at q
    rw [if_pos hall, if_pos hf] at q
    exact q
  obtain ⟨g1, g2⟩ := eachTwo_good h
  have hlen : (eachTwoD g s d t e).length = eachN s d t e := by rw [g2]; simp
  refine ⟨hf, g1, hlen, ?_, fun i hi => ⟨firstC_all hc i hi, by rw [g2]; simp [List.getD, hi]⟩⟩
  simp only [arrOk, Bool.and_eq_true, decide_eq_true_eq]
  refine ⟨by rw [g1, hlen]; exact (fit_size hf).1.symm, ?_⟩
  rw [g2, List.all_eq_true]
  intro x hx
  obtain ⟨i, hi, rfl⟩ := List.mem_map.1 hx
  exact two_ok (firstC_all hc i (List.mem_range.1 hi))
theorem two_why {g : Int} {s d t e : List Int} (h : eachTwoC g s d t e ≠ 0) : fitC s d t e = 0 ∨ eachTwoC g s d t e = fitC s d t e ∨ eachTwoC g s d t e = 1 := by
  unfold eachTwoC at *
  by_cases hall : arrOk s d = true ∧ arrOk t e = true ∧ sign2 g = true
  · rw [if_pos hall] at *
    by_cases hf : fitC s d t e = 0
    · exact .inl hf
    · rw [if_neg hf] at *; exact .inr (.inl rfl)
  · rw [if_neg hall]; exact .inr (.inr rfl)
end Go.Proofs.Ytbmkfmppcojcgaa
