/-
  Plain: where a number is found, it stands; ahead of it, it does not; every number is found in its own list.
-/
import Derived.Test.YthjjjnapcbkhjaaMakeMM
import Derived.Test.YthjjjnapcbkhjaaRavelFM
namespace Go.Proofs.Ythjjjnapcbkhjaa
set_option linter.unusedVariables false
theorem placeIn_at {l : List Int} {x : Int} (h : placeIn l x < l.length) : l.getD (placeIn l x) 0 = x := by
  have q := List.findIdx_getElem (p := fun y => y == x) (xs := l) (w := h)
  rw [List.getD_eq_getElem?_getD, List.getElem?_eq_getElem h]
  exact eq_of_beq q
theorem placeIn_before {l : List Int} {x : Int} {j : Nat} (h : j < placeIn l x) : l.getD j 0 ≠ x := by
  have q := List.not_of_lt_findIdx (p := fun y => y == x) (xs := l) h
  have hl : j < l.length := Nat.lt_of_lt_of_le h (placeIn_le l x)
  rw [List.getD_eq_getElem?_getD, List.getElem?_eq_getElem hl]
  simpa using q
theorem placeIn_mem {l : List Int} {x : Int} {i : Nat} (hi : i < l.length) (he : l.getD i 0 = x) : placeIn l x ≤ i := by
  rcases Nat.lt_or_ge i (placeIn l x) with h | h
  · exact absurd he (placeIn_before h)
  · exact h
theorem within_zero {s d t e : List Int} (h : (withinR s d t e).1 = 0) : arrOk s d = true ∧ arrOk t e = true ∧ withinC s d t e = 0 := by
  unfold withinR at h
  rw [mkR_code] at h
  refine ⟨?_, ?_, h⟩ <;>
  · unfold withinC at h
    by_cases q : arrOk s d = true ∧ arrOk t e = true
    · first | exact q.1 | exact q.2
    · rw [if_neg q] at h; cases h
theorem find_zero {s d t e : List Int} (h : (findR s d t e).1 = 0) : arrOk s d = true ∧ arrOk t e = true ∧ s.length = 1 ∧ findC s d t e = 0 := by
  unfold findR at h
  rw [mkR_code] at h
  have h' := h
  unfold findC at h'
  by_cases q : arrOk s d = true ∧ arrOk t e = true
  · rw [if_pos q] at h'
    by_cases r : s.length ≠ 1
    · rw [if_pos r] at h'; cases h'
    · exact ⟨q.1, q.2, by omega, h⟩
  · rw [if_neg q] at h'; cases h'
theorem within_bad {s d t e : List Int} (h : (withinR s d t e).1 ≠ 0) : (withinR s d t e).2.2 = [] := by
  unfold withinR at h ⊢
  rw [mkR_code] at h
  rw [mkR_bad h]
theorem find_bad {s d t e : List Int} (h : (findR s d t e).1 ≠ 0) : (findR s d t e).2.2 = [] := by
  unfold findR at h ⊢
  rw [mkR_code] at h
  rw [mkR_bad h]
theorem within_good {s d t e : List Int} (h : (withinR s d t e).1 = 0) : (withinR s d t e).2.1 = s ∧ (withinR s d t e).2.2.length = d.length ∧ ∀ i, i < d.length → (withinR s d t e).2.2.getD i 0 = if placeIn e (d.getD i 0) < e.length then 1 else 0 := by
  obtain ⟨_, _, q⟩ := within_zero h
  unfold withinR
  rw [q, mkR_good]
  refine ⟨rfl, by simp, fun i hi => ?_⟩
  dsimp only
  rw [List.getD_eq_getElem?_getD, List.getElem?_map, List.getElem?_range hi]
  rfl
theorem find_good {s d t e : List Int} (h : (findR s d t e).1 = 0) : (findR s d t e).2.1 = t ∧ (findR s d t e).2.2.length = e.length ∧ ∀ i, i < e.length → (findR s d t e).2.2.getD i 0 = ((placeIn d (e.getD i 0) : Nat) : Int) := by
  obtain ⟨_, _, _, q⟩ := find_zero h
  unfold findR
  rw [q, mkR_good]
  refine ⟨rfl, by simp, fun i hi => ?_⟩
  dsimp only
  rw [List.getD_eq_getElem?_getD, List.getElem?_map, List.getElem?_range hi]
  rfl
theorem itself_good {s d : List Int} (h : (withinR s d s d).1 = 0) :
    ravelR s d = (0, [(d.length : Int)], d) ∧ (findR [(d.length : Int)] d [(d.length : Int)] d).1 = 0 ∧ (withinR s d s d).2.1 = s ∧ (withinR s d s d).2.2.length = d.length ∧ (findR [(d.length : Int)] d [(d.length : Int)] d).2.2.length = d.length ∧
    ∀ i, i < d.length → (withinR s d s d).2.2.getD i 0 = 1 ∧ ∃ k : Nat, k ≤ i ∧ (findR [(d.length : Int)] d [(d.length : Int)] d).2.2.getD i 0 = (k : Int) ∧ d.getD k 0 = d.getD i 0 := by
  obtain ⟨ho, _, _⟩ := within_zero h
  obtain ⟨g1, g2, g3⟩ := within_good h
  have hd : d.all ok = true := by unfold arrOk at ho; rw [Bool.and_eq_true] at ho; exact ho.2
  have hv := vec_arr hd (arrOk_len ho)
  have hf : (findR [(d.length : Int)] d [(d.length : Int)] d).1 = 0 := by
    unfold findR
    rw [mkR_code]
    unfold findC
    rw [if_pos ⟨hv, hv⟩, if_neg (by simp)]
  obtain ⟨f1, f2, f3⟩ := find_good hf
  refine ⟨?_, hf, g1, g2, f2, fun i hi => ?_⟩
  · unfold ravelR okC
    rw [if_pos ho]
    rfl
  · have hm := placeIn_mem hi rfl
    have hl : placeIn d (d.getD i 0) < d.length := by omega
    exact ⟨by rw [g3 i hi, if_pos hl], _, hm, f3 i hi, placeIn_at hl⟩
end Go.Proofs.Ythjjjnapcbkhjaa
namespace Go.Proofs.Ythjjjnapcbkhjaa
set_option linter.unusedVariables false
theorem found_good {s d t f : List Int} (h : (findR s d t f).1 = 0) :
    (withinR t f s d).1 = 0 ∧ (findR s d t f).2.1 = t ∧ (withinR t f s d).2.1 = t ∧ (findR s d t f).2.2.length = f.length ∧ (withinR t f s d).2.2.length = f.length ∧
    ∀ i, i < f.length → ∃ m : Nat, m ≤ d.length ∧ (findR s d t f).2.2.getD i 0 = (m : Int) ∧ (withinR t f s d).2.2.getD i 0 = (if m < d.length then 1 else 0) ∧ (m < d.length → d.getD m 0 = f.getD i 0) ∧ ∀ j, j < m → d.getD j 0 ≠ f.getD i 0 := by
  obtain ⟨o1, o2, _, _⟩ := find_zero h
  have hw : (withinR t f s d).1 = 0 := by
    unfold withinR
    rw [mkR_code]
    unfold withinC
    rw [if_pos ⟨o2, o1⟩]
  obtain ⟨g1, g2, g3⟩ := find_good h
  obtain ⟨k1, k2, k3⟩ := within_good hw
  refine ⟨hw, g1, k1, g2, k2, fun i hi => ⟨placeIn d (f.getD i 0), placeIn_le _ _, g3 i hi, k3 i hi, fun q => placeIn_at q, fun j hj => placeIn_before hj⟩⟩
end Go.Proofs.Ythjjjnapcbkhjaa
