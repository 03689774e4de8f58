/-
  Several texts, one behind the other: SpecEach1, EachF, EachF2.
-/
import Derived.Test.YtnkacfgbkfkhdaaGreatY6
import Derived.Test.YtnkacfgbkfkhdaaGreatY9
import Derived.Test.YtnkacfgbkfkhdaaGreatY7
import Derived.Test.YtnkacfgbkfkhdaaGreatY8
namespace Go.Proofs.YtnkacfgbkfkhdaaGreat
open Go.RowKit
set_option linter.unusedVariables false
set_option linter.unusedSimpArgs false
theorem eachOne_bad {g : Int} {s d : List Int} (h : eachOneC g s d ≠ 0) : eachOneS g s d = [] ∧ eachOneD g s d = [] := by
  unfold eachOneS eachOneD; rw [if_neg h, if_neg h]; exact ⟨rfl, rfl⟩
theorem eachOne_good {g : Int} {s d : List Int} (h : eachOneC g s d = 0) : eachOneS g s d = s ∧ eachOneD g s d = (List.range d.length).map (fun i => (oneV g (d.getD i 0)).1) := by
  unfold eachOneS eachOneD; rw [if_pos h, if_pos h]; exact ⟨rfl, rfl⟩
theorem below_of_win {B : Nat} {w a b : World} (h : Below w.heap.size w a) (k : Win B B a b) : Below w.heap.size w b := by
  exact h.trans ⟨k.os, k.tape, k.output, k.size, fun i hi => k.block i (Nat.lt_of_lt_of_le hi h.size) (by omega)⟩
end Go.Proofs.YtnkacfgbkfkhdaaGreat
namespace Go.Proofs.YtnkacfgbkfkhdaaGreat
open Go.RowKit
set_option linter.unusedVariables false
set_option linter.unusedSimpArgs false
theorem ok_neg (x : Int) : ok (-x) = ok x := by
  unfold ok
  rw [Bool.eq_iff_iff]
  simp
  omega
theorem getD_mem {d : List Int} {i : Nat} (h : i < d.length) : d.getD i 0 ∈ d := by
  have e : d.getD i 0 = d[i] := by simp [List.getD, h]
  rw [e]; exact List.getElem_mem h
theorem arrOk_all {s d : List Int} (h : arrOk s d = true) {i : Nat} (hi : i < d.length) : ok (d.getD i 0) = true := by
  simp only [arrOk, Bool.and_eq_true] at h
  exact (List.all_eq_true.1 h.2) _ (getD_mem hi)
theorem firstC_none {g : Nat → Int} {n : Nat} (h : ∀ i, i < n → g i = 0) : firstC g n = 0 := by
  induction n with
  | zero => rfl
  | succ n ih => exact firstC_go (ih (fun i hi => h i (by omega))) (h n (by omega))
theorem each_neg {s d : List Int} (ho : arrOk s d = true) : eachOneC 45 s d = 0 ∧ eachOneS 45 s d = s ∧ eachOneD 45 s d = d.map (fun x => -x) := by
  have hc : eachOneC 45 s d = 0 := by
    unfold eachOneC
    rw [if_pos ⟨ho, by decide⟩]
    exact firstC_none (fun i hi => by simp only [oneV_45 (arrOk_all ho hi)])
  refine ⟨hc, (eachOne_good hc).1, ?_⟩
  rw [(eachOne_good hc).2]
  apply List.ext_getElem
  · simp
  · intro i h1 h2
    have hi : i < d.length := by simpa using h2
    have e : d.getD i 0 = d[i] := by simp [List.getD, hi]
    simp only [List.getElem_map, List.getElem_range]
    rw [oneV_45 (arrOk_all ho hi), e]
theorem arrOk_neg {s d : List Int} (ho : arrOk s d = true) : arrOk s (d.map (fun x => -x)) = true := by
  simp only [arrOk, Bool.and_eq_true] at ho ⊢
  refine ⟨by simpa using ho.1, ?_⟩
  rw [List.all_eq_true] at *
  intro x hx
  obtain ⟨y, hy, rfl⟩ := List.mem_map.1 hx
  rw [ok_neg]
  exact ho.2 y hy
theorem each_neg2 {s d : List Int} (ho : arrOk s d = true) : eachOneC 45 (eachOneS 45 s d) (eachOneD 45 s d) = 0 ∧ eachOneS 45 (eachOneS 45 s d) (eachOneD 45 s d) = s ∧ eachOneD 45 (eachOneS 45 s d) (eachOneD 45 s d) = d := by
  obtain ⟨_, h2, h3⟩ := each_neg ho
  rw [h2, h3]
  obtain ⟨k1, k2, k3⟩ := each_neg (arrOk_neg ho)
  exact ⟨k1, k2, by rw [k3, List.map_map]; exact (List.map_congr_left (fun x _ => by simp)).trans (List.map_id d)⟩
theorem one_facts {g : Int} {s d : List Int} (h : eachOneC g s d = 0) : arrOk s d = true ∧ (eachOneD g s d).length = d.length ∧ ∀ i, i < d.length → (oneV g (d.getD i 0)).2 = 0 ∧ (eachOneD g s d).getD i 0 = (oneV g (d.getD i 0)).1 := by
  have hg : arrOk s d = true ∧ sign1 g = true := by
    apply Classical.byContradiction
    intro hn
    unfold eachOneC at h
    rw [if_neg hn] at h
    cases h
  have hf : firstC (fun i => (oneV g (d.getD i 0)).2) d.length = 0 := by
    have q := h
    unfold eachOneC at q
    rw [if_pos hg] at q
    exact q
  rw [(eachOne_good h).2]
  refine ⟨hg.1, by simp, fun i hi => ⟨firstC_all hf i hi, ?_⟩⟩
  simp [List.getD, hi]
theorem eachOne_len (g : Int) (s d : List Int) : (eachOneS g s d).length ≤ s.length ∧ (eachOneD g s d).length ≤ d.length := by
  unfold eachOneS eachOneD
  split <;> simp
end Go.Proofs.YtnkacfgbkfkhdaaGreat
namespace Go.Proofs.YtnkacfgbkfkhdaaGreat
set_option linter.unusedVariables false
set_option linter.unusedSimpArgs false
theorem two_ok {g a b : Int} (h : (twoV g a b).2 = 0) : ok (twoV g a b).1 = true := by
  unfold twoV at *
  by_cases h1 : ok a = false ∨ ok b = false ∨ sign2 g = false
  · rw [if_pos h1] at h; cases h
  · rw [if_neg h1] at h ⊢
    by_cases h2 : twoC g b = 0
    · rw [if_pos h2] at h ⊢
      by_cases h3 : ok (twoX g a b) = true
      · rw [(lim_yes h3).1]; exact h3
      · have := (lim_no (by simpa using h3)).2
        rw [this] at h; cases h
    · rw [if_neg h2] at h; exact absurd h h2
theorem two_facts {g : Int} {s d t e : List Int} (h : eachTwoC g s d t e = 0) : fitC s d t e = 0 ∧ eachTwoS g s d t e = fitS s d t e ∧ (eachTwoD g s d t e).length = eachN s d t e ∧ arrOk (eachTwoS g s d t e) (eachTwoD g s d t e) = true ∧
    ∀ i, i < eachN s d t e → (twoV g (numOf s d i) (numOf t e i)).2 = 0 ∧ (eachTwoD g s d t e).getD i 0 = (twoV g (numOf s d i) (numOf t e i)).1 := by
  have hall : arrOk s d = true ∧ arrOk t e = true ∧ sign2 g = true := by
    apply Classical.byContradiction
    intro hn
    unfold eachTwoC at h
    rw [if_neg hn] at h
    cases h
  have hf : fitC s d t e = 0 := by
    apply Classical.byContradiction
    intro hn
    unfold eachTwoC at h
    rw [if_pos hall, if_neg hn] at h
    exact hn h
  have hc : firstC (fun i => (twoV g (numOf s d i) (numOf t e i)).2) (eachN s d t e) = 0 := by
    have q := h
    unfold eachTwoC at q
    rw [if_pos hall, if_pos hf] at q
    exact q
  obtain ⟨g1, g2⟩ := eachTwo_good h
  have hlen : (eachTwoD g s d t e).length = eachN s d t e := by rw [g2]; simp
  refine ⟨hf, g1, hlen, ?_, fun i hi => ⟨firstC_all hc i hi, by rw [g2]; simp [List.getD, hi]⟩⟩
  simp only [arrOk, Bool.and_eq_true, decide_eq_true_eq]
  refine ⟨by rw [g1, hlen]; exact (fit_size hf).1.symm, ?_⟩
  rw [g2, List.all_eq_true]
  intro x hx
  obtain ⟨i, hi, rfl⟩ := List.mem_map.1 hx
  exact two_ok (firstC_all hc i (List.mem_range.1 hi))
theorem two_why {g : Int} {s d t e : List Int} (h : eachTwoC g s d t e ≠ 0) : fitC s d t e = 0 ∨ eachTwoC g s d t e = fitC s d t e ∨ eachTwoC g s d t e = 1 := by
  unfold eachTwoC at *
  by_cases hall : arrOk s d = true ∧ arrOk t e = true ∧ sign2 g = true
  · rw [if_pos hall] at *
    by_cases hf : fitC s d t e = 0
    · exact .inl hf
    · rw [if_neg hf] at *; exact .inr (.inl rfl)
  · rw [if_neg hall]; exact .inr (.inr rfl)
end Go.Proofs.YtnkacfgbkfkhdaaGreat
