/-
  Plain arithmetic of Chapter 7 (operators): Outer, number by number; no Go in sight.
-/
import Derived.Test.YtbmkfmppcojcgaaGreatOuterM
namespace Go.Proofs.YtbmkfmppcojcgaaGreat
set_option linter.unusedVariables false
theorem flat_congr {n : Nat} {f g : Nat → List Int} (h : ∀ i, i < n → f i = g i) : (List.range n).flatMap f = (List.range n).flatMap g := by
  induction n with
  | zero => rfl
  | succ n ih =>
    rw [List.range_succ, List.flatMap_append, List.flatMap_append, ih (fun i hi => h i (by omega))]
    simp [h n (by omega)]
theorem outer_num {s d : List Int} (h : arrOk s d = true) {i : Nat} (hi : i < d.length) : ok (d.getD i 0) = true := by
  simp only [arrOk, Bool.and_eq_true, List.all_eq_true] at h
  apply h.2
  simp [List.getD, hi]
theorem spread_bound (g : Int) (d t e : List Int) (n : Nat) : ((List.range n).flatMap (fun k => eachTwoD g [] [d.getD k 0] t e)).length ≤ n * 300 := by
  induction n with
  | zero => simp
  | succ n ih =>
    rw [List.range_succ, List.flatMap_append, List.length_append, Nat.succ_mul]
    have := eachTwoD_len g [] [d.getD n 0] t e
    simp only [List.flatMap_cons, List.flatMap_nil, List.append_nil]
    omega
/-- Number by number, each with the whole array. -/
theorem outer_strung {g : Int} {s d t e : List Int} (S : List Int) (h1 : arrOk s d = true) (h2 : arrOk t e = true) (h3 : sign2 g = true) :
    mkR (firstC (fun k => eachTwoC g [] [d.getD k 0] t e) d.length) S ((List.range d.length).flatMap (fun k => eachTwoD g [] [d.getD k 0] t e)) = mkR (outC g d e d.length) S (outD g d e d.length) := by
  have hC : firstC (fun k => eachTwoC g [] [d.getD k 0] t e) d.length = outC g d e d.length := firstC_eq fun i hi => (each_spread (outer_num h1 hi) h2 h3).1
  rw [hC]
  by_cases h0 : outC g d e d.length = 0
  · rw [h0, mkR_good, mkR_good]
    have hz := firstC_all h0
    have : (List.range d.length).flatMap (fun k => eachTwoD g [] [d.getD k 0] t e) = outD g d e d.length := by
      unfold outD
      apply flat_congr
      intro i hi
      rw [(each_spread (outer_num h1 hi) h2 h3).2.2, if_pos (hz i hi)]
    rw [this]
  · rw [mkR_bad h0, mkR_bad h0]
theorem outer_len {g : Int} {s d t e : List Int} (h : outerC g s d t e = 0) : (s ++ t).length ≤ 1048576 ∧ (outD g d e d.length).length ≤ 1048576 := by
  unfold outerC at h
  by_cases ho : arrOk s d = true ∧ arrOk t e = true ∧ sign2 g = true
  · have h1 := (sizeV_ok (arrOk_shape ho.1)).1
    have h2 := (sizeV_ok (arrOk_shape ho.2.1)).1
    have h3 := arrOk_len ho.1
    have h4 := arrOk_len ho.2.1
    have h5 : d.length * e.length ≤ 300 * 300 := Nat.mul_le_mul (by omega) (by omega)
    refine ⟨by rw [List.length_append]; omega, by rw [outD_len]; omega⟩
  · rw [if_neg ho] at h; cases h
end Go.Proofs.YtbmkfmppcojcgaaGreat
