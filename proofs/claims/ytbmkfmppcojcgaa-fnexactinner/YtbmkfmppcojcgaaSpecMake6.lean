
/-
  Walks: the specification's Rotate.
-/
import Derived.Test.YtbmkfmppcojcgaaSpecMake5
import Derived.Test.YtbmkfmppcojcgaaSpecMake2
namespace Go.Proofs.Ytbmkfmppcojcgaa
open Go.RowKit
set_option linter.unusedVariables false
set_option linter.unusedSimpArgs false
theorem oneC_ok {s d t e : List Int} (ho : arrOk s d = true) (ho' : arrOk t e = true) (hl : d.length = 1) : oneC s d t e = 0 := by unfold oneC; rw [if_pos ⟨ho, ho'⟩, if_neg (by simpa using hl)]
theorem oneC_3 {s d t e : List Int} (ho : arrOk s d = true) (ho' : arrOk t e = true) (hl : ¬ d.length = 1) : oneC s d t e = 3 := by unfold oneC; rw [if_pos ⟨ho, ho'⟩, if_pos hl]
theorem num_bd {s d : List Int} (ho : arrOk s d = true) (h : 0 < d.length) : -1000000000000 ≤ d.getD 0 0 ∧ d.getD 0 0 ≤ 1000000000000 := by
  have h2 : d.all ok = true := by
    unfold arrOk at ho
    simp only [Bool.and_eq_true] at ho
    exact ho.2
  have := List.all_eq_true.1 h2 (d.getD 0 0) (by simp [h])
  exact ok_bd this
theorem wrap64_small {a : Int} (h1 : -1000000000000000 ≤ a) (h2 : a ≤ 1000000000000000) : wrap64 a = a := by unfold wrap64; omega
theorem turn_num {x : Int} {n : Nat} (hn : 0 < n) : (Int.tmod (Int.tmod x n + n) n) = ((rotateBy x n : Nat) : Int) ∧ rotateBy x n < n ∧ -(n : Int) < Int.tmod x n ∧ Int.tmod x n < n := by
  unfold rotateBy
  have h0 : (0 : Int) < (n : Int) := by omega
  have e1 := Int.emod_nonneg x (b := (n : Int)) (by omega)
  have e2 := Int.emod_lt_of_pos x h0
  have hb : -(n : Int) < Int.tmod x n ∧ Int.tmod x n < n := ⟨by have := Int.lt_tmod_of_pos x h0; omega, Int.tmod_lt_of_pos x h0⟩
  refine ⟨?_, by omega, hb⟩
  rw [Int.tmod_eq_emod_of_nonneg (by omega), Int.add_emod_right]
  rw [Int.toNat_of_nonneg e1]
  have e := Int.tmod_add_mul_tdiv x n
  conv => rhs; rw [← e]
  rw [Int.add_mul_emod_self_left]
end Go.Proofs.Ytbmkfmppcojcgaa
