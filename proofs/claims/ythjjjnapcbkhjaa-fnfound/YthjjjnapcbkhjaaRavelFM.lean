/-
  Plain: an array has its shape again by its numbers in a row and its shape.
-/
import Derived.Test.YthjjjnapcbkhjaaMakeMM
import Derived.Test.YthjjjnapcbkhjaaArrMM
namespace Go.Proofs.Ythjjjnapcbkhjaa
set_option linter.unusedVariables false
theorem vec_size {n : Nat} (h : n ≤ 300) : sizeV [(n : Int)] = (n : Int) := by
  simp [sizeV, dimOk, prodV]
  omega
theorem again_self (d : List Int) : againD d d.length = d := by
  unfold againD
  apply List.ext_getElem
  · simp
  · intro i h1 h2
    have hd : d ≠ [] := by intro e; subst e; simp at h2
    simp [hd, Nat.mod_eq_of_lt h2, h2]
theorem dims_ok {s : List Int} (h : 0 ≤ sizeV s) : s.all ok = true ∧ (s.any fun x => decide (x < 0)) = false ∧ s.length ≤ 3 := by
  obtain ⟨k1, k2, k3, k4⟩ := sizeV_ok h
  rw [List.all_eq_true] at k2
  refine ⟨?_, ?_, k1⟩
  · rw [List.all_eq_true]
    intro x hx
    have := k2 x hx
    simp [dimOk] at this
    simp [ok]
    omega
  · rw [List.any_eq_false]
    intro x hx
    have := k2 x hx
    simp [dimOk] at this
    simp
    omega
theorem vec_arr {l : List Int} (h : l.all ok = true) (hl : l.length ≤ 300) : arrOk [(l.length : Int)] l = true := by
  unfold arrOk
  rw [h, vec_size hl]
  simp
theorem ravel_back {s d : List Int} (ho : arrOk s d = true) : reshapeR [(s.length : Int)] s [(d.length : Int)] d = (0, s, d) := by
  have hz := arrOk_size ho
  obtain ⟨d1, d2, d3⟩ := dims_ok (arrOk_shape ho)
  have hd : d.all ok = true := by unfold arrOk at ho; rw [Bool.and_eq_true] at ho; exact ho.2
  unfold reshapeR reshapeC
  rw [if_pos ⟨vec_arr d1 (by omega), vec_arr hd (arrOk_len ho)⟩, if_neg (by simp), if_neg (by rw [d2]; simp), if_neg (by omega), mkR_good, hz, Int.toNat_natCast, again_self]
end Go.Proofs.Ythjjjnapcbkhjaa
