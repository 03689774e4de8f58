/-
  Plain: the bytes of an array; no Go in sight.
-/
import Derived.Test.YtonkiipdobpfgaaPackM
import Derived.Test.YtonkiipdobpfgaaArrM
namespace Go.Proofs.Ytonkiipdobpfgaa
/-- The two bytes of each of these numbers. -/
def cnts (s : List Int) : List Int := s.flatMap fun x => [x % 256, x / 256 % 256]
/-- The bytes of an array. -/
def apack (s d : List Int) : List Int := ((s.length : Int) :: cnts s) ++ numsBy d
theorem cnts_len (s : List Int) : (cnts s).length = 2 * s.length := by
  induction s with
  | nil => rfl
  | cons x s ih => simp only [cnts, List.flatMap_cons, List.length_append, List.length_cons, List.length_nil] at ih ⊢; omega
theorem cnts_take {s : List Int} {k : Nat} (h : k < s.length) : cnts (s.take (k + 1)) = cnts (s.take k) ++ [s.getD k 0 % 256, s.getD k 0 / 256 % 256] := by
  have e : s.getD k 0 = s[k] := by simp [List.getD_eq_getElem?_getD, h]
  rw [List.take_succ_eq_append_getElem h, e]
  unfold cnts
  rw [List.flatMap_append]
  simp only [List.flatMap_cons, List.flatMap_nil, List.append_nil]
theorem arrOk_rk {s d : List Int} (h : arrOk s d = true) : s.length ≤ 3 := (sizeV_ok (arrOk_shape h)).1
theorem arrOk_dim {s d : List Int} (h : arrOk s d = true) {k : Nat} (hk : k < s.length) : ∃ m : Nat, s.getD k 0 = (m : Int) ∧ m ≤ 300 := by
  have hd := List.all_eq_true.1 (sizeV_ok (arrOk_shape h)).2.1 (s.getD k 0) (by simp [hk])
  simp only [dimOk, Bool.and_eq_true, decide_eq_true_eq] at hd
  exact ⟨(s.getD k 0).toNat, by omega, by omega⟩
theorem arrOk_allP {s d : List Int} (h : arrOk s d = true) : d.all ok = true := by
  simp only [arrOk, Bool.and_eq_true] at h
  exact h.2
theorem apack_len {s d : List Int} (h : arrOk s d = true) : (apack s d).length ≤ 2407 := by
  have h1 := arrOk_rk h
  have h2 := arrOk_len h
  simp only [apack, List.length_append, List.length_cons, cnts_len, numsBy_len]
  omega
end Go.Proofs.Ytonkiipdobpfgaa
