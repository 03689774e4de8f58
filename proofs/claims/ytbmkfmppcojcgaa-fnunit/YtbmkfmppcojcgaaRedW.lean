/-
  Plain: vectors that are reduced (not beside CountF).
-/
import Derived.Test.YtbmkfmppcojcgaaReduceM
import Derived.Test.YtbmkfmppcojcgaaOuterM
namespace Go.Proofs.Ytbmkfmppcojcgaa
set_option linter.unusedVariables false
set_option linter.unusedSimpArgs false
/-- A vector, reduced: code and number. -/
def redW (g : Int) : List Int → Int × Int
  | [] => (0, 0)
  | x :: xs => if xs = [] then (0, x) else if (redW g xs).1 = 0 then ((twoV g x (redW g xs).2).2, (twoV g x (redW g xs).2).1) else ((redW g xs).1, 0)
theorem each_scalar {g x y : Int} (hx : ok x = true) (hy : ok y = true) (hg : sign2 g = true) : eachTwoC g [] [x] [] [y] = (twoV g x y).2 ∧ eachTwoD g [] [x] [] [y] = (if (twoV g x y).2 = 0 then [(twoV g x y).1] else []) := by
  have h2 : arrOk [] [y] = true := by simp [arrOk, hy, sizeV_0']
  obtain ⟨e1, _, e3⟩ := each_spread hx h2 hg
  have c : spreadC g x [y] = (twoV g x y).2 := by simp [spreadC, firstC]
  rw [e1, e3, c]
  refine ⟨rfl, ?_⟩
  simp [spreadD]
theorem redW_ok {g : Int} {l : List Int} (hl : l ≠ []) (h : ∀ x ∈ l, ok x = true) (h0 : (redW g l).1 = 0) : ok (redW g l).2 = true := by
  cases l with
  | nil => exact absurd rfl hl
  | cons x xs =>
    unfold redW at *
    by_cases e : xs = []
    · rw [if_pos e]; exact h x (by simp)
    · rw [if_neg e] at *
      by_cases q : (redW g xs).1 = 0
      · rw [if_pos q] at *; exact two_ok h0
      · rw [if_neg q] at *; exact absurd h0 q
theorem redL_vec {g : Int} (hg : sign2 g = true) {l : List Int} (hl : l ≠ []) (h : ∀ x ∈ l, ok x = true) : redL g [] (l.map (fun x => [x])) = ((redW g l).1, if (redW g l).1 = 0 then [(redW g l).2] else []) := by
  induction l with
  | nil => exact absurd rfl hl
  | cons x xs ih =>
    rw [List.map_cons]
    by_cases e : xs = []
    · subst e
      rw [List.map_nil, redL_one]
      simp [redW]
    · have q := ih e (fun y hy => h y (by simp [hy]))
      have hne : xs.map (fun x => [x]) ≠ [] := by simpa using e
      by_cases h0 : (redW g xs).1 = 0
      · have hk := redW_ok e (fun y hy => h y (by simp [hy])) h0
        have e2 : redL g [] (xs.map (fun x => [x])) = (0, [(redW g xs).2]) := by rw [q, h0]; rfl
        obtain ⟨s1, s2⟩ := each_scalar (g := g) (x := x) (y := (redW g xs).2) (h x (by simp)) hk hg
        rw [redL_cons hne (by rw [e2]), e2]
        simp only []
        rw [s1, s2]
        have e3 : redW g (x :: xs) = ((twoV g x (redW g xs).2).2, (twoV g x (redW g xs).2).1) := by rw [redW, if_neg e, if_pos h0]
        rw [e3]
      · have e3 : redW g (x :: xs) = ((redW g xs).1, 0) := by rw [redW, if_neg e, if_neg h0]
        rw [redL_stop (by rw [q]; exact h0), q, e3]
        simp [h0]
theorem rowsD_vec {n : Int} {d : List Int} (h : arrOk [n] d = true) : rowsD [n] d = d.map (fun x => [x]) := by
  have z := arrOk_size h
  rw [(sizeV_ok (arrOk_shape h)).2.2.2, prod1] at z
  subst z
  apply List.ext_getElem
  · simp [rowsD, rowsN]
  · intro i h1 h2
    have hi : i < d.length := by simpa using h2
    simp only [rowsD, List.getElem_map, List.getElem_range]
    have e : rowN [(d.length : Int)] = 1 := by simp [rowN, sizeV_0']
    unfold rowAt
    rw [e, Nat.mul_one]
    have q := List.drop_eq_getElem_cons hi
    rw [q]
    rfl
end Go.Proofs.Ytbmkfmppcojcgaa
