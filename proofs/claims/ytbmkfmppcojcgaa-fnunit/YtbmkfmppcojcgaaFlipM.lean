/-
  Plain arithmetic of Flip: the places that it reads lie in bounds; no Go in sight.
-/
import Derived.Test.YtbmkfmppcojcgaaMakeM
namespace Go.Proofs.Ytbmkfmppcojcgaa
set_option linter.unusedVariables false
theorem prod_rev {s : List Int} (h : s.length ≤ 3) : prodV s.reverse = prodV s := by
  rcases len3 h with rfl | ⟨x, rfl⟩ | ⟨x, y, rfl⟩ | ⟨x, y, z, rfl⟩
  · rfl
  · rfl
  · show prodV [y, x] = _
    rw [prod2, prod2, Int.mul_comm]
  · show prodV [z, y, x] = _
    rw [prod3, prod3, Int.mul_comm (z * y) x, Int.mul_comm z y, Int.mul_assoc]
theorem size_rev {s : List Int} (h : 0 ≤ sizeV s) : sizeV s.reverse = sizeV s := by
  obtain ⟨k1, _, _, _⟩ := sizeV_ok h
  unfold sizeV
  rw [List.length_reverse, List.all_reverse, prod_rev k1]
theorem zip_rev {s m : List Int} (h : s.length ≤ 3) (e : m.length = s.length) : s.zip m.reverse = (s.reverse.zip m).reverse := by
  rcases len3 h with rfl | ⟨x, rfl⟩ | ⟨x, y, rfl⟩ | ⟨x, y, z, rfl⟩
  · simp
  · match m, e with
    | [a], _ => rfl
  · match m, e with
    | [a, b], _ => rfl
  · match m, e with
    | [a, b, c], _ => rfl
theorem flip_place {s d : List Int} (ho : arrOk s d = true) (i : Nat) (hi : i < d.length) :
    0 ≤ placeV s (indexV s.reverse (i : Int)).reverse ∧ placeV s (indexV s.reverse (i : Int)).reverse < (d.length : Int) ∧ (indexV s.reverse (i : Int)).length ≤ 1000 := by
  have hs := arrOk_shape ho
  have z := arrOk_size ho
  have r := size_rev hs
  obtain ⟨k1, k2, k3, k4⟩ := sizeV_ok hs
  obtain ⟨q1, q2⟩ := place_of_index (s := s.reverse) (p := (i : Int)) (by omega) (by omega) (by omega)
  have hl := indexV_len s.reverse (i : Int)
  generalize indexV s.reverse (i : Int) = m at *
  rw [List.length_reverse] at q1
  have hin : inOk (s.reverse.zip m) = true := by
    unfold placeV at q2
    by_cases h1 : sizeV s.reverse < 0 ∨ m.length ≠ s.reverse.length
    · rw [if_pos h1] at q2; omega
    · rw [if_neg h1] at q2
      by_cases h2 : inOk (s.reverse.zip m) = true
      · exact h2
      · rw [if_neg h2] at q2; omega
  have hin2 : inOk (s.zip m.reverse) = true := by
    rw [zip_rev k1 q1]
    unfold inOk at hin ⊢
    rw [List.all_reverse]
    exact hin
  have e : placeV s m.reverse = hor (s.zip m.reverse) := by
    unfold placeV
    rw [if_neg (by rw [List.length_reverse]; omega), if_pos hin2]
  obtain ⟨p1, p2⟩ := hor_lt _ hin2
  have ef : (s.zip m.reverse).map Prod.fst = s := by
    rw [List.map_fst_zip]
    rw [List.length_reverse]; omega
  rw [ef] at p2
  rw [e]
  omega
end Go.Proofs.Ytbmkfmppcojcgaa
