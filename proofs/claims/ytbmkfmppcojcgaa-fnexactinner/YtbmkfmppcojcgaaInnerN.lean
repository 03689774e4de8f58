/-
  Plain arithmetic of Chapter 7 (operators): two vectors, element by element, then reduced; no Go in sight.
-/
import Derived.Test.YtbmkfmppcojcgaaInnerM
import Derived.Test.YtbmkfmppcojcgaaImplShape
namespace Go.Proofs.Ytbmkfmppcojcgaa
set_option linter.unusedVariables false
theorem vecN {n : Int} {x : List Int} (h : arrOk [n] x = true) : 0 ≤ n ∧ n ≤ 300 ∧ x.length = n.toNat ∧ sizeV [n] = n := by
  have hh := head_bd h
  simp only [List.getD_cons_zero] at hh
  have z := arrOk_size h
  have e : sizeV [n] = n := by rw [sizeV_1, if_pos ⟨by omega, by omega⟩, if_neg (by omega)]
  refine ⟨by omega, by omega, by omega, e⟩
theorem each_pair {g n : Int} {x y : List Int} (h1 : arrOk [n] x = true) (h2 : arrOk [n] y = true) (h3 : sign2 g = true) :
    eachTwoC g [n] x [n] y = pairC g x y n.toNat ∧ (pairC g x y n.toNat = 0 → eachTwoS g [n] x [n] y = [n] ∧ eachTwoD g [n] x [n] y = pairD g x y n.toNat) := by
  obtain ⟨_, _, _, e⟩ := vecN h1
  have hf : fitC [n] x [n] y = 0 := by unfold fitC; rw [if_pos ⟨h1, h2⟩]; simp
  have hS : fitS [n] x [n] y = [n] := by unfold fitS; rw [if_pos hf]; simp
  have hN : eachN [n] x [n] y = n.toNat := by unfold eachN; rw [hS, e]
  have hC : eachTwoC g [n] x [n] y = pairC g x y n.toNat := by
    unfold eachTwoC pairC
    rw [if_pos ⟨h1, h2, h3⟩, if_pos hf, hN]
    simp [numOf]
  refine ⟨hC, fun h0 => ⟨?_, ?_⟩⟩
  · unfold eachTwoS; rw [hC, if_pos h0, hS]
  · unfold eachTwoD pairD; rw [hC, if_pos h0, hN]; simp [numOf]
theorem pairD_len (g : Int) (x y : List Int) (n : Nat) : (pairD g x y n).length = n := by simp [pairD]
theorem rows_pair (g n : Int) (x y : List Int) : rowsD [n] (pairD g x y n.toNat) = pairR g x y n.toNat := by
  have e : rowN [n] = 1 := by simp [rowN, sizeV_0']
  unfold rowsD pairR
  rw [show rowsN [n] = n.toNat from by simp [rowsN]]
  apply List.map_congr_left
  intro i hi
  have hi : i < n.toNat := by simpa using hi
  unfold rowAt
  rw [e, Nat.mul_one, List.drop_eq_getElem_cons (by rw [pairD_len]; exact hi)]
  simp [pairD]
theorem pair_arr {g n : Int} {x y : List Int} (h1 : arrOk [n] x = true) (h0 : pairC g x y n.toNat = 0) : arrOk [n] (pairD g x y n.toNat) = true := by
  obtain ⟨a1, a2, _, e⟩ := vecN h1
  simp only [arrOk, Bool.and_eq_true, List.all_eq_true]
  refine ⟨?_, ?_⟩
  · rw [e, pairD_len]
    simp
    omega
  · intro z hz
    simp only [pairD, List.mem_map, List.mem_range] at hz
    obtain ⟨i, hi, rfl⟩ := hz
    exact two_ok (firstC_all h0 i hi)
end Go.Proofs.Ytbmkfmppcojcgaa
