/-
  Plain: no rows, taken and joined.
-/
import Derived.Test.YtlbmbjgbihljhaiMakeQ
import Derived.Test.YtlbmbjgbihljhaiImplMake10
namespace Go.Proofs.Ytlbmbjgbihljhai
set_option linter.unusedVariables false
theorem none_rows {n0 : Int} {tl d : List Int} (ho : arrOk (n0 :: tl) d = true) : 0 ≤ sizeV (0 :: tl) ∧ arrOk (0 :: tl) [] = true := by
  have hb := head_bd ho
  simp only [List.getD_cons_zero] at hb
  have hz : 0 ≤ sizeV (0 :: tl) := mono5 (arrOk_shape ho) (Int.le_refl 0) hb.1
  refine ⟨hz, ?_⟩
  have k := (sizeV_ok hz).2.2.2
  rw [prodV_cons5, Int.zero_mul] at k
  unfold arrOk
  rw [Bool.and_eq_true, decide_eq_true_eq, k]
  exact ⟨rfl, rfl⟩
theorem zero_right : arrOk [] [0] = true := by decide
theorem take_none {n0 : Int} {tl d : List Int} (ho : arrOk (n0 :: tl) d = true) : takeR [] [0] (n0 :: tl) d = (0, 0 :: tl, []) := by
  obtain ⟨hz, _⟩ := none_rows ho
  have hs : takeS 0 (n0 :: tl) d = 0 :: tl := by simp [takeS, manyV, vecS]
  have hd : takeD 0 (n0 :: tl) d = [] := by simp [takeD, haveN, manyV]
  unfold takeR takeC
  rw [if_pos ⟨zero_right, ho⟩, if_neg (by simp)]
  simp only [List.getD_cons_zero]
  rw [hs, hd, if_pos hz, mkR_good]
theorem drop_none {n0 : Int} {tl d : List Int} (ho : arrOk (n0 :: tl) d = true) : dropR [] [0] (n0 :: tl) d = (0, n0 :: tl, d) := by
  have hb := head_bd ho
  simp only [List.getD_cons_zero] at hb
  have hs : dropS 0 (n0 :: tl) d = n0 :: tl := by
    simp [dropS, haveN, manyV, vecS, rowsN]
    omega
  have hd : dropD 0 (n0 :: tl) d = d := by simp [dropD, haveN, manyV]
  unfold dropR oneC
  rw [if_pos ⟨zero_right, ho⟩, if_neg (by simp)]
  simp only [List.getD_cons_zero]
  rw [hs, hd, mkR_good]
theorem join_none {n0 : Int} {tl d : List Int} (ho : arrOk (n0 :: tl) d = true) : joinR (n0 :: tl) d (0 :: tl) [] = (0, n0 :: tl, d) ∧ joinR (0 :: tl) [] (n0 :: tl) d = (0, n0 :: tl, d) := by
  obtain ⟨hz, h0⟩ := none_rows ho
  have r1 : rowsS (n0 :: tl) = n0 :: tl := by simp [rowsS]
  have r2 : rowsS (0 :: tl) = 0 :: tl := by simp [rowsS]
  have z := arrOk_shape ho
  constructor
  · rw [joinR_told ho h0 r1 r2, if_neg (by simp), if_neg (by simp), Int.add_zero, if_pos z, List.append_nil]
  · rw [joinR_told h0 ho r2 r1, if_neg (by simp), if_neg (by simp), Int.zero_add, if_pos z, List.nil_append]
end Go.Proofs.Ytlbmbjgbihljhai
