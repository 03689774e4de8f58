/-
  Plain: between one number and all of an array it is as each by each.
-/
import Derived.Test.YtcpgdhffemecbabOuterN
namespace Go.Proofs.Ytcpgdhffemecbab
set_option linter.unusedVariables false
theorem alone_eq {g x : Int} {s d : List Int} (hx : ok x = true) : outerR g [] [x] s d = (eachTwoC g [] [x] s d, eachTwoS g [] [x] s d, eachTwoD g [] [x] s d) := by
  have h1 : arrOk [] [x] = true := by simp [arrOk, hx, sizeV_0']
  by_cases h : arrOk s d = true ∧ sign2 g = true
  · obtain ⟨e1, e2, e3⟩ := each_spread hx h.1 h.2
    rw [outerR_told h1 h.1 h.2, e1, e2, e3]
    have hl := (sizeV_ok (arrOk_shape h.1)).1
    have hz := arrOk_size h.1
    rw [if_neg (by simp; omega), if_neg (by simp; omega)]
    have c : outC g [x] d [x].length = spreadC g x d := by simp [outC, firstC]
    have k : outD g [x] d [x].length = spreadD g x d d.length := by simp [outD]
    rw [c, k]
    unfold mkR
    by_cases h0 : spreadC g x d = 0
    · rw [if_pos h0, if_pos h0, if_pos h0, h0]; rfl
    · rw [if_neg h0, if_neg h0, if_neg h0]
  · rw [outerR_bad (by rintro ⟨_, a, b⟩; exact h ⟨a, b⟩)]
    have c : eachTwoC g [] [x] s d = 1 := by unfold eachTwoC; rw [if_neg (by rintro ⟨_, a, b⟩; exact h ⟨a, b⟩)]
    have e2 : eachTwoS g [] [x] s d = [] := by unfold eachTwoS; rw [c]; rfl
    have e3 : eachTwoD g [] [x] s d = [] := by unfold eachTwoD; rw [c]; rfl
    rw [c, e2, e3]
end Go.Proofs.Ytcpgdhffemecbab
