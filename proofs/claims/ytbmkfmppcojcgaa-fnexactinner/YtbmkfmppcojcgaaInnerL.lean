/-
  Plain: how long Inner's answer is; no Go in sight.
-/
import Derived.Test.YtbmkfmppcojcgaaInnerQ
namespace Go.Proofs.Ytbmkfmppcojcgaa
set_option linter.unusedVariables false
theorem inner_len {f g : Int} {s d t e : List Int} (h : innerC f g s d t e = 0) : (innerS s t).length ≤ 1048576 ∧ ((List.range (sizeV (innerS s t)).toNat).map (fun k => (innerK f g d t e k).1)).length ≤ 1048576 := by
  unfold innerC at h
  by_cases ho : arrOk s d = true ∧ arrOk t e = true ∧ sign2 f = true ∧ sign2 g = true
  · have h1 := (sizeV_ok (arrOk_shape ho.1)).1
    have h2 := (sizeV_ok (arrOk_shape ho.2.1)).1
    have h3 := sizeV_bd (innerS s t)
    refine ⟨?_, by rw [List.length_map, List.length_range]; omega⟩
    unfold innerS
    rw [List.length_append, List.length_take, List.length_drop]
    omega
  · rw [if_neg ho] at h; cases h
end Go.Proofs.Ytbmkfmppcojcgaa
