/-
  Plain: how long what Scan answers may be.
-/
import Derived.Test.YtcpgdhffemecbabSpecScan
namespace Go.Proofs.Ytcpgdhffemecbab
set_option linter.unusedVariables false
theorem scan_len {g : Int} {s d : List Int} (h : scanC g s d = 0) (hd : d.length ≤ 1048576) : (scanD g s d).length ≤ 1048576 := by
  unfold scanC at h
  by_cases ho : arrOk s d = true ∧ sign2 g = true
  · unfold scanD
    by_cases hs : s = []
    · rw [if_pos hs]; exact hd
    · rw [if_neg hs]
      have q := flat_bound (rowsN s) 300 (fun i => (scanK g s d i).2) (scanK_len ho.1 hs)
      have := (rowsN_bd ho.1).1
      have : rowsN s * 300 ≤ 300 * 300 := Nat.mul_le_mul_right _ this
      omega
  · rw [if_neg ho] at h; cases h
end Go.Proofs.Ytcpgdhffemecbab
