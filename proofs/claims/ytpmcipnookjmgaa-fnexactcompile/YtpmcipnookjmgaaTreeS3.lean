/-
  Walks: the specification's l9Node: functions of two.
-/
import Derived.Test.YtpmcipnookjmgaaTreeS2
namespace Go.Proofs.Ytpmcipnookjmgaa
open Go.RowKit
set_option linter.unusedVariables false
set_option linter.unusedSimpArgs false
section
variable {e1 e2 e3 e4 e5 : Int} {l o : List Int} {w : World} {xa oa : Option Addr} {xc oc k : Nat}
set_option maxRecDepth 20000 in
set_option maxHeartbeats 8000000 in
theorem node5_first0 {n : Nat} : Calls Try.prog 25 #[.agg #[.int .i64 5, .int .i64 e1, .int .i64 e2, .int .i64 e3, .int .i64 e4, .int .i64 e5, .slice xa n xc], .int .i64 (0), .slice oa 0 oc] w fun r w' => r = .returned (.tuple #[.int .i64 (0), .bool (false)]) ∧ Below w.heap.size w w' := by
  go_enter Try.func25, Try.ntmps25
  go_wp2_with fail
  go_quiet ((fail))
  go_wp2
  go_ret2
  exact ⟨rfl, bDrewN two_below _⟩
set_option maxRecDepth 20000 in
set_option maxHeartbeats 8000000 in
theorem node5_first1 {n : Nat} : Calls Try.prog 25 #[.agg #[.int .i64 5, .int .i64 e1, .int .i64 e2, .int .i64 e3, .int .i64 e4, .int .i64 e5, .slice xa n xc], .int .i64 (1), .slice oa 1 oc] w fun r w' => r = .returned (.tuple #[.int .i64 (0), .bool (false)]) ∧ Below w.heap.size w w' := by
  go_enter Try.func25, Try.ntmps25
  go_wp2_with fail
  go_quiet ((fail))
  go_wp2
  go_ret2
  exact ⟨rfl, bDrewN two_below _⟩
set_option maxRecDepth 20000 in
set_option maxHeartbeats 8000000 in
theorem node5_bad1 {K n : Nat} (hK : K ≤ 60) (hk1 : 1 ≤ K) (h1 : e1 ≠ (K : Int)) : Calls Try.prog 25 #[.agg #[.int .i64 5, .int .i64 e1, .int .i64 e2, .int .i64 e3, .int .i64 e4, .int .i64 e5, .slice xa n xc], .int .i64 ((K : Int) + 1), .slice oa (K + 1) oc] w fun r w' => r = .returned (.tuple #[.int .i64 (0), .bool (false)]) ∧ Below w.heap.size w w' := by
  have g0 : ¬ ((K : Int) + 1 < 2) := by omega
  have g0d : decide ((K : Int) + 1 < 2) = false := decide_eq_false g0
  have g2 : (e1 != (K : Int)) = true := by simpa using h1
  have g3 : (e1 == (K : Int)) = false := by simpa using h1
  go_enter Try.func25, Try.ntmps25
  go_wp2_with fail
  go_quiet ((fail))
  go_wp2
  go_ret2
  exact ⟨rfl, bDrewN two_below _⟩
set_option maxRecDepth 20000 in
set_option maxHeartbeats 8000000 in
theorem node5_bad2 {K n : Nat} (ho : Ints w oa o) (hl : o.length = K + 1) {X : Int} (hX : o.getD K 0 = X) (hX1 : 1 ≤ X) (hX2 : X ≤ 60) (hK : K ≤ 60) (hk1 : 1 ≤ K) (h2 : e2 ≠ (K : Int) - X) : Calls Try.prog 25 #[.agg #[.int .i64 5, .int .i64 (K : Int), .int .i64 e2, .int .i64 e3, .int .i64 e4, .int .i64 e5, .slice xa n xc], .int .i64 ((K : Int) + 1), .slice oa (K + 1) oc] w fun r w' => r = .returned (.tuple #[.int .i64 (0), .bool (false)]) ∧ Below w.heap.size w w' := by
  have g1 : ¬ ((K : Int) + 1 < 1) := by omega
  have g2 : ((K : Int) != (K : Int)) = false := by simp
  obtain ⟨b1, o1, rfl, hc1⟩ := own_at ho (by omega) hX
  have c1 := hc1 _ (two_below (A := .cells #[.int .i64 5, .int .i64 (K : Int), .int .i64 e2, .int .i64 e3, .int .i64 e4, .int .i64 e5, .slice xa n xc] 44) (B := .cells #[.int .i64 0, .int .i64 0, .int .i64 0] 41))
  have g4 : (K : Int) < ((K + 1 : Nat) : Int) := by omega
  have g5 : (K : Int) < (K : Int) + 1 := by omega
  have gz : (0 : Int) ≤ (K : Int) := by omega
  have gw : IntKind.i64.wrap ((K : Int) + 1 - 1) = (K : Int) := by rw [IntKind.wrap_i64]; omega
  have gv : IntKind.i64.wrap (K : Int) = (K : Int) := by rw [IntKind.wrap_i64]; omega
  have gx : IntKind.i64.wrap (X + 1) = X + 1 := by rw [IntKind.wrap_i64]; omega
  have g0 : ¬ ((K : Int) + 1 < 2) := by omega
  have g0d : decide ((K : Int) + 1 < 2) = false := decide_eq_false g0
  have g6 : ((K : Int) != (K : Int)) = false := by simp
  have g7 : (e2 != (K : Int) - X) = true := by simpa using h2
  have g8 : (e2 == (K : Int) - X) = false := by simpa using h2
  go_enter Try.func25, Try.ntmps25
  go_wp2_with fail
  go_quiet ((fail))
  go_wp2
  go_ret2
  exact ⟨rfl, bDrewN two_below _⟩
set_option maxRecDepth 20000 in
set_option maxHeartbeats 8000000 in
theorem node5_bad3 {K n : Nat} (ho : Ints w oa o) (hl : o.length = K + 1) {X : Int} (hX : o.getD K 0 = X) (hX1 : 1 ≤ X) (hX2 : X ≤ 60) (hK : K ≤ 60) (hk1 : 1 ≤ K) (h2 : e2 = (K : Int) - X) (h3 : e2 < 0) : Calls Try.prog 25 #[.agg #[.int .i64 5, .int .i64 (K : Int), .int .i64 e2, .int .i64 e3, .int .i64 e4, .int .i64 e5, .slice xa n xc], .int .i64 ((K : Int) + 1), .slice oa (K + 1) oc] w fun r w' => r = .returned (.tuple #[.int .i64 (0), .bool (false)]) ∧ Below w.heap.size w w' := by
  have g1 : ¬ ((K : Int) + 1 < 1) := by omega
  have g2 : ((K : Int) != (K : Int)) = false := by simp
  obtain ⟨b1, o1, rfl, hc1⟩ := own_at ho (by omega) hX
  have c1 := hc1 _ (two_below (A := .cells #[.int .i64 5, .int .i64 (K : Int), .int .i64 e2, .int .i64 e3, .int .i64 e4, .int .i64 e5, .slice xa n xc] 44) (B := .cells #[.int .i64 0, .int .i64 0, .int .i64 0] 41))
  have g4 : (K : Int) < ((K + 1 : Nat) : Int) := by omega
  have g5 : (K : Int) < (K : Int) + 1 := by omega
  have gz : (0 : Int) ≤ (K : Int) := by omega
  have gw : IntKind.i64.wrap ((K : Int) + 1 - 1) = (K : Int) := by rw [IntKind.wrap_i64]; omega
  have gv : IntKind.i64.wrap (K : Int) = (K : Int) := by rw [IntKind.wrap_i64]; omega
  have gx : IntKind.i64.wrap (X + 1) = X + 1 := by rw [IntKind.wrap_i64]; omega
  have g0 : ¬ ((K : Int) + 1 < 2) := by omega
  have g0d : decide ((K : Int) + 1 < 2) = false := decide_eq_false g0
  have g6 : ((K : Int) != (K : Int)) = false := by simp
  have g7 : (e2 != (K : Int) - X) = false := by rw [h2]; simp
  have g8 : (e2 == (K : Int) - X) = true := by rw [h2]; simp
  have g9 : decide (e2 < 0) = true := decide_eq_true h3
  clear h2 h3
  go_enter Try.func25, Try.ntmps25
  go_wp2_with fail
  go_quiet ((fail))
  go_wp2
  go_ret2
  exact ⟨rfl, bDrewN two_below _⟩
end
end Go.Proofs.Ytpmcipnookjmgaa
