/-
  Walks: the program's isPlain.
-/
import Derived.Test.YtpommfkbkknjaaaSpanM
import Derived.Test.YtpommfkbkknjaaaSpanQ
import Derived.Test.YtpommfkbkknjaaaFunOk
import Derived.Test.YtpommfkbkknjaaaFunQ
namespace Go.Proofs.Ytpommfkbkknjaaa
open Go.RowKit
set_option linter.unusedVariables false
set_option linter.unusedSimpArgs false
set_option maxRecDepth 20000 in
set_option maxHeartbeats 8000000 in
theorem plain1_impl {e1 e2 e3 e4 : Int} {w : World} {xa : Option Addr} {nl xc : Nat} : Calls Try.prog 33 #[.agg #[.int .i64 1, .int .i64 e1, .int .i64 e2, .int .i64 e3, .int .i64 e4, .slice xa nl xc]] w fun r w' => r = .returned (.bool true) ∧ Below w.heap.size w w' := by
  go_enter Try.func33, Try.ntmps33
  go_wp2
  go_ret
  exact ⟨rfl, one_below⟩
set_option maxRecDepth 20000 in
set_option maxHeartbeats 8000000 in
theorem plain2_impl {e1 e2 e3 e4 : Int} {w : World} {xa : Option Addr} {nl xc : Nat} : Calls Try.prog 33 #[.agg #[.int .i64 2, .int .i64 e1, .int .i64 e2, .int .i64 e3, .int .i64 e4, .slice xa nl xc]] w fun r w' => r = .returned (.bool true) ∧ Below w.heap.size w w' := by
  go_enter Try.func33, Try.ntmps33
  go_wp2
  go_ret
  exact ⟨rfl, one_below⟩
set_option maxRecDepth 20000 in
set_option maxHeartbeats 8000000 in
theorem plain4a_impl {e1 e2 e3 e4 : Int} {w : World} {xa : Option Addr} {nl xc : Nat} (h3 : e3 = 0) : Calls Try.prog 33 #[.agg #[.int .i64 4, .int .i64 e1, .int .i64 e2, .int .i64 e3, .int .i64 e4, .slice xa nl xc]] w fun r w' => r = .returned (.bool (sign1 e2)) ∧ Below w.heap.size w w' := by
  subst h3
  go_enter Try.func33, Try.ntmps33
  go_wp2_with (go_at_call 43; refine (knows1_impl _ _).mono ?_; rintro r w1 ⟨rfl, hb⟩; have B1 : Hid (Below w.heap.size w w1) := bTrans one_below hb; clear hb)
  all_goals
    go_ret
    exact ⟨rfl, B1.out⟩
set_option maxRecDepth 20000 in
set_option maxHeartbeats 8000000 in
theorem plain4b_impl {e1 e2 e3 e4 : Int} {w : World} {xa : Option Addr} {nl xc : Nat} (h3 : e3 ≠ 0) : Calls Try.prog 33 #[.agg #[.int .i64 4, .int .i64 e1, .int .i64 e2, .int .i64 e3, .int .i64 e4, .slice xa nl xc]] w fun r w' => r = .returned (.bool false) ∧ Below w.heap.size w w' := by
  have b3 : (e3 == 0) = false := by simpa using h3
  clear h3
  go_enter Try.func33, Try.ntmps33
  go_wp2
  go_ret
  exact ⟨rfl, one_below⟩
set_option maxRecDepth 20000 in
set_option maxHeartbeats 8000000 in
theorem plain5a_impl {e1 e2 e3 e4 : Int} {w : World} {xa : Option Addr} {nl xc : Nat} (h3 : e3 = 0) : Calls Try.prog 33 #[.agg #[.int .i64 5, .int .i64 e1, .int .i64 e2, .int .i64 e3, .int .i64 e4, .slice xa nl xc]] w fun r w' => r = .returned (.bool (sign2 e2)) ∧ Below w.heap.size w w' := by
  subst h3
  go_enter Try.func33, Try.ntmps33
  go_wp2_with (go_at_call 44; refine (knows2_impl _ _).mono ?_; rintro r w1 ⟨rfl, hb⟩; have B1 : Hid (Below w.heap.size w w1) := bTrans one_below hb; clear hb)
  all_goals
    go_ret
    exact ⟨rfl, B1.out⟩
set_option maxRecDepth 20000 in
set_option maxHeartbeats 8000000 in
theorem plain5b_impl {e1 e2 e3 e4 : Int} {w : World} {xa : Option Addr} {nl xc : Nat} (h3 : e3 ≠ 0) : Calls Try.prog 33 #[.agg #[.int .i64 5, .int .i64 e1, .int .i64 e2, .int .i64 e3, .int .i64 e4, .slice xa nl xc]] w fun r w' => r = .returned (.bool false) ∧ Below w.heap.size w w' := by
  have b3 : (e3 == 0) = false := by simpa using h3
  clear h3
  go_enter Try.func33, Try.ntmps33
  go_wp2
  go_ret
  exact ⟨rfl, one_below⟩
set_option maxRecDepth 20000 in
set_option maxHeartbeats 8000000 in
theorem plain0_impl {e0 e1 e2 e3 e4 : Int} {w : World} {xa : Option Addr} {nl xc : Nat} (h1 : e0 ≠ 1) (h2 : e0 ≠ 2) (h4 : e0 ≠ 4) (h5 : e0 ≠ 5) : Calls Try.prog 33 #[.agg #[.int .i64 e0, .int .i64 e1, .int .i64 e2, .int .i64 e3, .int .i64 e4, .slice xa nl xc]] w fun r w' => r = .returned (.bool false) ∧ Below w.heap.size w w' := by
  have b1 : (e0 == 1) = false := by simpa using h1
  have b2 : (e0 == 2) = false := by simpa using h2
  have b4 : (e0 == 4) = false := by simpa using h4
  have b5 : (e0 == 5) = false := by simpa using h5
  clear h1 h2 h4 h5
  go_enter Try.func33, Try.ntmps33
  go_wp2
  go_ret
  exact ⟨rfl, one_below⟩
/-- A plain step or none. -/
theorem plain_impl (e : Nat → Int) (w : World) (xa : Option Addr) (nl xc : Nat) : Calls Try.prog 33 #[.agg #[.int .i64 (e 0), .int .i64 (e 1), .int .i64 (e 2), .int .i64 (e 3), .int .i64 (e 4), .slice xa nl xc]] w fun r w' => r = .returned (.bool (plainB e)) ∧ Below w.heap.size w w' := by
  by_cases h1 : e 0 = 1
  · have : plainB e = true := by simp [plainB, h1]
    rw [this, h1]; exact plain1_impl
  by_cases h2 : e 0 = 2
  · have : plainB e = true := by simp [plainB, h2]
    rw [this, h2]; exact plain2_impl
  by_cases h4 : e 0 = 4
  · by_cases h3 : e 3 = 0
    · have : plainB e = sign1 (e 2) := by simp [plainB, h4, h3]
      rw [this, h4]; exact plain4a_impl h3
    · have : plainB e = false := by simp [plainB, h4, h3]
      rw [this, h4]; exact plain4b_impl h3
  by_cases h5 : e 0 = 5
  · by_cases h3 : e 3 = 0
    · have : plainB e = sign2 (e 2) := by simp [plainB, h5, h3]
      rw [this, h5]; exact plain5a_impl h3
    · have : plainB e = false := by simp [plainB, h5, h3]
      rw [this, h5]; exact plain5b_impl h3
  have : plainB e = false := by simp [plainB, h1, h2, h4, h5]
  rw [this]; exact plain0_impl h1 h2 h4 h5
end Go.Proofs.Ytpommfkbkknjaaa
