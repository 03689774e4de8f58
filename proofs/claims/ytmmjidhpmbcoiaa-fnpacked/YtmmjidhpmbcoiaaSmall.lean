
/-
  Walks: what the functions of Chapter 1 on one number (program and specification) answer, whatever they are given.
-/
import Derived.Test.YtmmjidhpmbcoiaaBase
import Derived.Test.YtmmjidhpmbcoiaaMath
import Derived.Laws.EntriesVeiled
namespace Go.Proofs.Ytmmjidhpmbcoiaa
open Go.RowKit
set_option maxHeartbeats 400000 in
theorem numOk_impl (x : Int) (w : World) : Calls Try.prog 114 #[.int .i64 x] w fun e w' => e = .returned (.bool (ok x)) ∧ w' = w := by
  go_enter Try.func114, Try.ntmps114
  go_wp2
  all_goals
    go_ret
    refine ⟨?_, rfl⟩
    simp_all [ok] <;> omega
set_option maxHeartbeats 400000 in
theorem in_spec (x l h : Int) (w : World) : Calls Try.prog 43 #[.int .i64 x, .int .i64 l, .int .i64 h] w fun e w' => e = .returned (.bool (decide (l ≤ x) && decide (x ≤ h))) ∧ w' = w := by
  go_enter Try.func43, Try.ntmps43
  go_wp2
  all_goals
    go_ret
    refine ⟨?_, rfl⟩
    simp_all <;> omega
set_option maxHeartbeats 400000 in
theorem numOk_spec (x : Int) (w : World) : Calls Try.prog 93 #[.int .i64 x] w fun e w' => e = .returned (.bool (ok x)) ∧ w' = w := by
  go_enter Try.func93, Try.ntmps93
  go_wp2_with (go_at_call 43; refine (in_spec _ _ _ _).mono ?_; rintro e w' ⟨rfl, rfl⟩)
  go_ret
  exact ⟨by simp [ok], rfl⟩
set_option maxHeartbeats 400000 in
theorem max_spec (a b : Int) (w : World) : Calls Try.prog 108 #[.int .i64 a, .int .i64 b] w fun e w' => e = .returned (.int .i64 (mx a b)) ∧ w' = w := by
  go_enter Try.func108, Try.ntmps108
  go_wp2
  all_goals
    go_ret
    refine ⟨?_, rfl⟩
    simp_all [mx] <;> omega
end Go.Proofs.Ytmmjidhpmbcoiaa
