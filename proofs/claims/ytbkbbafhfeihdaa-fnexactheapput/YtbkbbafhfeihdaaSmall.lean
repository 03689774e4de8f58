
/-
  Walks: what the functions of Chapter 1 on one number (program and specification) answer, whatever they are given.
-/
import Derived.Test.YtbkbbafhfeihdaaBase
import Derived.Test.YtbkbbafhfeihdaaMath
import Derived.Laws.EntriesVeiled
namespace Go.Proofs.Ytbkbbafhfeihdaa
open Go.RowKit
set_option maxHeartbeats 400000 in
theorem numOk_impl (x : Int) (w : World) : Calls Try.prog 79 #[.int .i64 x] w fun e w' => e = .returned (.bool (ok x)) ∧ w' = w := by
  go_enter Try.func79, Try.ntmps79
  go_wp2
  all_goals
    go_ret
    refine ⟨?_, rfl⟩
    simp_all [ok] <;> omega
set_option maxHeartbeats 400000 in
theorem in_spec (x l h : Int) (w : World) : Calls Try.prog 42 #[.int .i64 x, .int .i64 l, .int .i64 h] w fun e w' => e = .returned (.bool (decide (l ≤ x) && decide (x ≤ h))) ∧ w' = w := by
  go_enter Try.func42, Try.ntmps42
  go_wp2
  all_goals
    go_ret
    refine ⟨?_, rfl⟩
    simp_all <;> omega
set_option maxHeartbeats 400000 in
theorem numOk_spec (x : Int) (w : World) : Calls Try.prog 49 #[.int .i64 x] w fun e w' => e = .returned (.bool (ok x)) ∧ w' = w := by
  go_enter Try.func49, Try.ntmps49
  go_wp2_with (go_at_call 42; refine (in_spec _ _ _ _).mono ?_; rintro e w' ⟨rfl, rfl⟩)
  go_ret
  exact ⟨by simp [ok], rfl⟩
end Go.Proofs.Ytbkbbafhfeihdaa
