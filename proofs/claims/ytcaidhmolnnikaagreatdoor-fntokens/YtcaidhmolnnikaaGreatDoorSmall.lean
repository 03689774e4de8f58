
/-
  Walks: what the functions of Chapter 1 on one number (program and specification) answer, whatever they are given.
-/
import Derived.Test.YtcaidhmolnnikaaGreatDoorBase
import Derived.Test.YtcaidhmolnnikaaGreatDoorMath
import Derived.Laws.EntriesVeiled
namespace Go.Proofs.YtcaidhmolnnikaaGreatDoor
open Go.RowKit
set_option maxHeartbeats 400000 in
theorem numOk_impl (x : Int) (w : World) : Calls Tryz.prog 21 #[.int .i64 x] w fun e w' => e = .returned (.bool (ok x)) ∧ w' = w := by
  go_enter Tryz.func21, Tryz.ntmps21
  go_wp2
  all_goals
    go_ret
    refine ⟨?_, rfl⟩
    simp_all [ok] <;> omega
set_option maxHeartbeats 400000 in
theorem in_spec (x l h : Int) (w : World) : Calls Tryz.prog 29 #[.int .i64 x, .int .i64 l, .int .i64 h] w fun e w' => e = .returned (.bool (decide (l ≤ x) && decide (x ≤ h))) ∧ w' = w := by
  go_enter Tryz.func29, Tryz.ntmps29
  go_wp2
  all_goals
    go_ret
    refine ⟨?_, rfl⟩
    simp_all <;> omega
set_option maxHeartbeats 400000 in
theorem numOk_spec (x : Int) (w : World) : Calls Tryz.prog 47 #[.int .i64 x] w fun e w' => e = .returned (.bool (ok x)) ∧ w' = w := by
  go_enter Tryz.func47, Tryz.ntmps47
  go_wp2_with (go_at_call 29; refine (in_spec _ _ _ _).mono ?_; rintro e w' ⟨rfl, rfl⟩)
  go_ret
  exact ⟨by simp [ok], rfl⟩
set_option maxHeartbeats 400000 in
theorem min_spec (a b : Int) (w : World) : Calls Tryz.prog 46 #[.int .i64 a, .int .i64 b] w fun e w' => e = .returned (.int .i64 (mn a b)) ∧ w' = w := by
  go_enter Tryz.func46, Tryz.ntmps46
  go_wp2
  all_goals
    go_ret
    refine ⟨?_, rfl⟩
    simp_all [mn] <;> omega
end Go.Proofs.YtcaidhmolnnikaaGreatDoor
