/-
  Walks: NumOk, the program's and the specification's, whatever it is given.
-/
import Derived.Test.YtcaidhmolnnikaaDoorRows
import Derived.Test.YtcaidhmolnnikaaDoorMath
import Derived.WalkKit
import Derived.WalkSpells
import Derived.WalkLawsBesides
import Derived.RowKit3
import Derived.Handy
import Derived.Laws.EntriesVeiled
namespace Go.Proofs.YtcaidhmolnnikaaDoor
open Go.RowKit

set_option maxHeartbeats 400000 in
theorem numOk_impl (x : Int) (w : World) : Calls Tryd.prog 71 #[.int .i64 x] w fun e w' => e = .returned (.bool (ok x)) ∧ w' = w := by
  go_enter Tryd.func71, Tryd.ntmps71
  go_wp2
  all_goals
    go_ret
    refine ⟨?_, rfl⟩
    simp_all [ok] <;> omega
set_option maxHeartbeats 400000 in
theorem in_spec (x l h : Int) (w : World) : Calls Tryd.prog 46 #[.int .i64 x, .int .i64 l, .int .i64 h] w fun e w' => e = .returned (.bool (decide (l ≤ x) && decide (x ≤ h))) ∧ w' = w := by
  go_enter Tryd.func46, Tryd.ntmps46
  go_wp2
  all_goals
    go_ret
    refine ⟨?_, rfl⟩
    simp_all <;> omega
set_option maxHeartbeats 400000 in
theorem numOk_spec (x : Int) (w : World) : Calls Tryd.prog 40 #[.int .i64 x] w fun e w' => e = .returned (.bool (ok x)) ∧ w' = w := by
  go_enter Tryd.func40, Tryd.ntmps40
  go_wp2_with (go_at_call 46; refine (in_spec _ _ _ _).mono ?_; rintro e w' ⟨rfl, rfl⟩)
  go_ret
  exact ⟨by simp [ok], rfl⟩
end Go.Proofs.YtcaidhmolnnikaaDoor
