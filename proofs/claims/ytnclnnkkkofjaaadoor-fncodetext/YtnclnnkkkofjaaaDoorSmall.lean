
/-
  Walks: what the functions of Chapter 1 on one number (program and specification) answer, whatever they are given.
-/
import Derived.Test.YtnclnnkkkofjaaaDoorBase
import Derived.Test.YtnclnnkkkofjaaaDoorMath
import Derived.Laws.EntriesVeiled
namespace Go.Proofs.YtnclnnkkkofjaaaDoor
open Go.RowKit
set_option maxHeartbeats 400000 in
theorem in_spec (x l h : Int) (w : World) : Calls Tryd.prog 9 #[.int .i64 x, .int .i64 l, .int .i64 h] w fun e w' => e = .returned (.bool (decide (l ≤ x) && decide (x ≤ h))) ∧ w' = w := by
  go_enter Tryd.func9, Tryd.ntmps9
  go_wp2
  all_goals
    go_ret
    refine ⟨?_, rfl⟩
    simp_all <;> omega
end Go.Proofs.YtnclnnkkkofjaaaDoor
