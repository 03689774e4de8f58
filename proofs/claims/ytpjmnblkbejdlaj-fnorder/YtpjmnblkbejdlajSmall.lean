
/-
  Walks: what the functions of Chapter 1 on one number (program and specification) answer, whatever they are given.
-/
import Derived.Test.YtpjmnblkbejdlajBase
import Derived.Test.YtpjmnblkbejdlajMath
import Derived.Laws.EntriesVeiled
namespace Go.Proofs.Ytpjmnblkbejdlaj
open Go.RowKit
set_option maxHeartbeats 400000 in
theorem in_spec (x l h : Int) (w : World) : Calls Try.prog 17 #[.int .i64 x, .int .i64 l, .int .i64 h] w fun e w' => e = .returned (.bool (decide (l ≤ x) && decide (x ≤ h))) ∧ w' = w := by
  go_enter Try.func17, Try.ntmps17
  go_wp2
  all_goals
    go_ret
    refine ⟨?_, rfl⟩
    simp_all <;> omega
end Go.Proofs.Ytpjmnblkbejdlaj
