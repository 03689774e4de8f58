/-
  Walks: the program's and the specification's Neutral, whatever they are given.
-/
import Derived.Test.YtidhfgncebaphalRows
import Derived.Test.YtidhfgncebaphalMath
import Derived.WalkKit
import Derived.WalkSpells
import Derived.WalkLawsBesides
namespace Go.Proofs.Ytidhfgncebaphal
open Go.RowKit
set_option maxHeartbeats 400000 in
theorem neutral_impl (s : Int) (w : World) :
    Calls Try.prog 11 #[.int .i64 s] w fun e w' => e = .returned (.tuple #[.int .i64 (neu s).1, .bool (neu s).2]) ∧ w' = w := by
  go_enter Try.func11, Try.ntmps11
  go_wp2
  all_goals
    go_ret2
    refine ⟨?_, rfl⟩
    simp_all [neu]
set_option maxHeartbeats 400000 in
theorem neutral_spec (s : Int) (w : World) :
    Calls Try.prog 10 #[.int .i64 s] w fun e w' => e = .returned (.tuple #[.int .i64 (neu s).1, .bool (neu s).2]) ∧ w' = w := by
  go_enter Try.func10, Try.ntmps10
  go_wp2
  all_goals
    go_ret2
    refine ⟨?_, rfl⟩
    simp_all [neu]
end Go.Proofs.Ytidhfgncebaphal
