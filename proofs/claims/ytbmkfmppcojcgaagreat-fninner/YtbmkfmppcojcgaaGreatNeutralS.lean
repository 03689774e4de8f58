/-
  Walks: the specification's Neutral, whatever it is given.
-/
import Derived.Test.YtbmkfmppcojcgaaGreatRows
import Derived.Test.YtbmkfmppcojcgaaGreatMath
import Derived.WalkKit
import Derived.WalkSpells
import Derived.WalkLawsBesides
namespace Go.Proofs.YtbmkfmppcojcgaaGreat
open Go.RowKit
set_option maxHeartbeats 400000 in
theorem neutral_spec (s : Int) (w : World) :
    Calls Tryz.prog 82 #[.int .i64 s] w fun e w' => e = .returned (.tuple #[.int .i64 (neu s).1, .bool (neu s).2]) ∧ w' = w := by
  go_enter Tryz.func82, Tryz.ntmps82
  go_wp2
  all_goals
    go_ret2
    refine ⟨?_, rfl⟩
    simp_all [neu]
end Go.Proofs.YtbmkfmppcojcgaaGreat
