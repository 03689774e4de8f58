/-
  Walks: the specification's Neutral, whatever it is given.
-/
import Derived.Test.YtbmkfmppcojcgaaRows
import Derived.Test.YtbmkfmppcojcgaaMath
import Derived.WalkKit
import Derived.WalkSpells
import Derived.WalkLawsBesides
namespace Go.Proofs.Ytbmkfmppcojcgaa
open Go.RowKit
set_option maxHeartbeats 400000 in
theorem neutral_spec (s : Int) (w : World) :
    Calls Try.prog 97 #[.int .i64 s] w fun e w' => e = .returned (.tuple #[.int .i64 (neu s).1, .bool (neu s).2]) ∧ w' = w := by
  go_enter Try.func97, Try.ntmps97
  go_wp2
  all_goals
    go_ret2
    refine ⟨?_, rfl⟩
    simp_all [neu]
end Go.Proofs.Ytbmkfmppcojcgaa
