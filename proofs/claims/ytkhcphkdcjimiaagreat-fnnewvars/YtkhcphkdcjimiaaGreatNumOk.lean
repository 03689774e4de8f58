
/-
  Walks: NumOk, the program's and the specification's, whatever it is given.
-/
import Derived.Test.YtkhcphkdcjimiaaGreatRows
import Derived.Test.YtkhcphkdcjimiaaGreatMath
import Derived.WalkKit
import Derived.WalkSpells
import Derived.WalkLawsBesides
import Derived.RowKit3
import Derived.Handy
import Derived.Laws.EntriesVeiled
namespace Go.Proofs.YtkhcphkdcjimiaaGreat
open Go.RowKit

set_option maxHeartbeats 400000 in
theorem numOk_impl (x : Int) (w : World) : Calls Tryz.prog 86 #[.int .i64 x] w fun e w' => e = .returned (.bool (ok x)) ∧ w' = w := by
  go_enter Tryz.func86, Tryz.ntmps86
  go_wp2
  all_goals
    go_ret
    refine ⟨?_, rfl⟩
    simp_all [ok] <;> omega
end Go.Proofs.YtkhcphkdcjimiaaGreat
