
/-
  Walks: the specification's ArraySame, ScalarOf, VectorOf and NumAt.
-/
import Derived.Test.YtbmkfmppcojcgaaGreatSpecArr
import Derived.Test.YtbmkfmppcojcgaaGreatAppend
import Derived.OwnWalk
import Derived.Laws.ResultCell
namespace Go.Proofs.YtbmkfmppcojcgaaGreat
open Go.RowKit
set_option linter.unusedVariables false
set_option linter.unusedSimpArgs false
set_option maxRecDepth 20000 in
set_option maxHeartbeats 1000000 in
theorem scalar_spec (x : Int) (w : World) :
    Calls Tryz.prog 60 #[.int .i64 x] w fun e w' => ∃ v, e = .returned v ∧ Arr w.heap.size w'.heap.size w' v [] [x] ∧ Below w.heap.size w w' := by
  go_enter Tryz.func60, Tryz.ntmps60
  go_wp2
  go_returns
  refine ⟨_, rfl, ⟨_, _, rfl, Piece.nil _ _ _, ?_, fun g off n c off' n' c' h => by cases h⟩, by repeat first | exact Below.refl _ _ | refine bAlloc ?_ _⟩
  exact OwnInts.piece (l := [x]) (heap_alloc2_new w _ _) (by omega) (by simp) 1
/-- What VectorOf answers. -/
def vecOk (l : List Int) : Bool := arrOk [(l.length : Int)] l
end Go.Proofs.YtbmkfmppcojcgaaGreat
