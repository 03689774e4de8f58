
/-
  Walks: the program's Scan.
-/
import Derived.Test.YtbmkfmppcojcgaaScanN
import Derived.Test.YtbmkfmppcojcgaaImplRed3
import Derived.Test.YtbmkfmppcojcgaaImplOut1
import Derived.Test.YtbmkfmppcojcgaaImplMake9
import Derived.Test.YtbmkfmppcojcgaaSpecScan
namespace Go.Proofs.Ytbmkfmppcojcgaa
open Go.RowKit
set_option linter.unusedVariables false
set_option linter.unusedSimpArgs false
set_option maxHeartbeats 1000000 in
/-- reducing. -/
theorem reducing_impl (g : Int) (w : World) :
    Calls Try.prog 74 #[.int .i64 g] w fun r w' => r = .returned (.func (.func 89) #[] #[.pointer (some ⟨w.heap.size, 0, none⟩)]) ∧ w' = w.alloc (.cells #[.int .i64 g] 3) := by
  go_enter Try.func74, Try.ntmps74
  go_wp2
  go_ret
  exact ⟨rfl, rfl⟩
end Go.Proofs.Ytbmkfmppcojcgaa
