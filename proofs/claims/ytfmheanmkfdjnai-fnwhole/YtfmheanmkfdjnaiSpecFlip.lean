/-
  Walks: the specification's Flip, its places in bounds.
-/
import Derived.Test.YtfmheanmkfdjnaiSpecBack
import Derived.Test.YtfmheanmkfdjnaiRowsM
namespace Go.Proofs.Ytfmheanmkfdjnai
open Go.RowKit
set_option linter.unusedVariables false
/-- Flip. -/
theorem flip_spec {s d : List Int} {w : World} {v : Value} (h : ArrI w v s d) (hs : s.length ≤ 1048576) (hd : d.length ≤ 1048576) :
    Calls Try.prog 21 #[v] w fun e w' => ∃ v', e = .returned (.tuple #[v', .int .i64 (flipR s d).1]) ∧ Arr w.heap.size w'.heap.size w' v' (flipR s d).2.1 (flipR s d).2.2 ∧ Below w.heap.size w w' :=
  flip_walk h hd (fun ho i hi => flip_place ho i hi)
end Go.Proofs.Ytfmheanmkfdjnai
