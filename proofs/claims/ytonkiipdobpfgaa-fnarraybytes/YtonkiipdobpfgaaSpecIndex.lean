
/-
  Walks: the specification's IndexOf, whatever list and place it is given.
-/
import Derived.Test.YtonkiipdobpfgaaSpecPlace
import Derived.LoopN
namespace Go.Proofs.Ytonkiipdobpfgaa
open Go.RowKit
set_option linter.unusedVariables false
end Go.Proofs.Ytonkiipdobpfgaa
