/-
  ArrayPack's contracts, as the law's walk takes them.
-/
import Derived.Test.YtonkiipdobpfgaaArrPS
import Derived.Test.YtonkiipdobpfgaaBytP
namespace Go.Proofs.Ytonkiipdobpfgaa
open Go.RowKit
set_option linter.unusedVariables false
theorem heldB_b {B C n : Nat} {w : World} {v : Value} (k0 : Int) (h : BPiece B C w v (upB k0 n)) (hn : n ≤ 1048576) (p1 : 0 ≤ k0) (p2 : k0 ≤ 1099511627776) :
    Calls Try.prog 14 #[v, .int .i64 k0] w fun e w' => e = .returned (.int .i64 (k0 + n)) ∧ Below w.heap.size w w' := by
  refine (heldB_piece k0 h hn p1 p2).mono ?_
  rintro e w' ⟨rfl, rfl⟩
  exact ⟨rfl, Below.refl _ _⟩
theorem apack_b {f : FuncId} {w : World} {v : Value} {b : Bool} {P : List Int} (h : Calls Try.prog f #[v] w fun r w' => APost w b P r w') :
    Calls Try.prog f #[v] w fun e w' => ∃ v, e = .returned (.tuple #[v, .bool b]) ∧ BPiece w.heap.size w'.heap.size w' v P ∧ Below w.heap.size w w' := by
  refine h.mono ?_
  rintro e w' ⟨a, c, rfl, hN, hb⟩
  exact ⟨_, rfl, hN.bpiece, hb⟩
end Go.Proofs.Ytonkiipdobpfgaa
