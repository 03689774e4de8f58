
/-
  Walks: lists of letters copied into memory of their own, marked and looked at.
-/
import Derived.Test.YtkhcphkdcjimiaaGreatVarsO
namespace Go.Proofs.YtkhcphkdcjimiaaGreat
open Go.RowKit
set_option linter.unusedVariables false
set_option linter.unusedSimpArgs false
/-- Marked from k0 on. -/
def MkdV (k0 : Int) (S0 D0 : Nat → List Int) (k : Nat) (B : Nat → Bool) (S D : Nat → List Int) : Prop :=
  ∀ i, i < k → B i = ((k0 + (totV S0 D0 i : Int)) % 3 == 0) ∧ S i = upFrom (k0 + (totV S0 D0 i : Int) + 1) (S0 i).length ∧ D i = upFrom (k0 + (totV S0 D0 i : Int) + 1 + (S0 i).length) (D0 i).length
end Go.Proofs.YtkhcphkdcjimiaaGreat
