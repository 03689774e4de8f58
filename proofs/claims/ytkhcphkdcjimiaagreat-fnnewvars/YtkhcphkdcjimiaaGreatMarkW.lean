
/-
  Lists of numbers marked from great numbers on; sums of lengths.
-/
import Derived.Test.YtkhcphkdcjimiaaGreatPiece
namespace Go.Proofs.YtkhcphkdcjimiaaGreat
open Go.RowKit
set_option linter.unusedVariables false
set_option linter.unusedSimpArgs false
/-- How many numbers the first i have, L each and their lists. -/
def totN (L : Nat) (N : Nat → List Int) : Nat → Nat
  | 0 => 0
  | i + 1 => totN L N i + (L + (N i).length)
theorem totN_le {L : Nat} {N : Nat → List Int} (hl : ∀ i, (N i).length ≤ 1048576) (hL : L ≤ 6) {i : Nat} (hi : i ≤ 1048576) : totN L N i ≤ 1099518000000 := by
  have : ∀ j, totN L N j ≤ j * (L + 1048576) := fun j => by
    induction j with
    | zero => simp [totN]
    | succ j ih =>
      have := hl j
      rw [totN, Nat.succ_mul]
      omega
  have q := this i
  have r : i * (L + 1048576) ≤ 1048576 * 1048582 := Nat.mul_le_mul hi (by omega)
  omega
theorem totN_mono (L : Nat) (N : Nat → List Int) {i j : Nat} (h : i ≤ j) : totN L N i ≤ totN L N j := by
  induction j with
  | zero => rw [show i = 0 by omega]; exact Nat.le_refl _
  | succ j ih =>
    by_cases e : i = j + 1
    · rw [e]; exact Nat.le_refl _
    · have := ih (by omega); rw [totN]; omega
theorem lo_mono {lo : Nat → Nat} {k : Nat} (h : ∀ i, i < k → lo i ≤ lo (i + 1)) {i j : Nat} (hij : i ≤ j) (hj : j ≤ k) : lo i ≤ lo j := by
  induction j with
  | zero => rw [show i = 0 by omega]; exact Nat.le_refl _
  | succ j ih =>
    by_cases e : i = j + 1
    · rw [e]; exact Nat.le_refl _
    · exact Nat.le_trans (ih (by omega) (by omega)) (h j (by omega))
end Go.Proofs.YtkhcphkdcjimiaaGreat
