
/-
  Walks: TokenOk, the specification's and the program's, whatever it is given; toToken.
-/
import Derived.Test.YtkhcphkdcjimiaaGreatTokSign
import Derived.Test.YtkhcphkdcjimiaaGreatNumOk
namespace Go.Proofs.YtkhcphkdcjimiaaGreat
open Go.RowKit
set_option linter.unusedVariables false
theorem cell_newT (w : World) (cs : Array Value) (t : TypeId) {k : Nat} {v : Value} (h : cs[k]? = some v) : (w.alloc (.cells cs t)).cell? ⟨w.heap.size, k, none⟩ = some v := by
  rw [World.cell?_alloc_at _ _ _ _ rfl]; exact h
theorem tok1 (v : Int) : tokB 1 v = ok v := rfl
theorem tok2 (v : Int) : tokB 2 v = (decide (0 ≤ v) && decide (v ≤ 25)) := rfl
theorem tok3 (v : Int) : tokB 3 v = signB v := rfl
theorem tok4 {k : Int} (h : k = 4 ∨ k = 5 ∨ k = 6) (v : Int) : tokB k v = (v == 0) := by
  unfold tokB
  rw [if_neg (by omega), if_neg (by omega), if_neg (by omega), if_pos h]
theorem tok5 {k : Int} (h : k < 1 ∨ 6 < k) (v : Int) : tokB k v = false := by
  unfold tokB
  rw [if_neg (by omega), if_neg (by omega), if_neg (by omega), if_neg (by omega)]
theorem tokKinds (k : Int) : k = 1 ∨ k = 2 ∨ k = 3 ∨ k = 4 ∨ k = 5 ∨ k = 6 ∨ (k < 1 ∨ 6 < k) := by omega
end Go.Proofs.YtkhcphkdcjimiaaGreat
