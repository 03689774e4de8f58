
/-
  Walks: the specification's ShowRow.
-/
import Derived.Test.YtcaidhmolnnikaaGreatDoorWideS
namespace Go.Proofs.YtcaidhmolnnikaaGreatDoor
open Go.RowKit
set_option linter.unusedVariables false
set_option linter.unusedSimpArgs false
/-- The first k numbers in a row. -/
def rowB (l : List Int) : Nat → ByteArray
  | 0 => ⟨#[]⟩
  | k + 1 => (if k = 0 then rowB l k else rowB l k ++ ⟨#[32]⟩) ++ digB (l.getD k 0)
def rowV (l : List Int) : ByteArray := if l.all ok = true then rowB l l.length else ⟨#[]⟩
theorem rowB_le {l : List Int} (h : l.all ok = true) : ∀ {k : Nat}, k ≤ l.length → (rowB l k).size ≤ 23 * k
  | 0, _ => by simp [rowB, ByteArray.size]
  | k + 1, hk => by
    have h1 := rowB_le h (k := k) (by omega)
    have h2 := digB_size (ok_at h (k := k) (by omega))
    have e : ByteArray.size ⟨#[32]⟩ = 1 := rfl
    simp only [rowB]
    split
    · rw [str_len]; omega
    · rw [str_len, str_len]; omega
end Go.Proofs.YtcaidhmolnnikaaGreatDoor
