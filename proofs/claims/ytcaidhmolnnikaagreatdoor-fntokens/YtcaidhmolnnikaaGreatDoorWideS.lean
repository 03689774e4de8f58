
/-
  Walks: the specification's l16Nums, ShowWide.
-/
import Derived.Test.YtcaidhmolnnikaaGreatDoorDigS
import Derived.Test.YtcaidhmolnnikaaGreatDoorImplArr1
namespace Go.Proofs.YtcaidhmolnnikaaGreatDoor
open Go.RowKit
set_option linter.unusedVariables false
set_option linter.unusedSimpArgs false
/-- How many bytes the longest of the first k has. -/
def wideN (l : List Int) : Nat → Nat
  | 0 => 0
  | k + 1 => max (wideN l k) (digB (l.getD k 0)).size
def wideV (l : List Int) : Int := if l.all ok = true then (wideN l l.length : Int) else -1
theorem ok_at {l : List Int} (h : l.all ok = true) {k : Nat} (hk : k < l.length) : ok (l.getD k 0) = true := by
  have e : l.getD k 0 = l[k] := by simp [List.getD_eq_getElem?_getD, hk]
  rw [e]
  exact List.all_eq_true.1 h _ (List.getElem_mem hk)
theorem wideN_le {l : List Int} (h : l.all ok = true) : ∀ {k : Nat}, k ≤ l.length → wideN l k ≤ 22
  | 0, _ => by simp [wideN]
  | k + 1, hk => by
    have h1 := wideN_le h (k := k) (by omega)
    have h2 := digB_size (ok_at h (k := k) (by omega))
    simp only [wideN]
    omega
end Go.Proofs.YtcaidhmolnnikaaGreatDoor
