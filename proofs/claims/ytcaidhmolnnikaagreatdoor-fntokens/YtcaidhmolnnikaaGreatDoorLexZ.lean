/-
  Plain, for FnTokens: the text of a right list; bytes at a later world.
-/
import Derived.Test.YtcaidhmolnnikaaGreatDoorDrawTk
import Derived.Test.YtcaidhmolnnikaaGreatDoorJoinsT
import Derived.Test.YtcaidhmolnnikaaGreatDoorTokS
namespace Go.Proofs.YtcaidhmolnnikaaGreatDoor
open Go.RowKit
set_option linter.unusedVariables false
set_option linter.unusedSimpArgs false
theorem src_on {w w' : World} {a : Option Addr} {len : Nat} (h : Src w.heap.size w a len) (hb : Below w.heap.size w w') : Src w'.heap.size w' a len := by
  obtain ⟨h1, h2⟩ := h.keep hb
  refine ⟨h1, ?_⟩
  rcases h2 with h2 | ⟨b, off, e, hB, hc⟩
  · exact .inl h2
  · exact .inr ⟨b, off, e, Nat.lt_of_lt_of_le hB hb.size, hc⟩
theorem tokV_le (n : Nat) (E : Nat → Spn) : (tokV n E).size ≤ 6900 := by
  unfold tokV
  split
  · rename_i h
    unfold tokR at h
    simp only [Bool.and_eq_true, decide_eq_true_eq] at h
    have := tokJ_le h.1 (Nat.le_refl n)
    omega
  · exact Nat.zero_le _
theorem lexV_tokV {n : Nat} {E : Nat → Spn} (h : tokAll E n = true) (h3 : n ≤ 300) (hs : (tokV n E).size ≤ 300) : lexV (tokV n E) = ((List.range n).map E, 0, (tokV n E).size) := by
  have hr : tokR n E = true := by unfold tokR; rw [h, decide_eq_true h3]; rfl
  have e : tokV n E = tokJ E n := by unfold tokV; rw [if_pos hr]
  rw [e] at hs ⊢
  exact tokJ_lexV E n h hs
theorem map_getD (E : Nat → Spn) {n i : Nat} (h : i < n) : ((List.range n).map E).getD i spn0 = E i := by
  rw [List.getD_eq_getElem?_getD, List.getElem?_map, List.getElem?_range h]
  rfl
end Go.Proofs.YtcaidhmolnnikaaGreatDoor
