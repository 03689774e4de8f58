/-
  Plain: the lengths of what a row shows, added.
-/
import Derived.Test.YtdcemlghnoecnaaDoorRowL
namespace Go.Proofs.YtdcemlghnoecnaaDoor
open Go.RowKit
set_option linter.unusedVariables false
set_option linter.unusedSimpArgs false
theorem none_empty : (⟨#[]⟩ : ByteArray).toList.isEmpty = true := by
  have h : (⟨#[]⟩ : ByteArray).toList = [] := by
    unfold ByteArray.toList ByteArray.toList.loop
    rfl
  rw [h]; rfl
/-- The lengths of the first k shown numbers, added. -/
def sumB (l : List Int) : Nat → Nat
  | 0 => 0
  | k + 1 => sumB l k + (shN (l.getD k 0)).size
theorem shN_size (x : Int) : (shN x).size ≤ 22 := by
  unfold shN
  split
  · next h => exact digB_size h
  · exact Nat.zero_le _
theorem sumB_le (l : List Int) : ∀ k, sumB l k ≤ 22 * k
  | 0 => Nat.le_refl _
  | k + 1 => by
    have h1 := sumB_le l k
    have h2 := shN_size (l.getD k 0)
    simp only [sumB]
    omega
theorem rowB_size {l : List Int} (h : l.all ok = true) : ∀ {k : Nat}, k ≤ l.length → 0 < k → (rowB l k).size + 1 = sumB l k + k
  | 0, _, h0 => by omega
  | k + 1, hk, _ => by
    have e : ByteArray.size ⟨#[32]⟩ = 1 := rfl
    have es : shN (l.getD k 0) = digB (l.getD k 0) := by unfold shN; rw [if_pos (ok_at h (k := k) (by omega))]
    simp only [rowB, sumB, es]
    by_cases k0 : k = 0
    · subst k0
      rw [if_pos rfl, str_len]
      have : (rowB l 0).size = 0 := rfl
      simp only [sumB]
      omega
    · have h1 := rowB_size h (k := k) (by omega) (by omega)
      rw [if_neg k0, str_len, str_len]
      omega
theorem wide_sum {l : List Int} (h : l.all ok = true) : ∀ {k : Nat}, k ≤ l.length → wideN l k ≤ sumB l k
  | 0, _ => Nat.le_refl _
  | k + 1, hk => by
    have h1 := wide_sum h (k := k) (by omega)
    have es : shN (l.getD k 0) = digB (l.getD k 0) := by unfold shN; rw [if_pos (ok_at h (k := k) (by omega))]
    simp only [wideN, sumB, es]
    omega
theorem wide_neg {l : List Int} (h : wideV l < 0) : rowV l = ⟨#[]⟩ := by
  unfold wideV at h
  unfold rowV
  split at h
  · omega
  · next q => rw [if_neg q]
theorem wide_none {l : List Int} (h : ¬ wideV l < 0) (h0 : l.length = 0) : wideV l = 0 := by
  have : l = [] := List.eq_nil_of_length_eq_zero h0
  subst this
  rfl
theorem wide_row {l : List Int} (h : ¬ wideV l < 0) (h0 : 0 < l.length) : ((rowV l).size : Int) = (sumB l l.length : Int) + (l.length : Int) - 1 ∧ wideV l ≤ (sumB l l.length : Int) := by
  unfold wideV at h ⊢
  unfold rowV
  split at h
  · next q =>
    have h1 := rowB_size q (Nat.le_refl _) h0
    have h2 := wide_sum q (Nat.le_refl l.length)
    rw [if_pos q, if_pos q]
    omega
  · omega
end Go.Proofs.YtdcemlghnoecnaaDoor
