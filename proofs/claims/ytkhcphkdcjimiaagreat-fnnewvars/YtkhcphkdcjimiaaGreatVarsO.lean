
/-
  Lists of letters of one's own: in a block, their arrays behind it, each in blocks of its own; filled one by one, turned, marked and looked at.
-/
import Derived.Test.YtkhcphkdcjimiaaGreatVarsU
import Derived.Test.YtkhcphkdcjimiaaGreatMarkW
namespace Go.Proofs.YtkhcphkdcjimiaaGreat
open Go.RowKit
set_option linter.unusedVariables false
set_option linter.unusedSimpArgs false
/-- The first k of n are filled, in block o; their arrays lie behind it and below hi. -/
def OwnVars (o hi n k : Nat) (W : World) (B : Nat → Bool) (S D : Nat → List Int) : Prop :=
  ∃ (A : Array Value) (x y : Nat → Value) (lo : Nat → Nat), W.heap[o]? = some (.cells A 41 (0, 0)) ∧ A.size = n * 3 ∧ lo 0 = o + 1 ∧ (∀ i, i < k → lo i ≤ lo (i + 1)) ∧ lo k ≤ hi ∧ hi ≤ W.heap.size ∧
    ∀ i, i < k → (A[i * 3]? = some (.bool (B i)) ∧ A[i * 3 + 1]? = some (x i) ∧ A[i * 3 + 2]? = some (y i)) ∧ Arr (lo i) (lo (i + 1)) W (.agg #[x i, y i]) (S i) (D i)
section
variable {W W' : World} {o hi n k : Nat} {B : Nat → Bool} {S D : Nat → List Int}
theorem OwnVars.lt (h : OwnVars o hi n k W B S D) : o < W.heap.size := by obtain ⟨A, _, _, _, h1, _⟩ := h; exact lt_of_heapA h1
theorem OwnVars.lthi (h : OwnVars o hi n k W B S D) : o < hi ∧ hi ≤ W.heap.size := by
  obtain ⟨A, x, y, lo, h1, h2, h3, h4, h5, h6, _⟩ := h
  have := lo_mono h4 (Nat.zero_le k) (Nat.le_refl k)
  omega
theorem OwnVars.win {P Q : Nat} (h : OwnVars o hi n k W B S D) (hw : Win P Q W W') (hd : Q ≤ o ∨ hi ≤ P) : OwnVars o hi n k W' B S D := by
  have hl := h.lt
  have hl2 := h.lthi
  obtain ⟨A, x, y, lo, h1, h2, h3, h4, h5, h6, h7⟩ := h
  refine ⟨A, x, y, lo, by rw [hw.block o hl (by omega)]; exact h1, h2, h3, h4, h5, Nat.le_trans h6 hw.size, fun i hi => ?_⟩
  obtain ⟨q1, q2⟩ := h7 i hi
  have m1 := lo_mono h4 (Nat.zero_le i) (Nat.le_of_lt hi)
  have m2 := lo_mono h4 (show i + 1 ≤ k from hi) (Nat.le_refl k)
  exact ⟨q1, q2.win hw (by omega)⟩
theorem OwnVars.keep (h : OwnVars o hi n k W B S D) (hb : Below W.heap.size W W') : OwnVars o hi n k W' B S D := h.win (P := W.heap.size) (Q := W.heap.size) (Below.win hb) (.inr h.lthi.2)
theorem OwnVars.cells (h : OwnVars o hi n k W B S D) {i : Nat} (hk : i < n) : ((∃ u, W.cell? ⟨o, i * 3, none⟩ = some u) ∧ (∃ u, W.cell? ⟨o, i * 3 + 1, none⟩ = some u) ∧ (∃ u, W.cell? ⟨o, i * 3 + 2, none⟩ = some u)) ∧ W.frozen? ⟨o, i * 3, none⟩ = false ∧ W.frozen? ⟨o, i * 3 + 1, none⟩ = false ∧ W.frozen? ⟨o, i * 3 + 2, none⟩ = false := by
  obtain ⟨A, x, y, lo, h1, h2, _⟩ := h
  have g : ∀ j, j < n * 3 → ∃ u, W.cell? ⟨o, j, none⟩ = some u := fun j hj => ⟨A[j]'(by omega), cell_at h1 (Array.getElem?_eq_getElem (by omega))⟩
  exact ⟨⟨g _ (by omega), g _ (by omega), g _ (by omega)⟩, free_at h1 _, free_at h1 _, free_at h1 _⟩
theorem OwnVars.list (h : OwnVars o hi n n W B S D) : VarsI W (.slice (some ⟨o, 0, none⟩) n n) n B S D := by
  have hl := h.lt
  obtain ⟨A, x, y, lo, h1, h2, h3, h4, h5, h6, h7⟩ := h
  refine ⟨_, _, rfl, .inr ⟨o, 0, x, y, rfl, hl, fun i hi => ?_⟩⟩
  obtain ⟨⟨q0, q1, q2⟩, qz⟩ := h7 i hi
  obtain ⟨x9, y9, ev, px, py, _⟩ := qz
  cases ev
  rw [Nat.zero_add]
  exact ⟨cell_at h1 q0, cell_at h1 q1, cell_at h1 q2, px.intsI, py.intsI⟩
/-- One more is put. -/
theorem OwnVars.put {W0 : World} (h : OwnVars o hi n k W0 B S D) (hb : Below W0.heap.size W0 W) (hk : k < n) {x' y' : Value} (pa : Arr W0.heap.size W.heap.size W (.agg #[x', y']) (S k) (D k)) : OwnVars o W.heap.size n (k + 1) (((W.setCell ⟨o, k * 3, none⟩ (.bool (B k))).setCell ⟨o, k * 3 + 1, none⟩ x').setCell ⟨o, k * 3 + 2, none⟩ y') B S D := by
  have hw := h.keep hb
  have h0 := h.lthi
  obtain ⟨A, x, y, lo, h1, h2, h3, h4, h5, h6, h7⟩ := hw
  have e0 := heap_setCell_same W o (k * 3) _ _ (.bool (B k)) h1
  have e1 := heap_setCell_same _ o (k * 3 + 1) _ _ x' e0
  have e2 := heap_setCell_same _ o (k * 3 + 2) _ _ y' e1
  have ww : Win o (o + 1) W (((W.setCell ⟨o, k * 3, none⟩ (.bool (B k))).setCell ⟨o, k * 3 + 1, none⟩ x').setCell ⟨o, k * 3 + 2, none⟩ y') := ((win_setCell _ _ _ _).trans (win_setCell _ _ _ _)).trans (win_setCell _ _ _ _)
  have m0 := lo_mono h4 (Nat.zero_le k) (Nat.le_refl k)
  have hz := hb.size
  refine ⟨_, fun i => if i = k then x' else x i, fun i => if i = k then y' else y i, fun i => if i ≤ k then lo i else W.heap.size, e2, by simpa using h2, by simpa using h3, fun i hi => ?_, by show (if k + 1 ≤ k then lo (k + 1) else W.heap.size) ≤ _; rw [if_neg (Nat.not_succ_le_self k)]; exact Nat.le_refl _, by simp only [size_setCell]; exact Nat.le_refl _, fun i hi => ?_⟩
  · by_cases e : i = k
    · simp only [e, Nat.le_refl, if_true, if_neg (Nat.not_succ_le_self k)]; omega
    · simp only [if_pos (show i ≤ k by omega), if_pos (show i + 1 ≤ k by omega)]; exact h4 i (by omega)
  by_cases e : i = k
  · rw [e]
    simp only [if_true, Nat.le_refl, if_neg (Nat.not_succ_le_self k)]
    refine ⟨⟨?_, ?_, ?_⟩, (pa.win ww (.inr (by omega))).mono (by omega) (Nat.le_refl _)⟩
    · rw [Array.getElem?_setIfInBounds, if_neg (by omega), Array.getElem?_setIfInBounds, if_neg (by omega), Array.getElem?_setIfInBounds, if_pos rfl, if_pos (by omega)]
    · rw [Array.getElem?_setIfInBounds, if_neg (by omega), Array.getElem?_setIfInBounds, if_pos rfl, if_pos (by simp only [Array.size_setIfInBounds]; omega)]
    · rw [Array.getElem?_setIfInBounds, if_pos rfl, if_pos (by simp only [Array.size_setIfInBounds]; omega)]
  · obtain ⟨⟨q0, q1, q2⟩, qz⟩ := h7 i (by omega)
    have m1 := lo_mono h4 (Nat.zero_le i) (show i ≤ k by omega)
    simp only [if_neg e, if_pos (show i ≤ k by omega), if_pos (show i + 1 ≤ k by omega)]
    refine ⟨⟨?_, ?_, ?_⟩, qz.win ww (.inr (by omega))⟩
    · rw [Array.getElem?_setIfInBounds, if_neg (by omega), Array.getElem?_setIfInBounds, if_neg (by omega), Array.getElem?_setIfInBounds, if_neg (by omega)]; exact q0
    · rw [Array.getElem?_setIfInBounds, if_neg (by omega), Array.getElem?_setIfInBounds, if_neg (by omega), Array.getElem?_setIfInBounds, if_neg (by omega)]; exact q1
    · rw [Array.getElem?_setIfInBounds, if_neg (by omega), Array.getElem?_setIfInBounds, if_neg (by omega), Array.getElem?_setIfInBounds, if_neg (by omega)]; exact q2
end
/-- How many numbers the first i letters have, and one each. -/
def totV (S D : Nat → List Int) : Nat → Nat
  | 0 => 0
  | i + 1 => totV S D i + (1 + (S i).length + (D i).length)
theorem totV_mono (S D : Nat → List Int) {i j : Nat} (h : i ≤ j) : totV S D i ≤ totV S D j := by
  induction j with
  | zero => rw [show i = 0 by omega]; exact Nat.le_refl _
  | succ j ih =>
    by_cases e : i = j + 1
    · rw [e]; exact Nat.le_refl _
    · have := ih (by omega); rw [totV]; omega
theorem totV_le {S D : Nat → List Int} (hl : ∀ i, (S i).length ≤ 1048576 ∧ (D i).length ≤ 1048576) {i : Nat} (hi : i ≤ 1048576) : totV S D i ≤ 2199030000000 := by
  have : ∀ j, totV S D j ≤ j * 2097153 := fun j => by
    induction j with
    | zero => simp [totV]
    | succ j ih =>
      have := hl j
      rw [totV, Nat.succ_mul]
      omega
  have q := this i
  have r : i * 2097153 ≤ 1048576 * 2097153 := Nat.mul_le_mul hi (Nat.le_refl _)
  omega
end Go.Proofs.YtkhcphkdcjimiaaGreat
