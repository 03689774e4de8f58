
/-
  Lists of Expr of one's own: in a block, their lists behind it, each in blocks of its own; filled one by one, turned, marked and looked at.
-/
import Derived.Test.YtnebjnglcfebeaaDoorTreeU
import Derived.Test.YtnebjnglcfebeaaDoorMarkW
namespace Go.Proofs.YtnebjnglcfebeaaDoor
open Go.RowKit
set_option linter.unusedVariables false
set_option linter.unusedSimpArgs false
/-- The first k of n are filled, in block o; their lists lie behind it and below hi. -/
def OwnExprsI (o hi n k : Nat) (W : World) (E : Nat → Nat → Int) (N : Nat → List Int) : Prop :=
  ∃ (A : Array Value) (x : Nat → Value) (lo : Nat → Nat), W.heap[o]? = some (.cells A 67 (0, 0)) ∧ A.size = n * 7 ∧ lo 0 = o + 1 ∧ (∀ i, i < k → lo i ≤ lo (i + 1)) ∧ lo k ≤ hi ∧ hi ≤ W.heap.size ∧
    ∀ i, i < k → (A[i * 7]? = some (.int .i64 (E i 0)) ∧ A[i * 7 + 1]? = some (.int .i64 (E i 1)) ∧ A[i * 7 + 2]? = some (.int .i64 (E i 2)) ∧ A[i * 7 + 3]? = some (.int .i64 (E i 3)) ∧ A[i * 7 + 4]? = some (.int .i64 (E i 4)) ∧ A[i * 7 + 5]? = some (.int .i64 (E i 5)) ∧ A[i * 7 + 6]? = some (x i)) ∧ Piece (lo i) (lo (i + 1)) W (x i) (N i)
section
variable {W W' : World} {o hi n k : Nat} {E : Nat → Nat → Int} {N : Nat → List Int}
theorem OwnExprsI.lt (h : OwnExprsI o hi n k W E N) : o < W.heap.size := by obtain ⟨A, _, _, h1, _⟩ := h; exact lt_of_heapA h1
theorem OwnExprsI.lthi (h : OwnExprsI o hi n k W E N) : o < hi ∧ hi ≤ W.heap.size := by
  obtain ⟨A, x, lo, h1, h2, h3, h4, h5, h6, _⟩ := h
  have := lo_mono h4 (Nat.zero_le k) (Nat.le_refl k)
  omega
theorem OwnExprsI.win {B C : Nat} (h : OwnExprsI o hi n k W E N) (hw : Win B C W W') (hd : C ≤ o ∨ hi ≤ B) : OwnExprsI o hi n k W' E N := by
  have hl := h.lt
  have hl2 := h.lthi
  obtain ⟨A, x, lo, h1, h2, h3, h4, h5, h6, h7⟩ := h
  refine ⟨A, x, lo, by rw [hw.block o hl (by omega)]; exact h1, h2, h3, h4, h5, Nat.le_trans h6 hw.size, fun i hi => ?_⟩
  obtain ⟨q1, q2⟩ := h7 i hi
  have m1 := lo_mono h4 (Nat.zero_le i) (Nat.le_of_lt hi)
  have m2 := lo_mono h4 (show i + 1 ≤ k from hi) (Nat.le_refl k)
  exact ⟨q1, q2.win hw (by omega)⟩
theorem OwnExprsI.keep (h : OwnExprsI o hi n k W E N) (hb : Below W.heap.size W W') : OwnExprsI o hi n k W' E N := h.win (B := W.heap.size) (C := W.heap.size) (Below.win hb) (.inr h.lthi.2)
theorem OwnExprsI.mono {hi' : Nat} (h : OwnExprsI o hi n k W E N) (hh : hi ≤ hi') (hw : hi' ≤ W.heap.size) : OwnExprsI o hi' n k W E N := by
  obtain ⟨A, x, lo, h1, h2, h3, h4, h5, h6, h7⟩ := h
  exact ⟨A, x, lo, h1, h2, h3, h4, Nat.le_trans h5 hh, hw, h7⟩
theorem OwnExprsI.cells (h : OwnExprsI o hi n k W E N) {i : Nat} (hk : i < n) : ((∃ u, W.cell? ⟨o, i * 7, none⟩ = some u) ∧ (∃ u, W.cell? ⟨o, i * 7 + 1, none⟩ = some u) ∧ (∃ u, W.cell? ⟨o, i * 7 + 2, none⟩ = some u) ∧ (∃ u, W.cell? ⟨o, i * 7 + 3, none⟩ = some u) ∧ (∃ u, W.cell? ⟨o, i * 7 + 4, none⟩ = some u) ∧ (∃ u, W.cell? ⟨o, i * 7 + 5, none⟩ = some u) ∧ (∃ u, W.cell? ⟨o, i * 7 + 6, none⟩ = some u)) ∧ W.frozen? ⟨o, i * 7, none⟩ = false ∧ W.frozen? ⟨o, i * 7 + 1, none⟩ = false ∧ W.frozen? ⟨o, i * 7 + 2, none⟩ = false ∧ W.frozen? ⟨o, i * 7 + 3, none⟩ = false ∧ W.frozen? ⟨o, i * 7 + 4, none⟩ = false ∧ W.frozen? ⟨o, i * 7 + 5, none⟩ = false ∧ W.frozen? ⟨o, i * 7 + 6, none⟩ = false := by
  obtain ⟨A, x, lo, h1, h2, _⟩ := h
  have g : ∀ j, j < n * 7 → ∃ u, W.cell? ⟨o, j, none⟩ = some u := fun j hj => ⟨A[j]'(by omega), cell_at h1 (Array.getElem?_eq_getElem (by omega))⟩
  exact ⟨⟨g _ (by omega), g _ (by omega), g _ (by omega), g _ (by omega), g _ (by omega), g _ (by omega), g _ (by omega)⟩, free_at h1 _, free_at h1 _, free_at h1 _, free_at h1 _, free_at h1 _, free_at h1 _, free_at h1 _⟩
theorem OwnExprsI.list (h : OwnExprsI o hi n n W E N) : ExprsI W (.slice (some ⟨o, 0, none⟩) n n) n E N := by
  have hl := h.lt
  obtain ⟨A, x, lo, h1, h2, h3, h4, h5, h6, h7⟩ := h
  refine ⟨_, _, rfl, .inr ⟨o, 0, x, rfl, hl, fun i hi => ?_⟩⟩
  obtain ⟨⟨q0, q1, q2, q3, q4, q5, q6⟩, qz⟩ := h7 i hi
  rw [Nat.zero_add]
  exact ⟨⟨cell_at h1 q0, cell_at h1 q1, cell_at h1 q2, cell_at h1 q3, cell_at h1 q4, cell_at h1 q5, cell_at h1 q6⟩, qz.intsI⟩
/-- One more is put. -/
theorem OwnExprsI.put {W0 : World} (h : OwnExprsI o hi n k W0 E N) (hb : Below W0.heap.size W0 W) (hk : k < n) {e : Nat → Int} (he : e = E k) {x' : Value} (px : Piece W0.heap.size W.heap.size W x' (N k)) : OwnExprsI o W.heap.size n (k + 1) (((((((W.setCell ⟨o, k * 7, none⟩ (.int .i64 (e 0))).setCell ⟨o, k * 7 + 1, none⟩ (.int .i64 (e 1))).setCell ⟨o, k * 7 + 2, none⟩ (.int .i64 (e 2))).setCell ⟨o, k * 7 + 3, none⟩ (.int .i64 (e 3))).setCell ⟨o, k * 7 + 4, none⟩ (.int .i64 (e 4))).setCell ⟨o, k * 7 + 5, none⟩ (.int .i64 (e 5))).setCell ⟨o, k * 7 + 6, none⟩ x') E N := by
  have hw := h.keep hb
  have h0 := h.lthi
  obtain ⟨A, x, lo, h1, h2, h3, h4, h5, h6, h7⟩ := hw
  subst he
  have e0 := heap_setCell_same W o (k * 7) _ _ (.int .i64 (E k 0)) h1
  have e1 := heap_setCell_same _ o (k * 7 + 1) _ _ (.int .i64 (E k 1)) e0
  have e2 := heap_setCell_same _ o (k * 7 + 2) _ _ (.int .i64 (E k 2)) e1
  have e3 := heap_setCell_same _ o (k * 7 + 3) _ _ (.int .i64 (E k 3)) e2
  have e4 := heap_setCell_same _ o (k * 7 + 4) _ _ (.int .i64 (E k 4)) e3
  have e5 := heap_setCell_same _ o (k * 7 + 5) _ _ (.int .i64 (E k 5)) e4
  have e6 := heap_setCell_same _ o (k * 7 + 6) _ _ x' e5
  have ww : Win o (o + 1) W (((((((W.setCell ⟨o, k * 7, none⟩ (.int .i64 (E k 0))).setCell ⟨o, k * 7 + 1, none⟩ (.int .i64 (E k 1))).setCell ⟨o, k * 7 + 2, none⟩ (.int .i64 (E k 2))).setCell ⟨o, k * 7 + 3, none⟩ (.int .i64 (E k 3))).setCell ⟨o, k * 7 + 4, none⟩ (.int .i64 (E k 4))).setCell ⟨o, k * 7 + 5, none⟩ (.int .i64 (E k 5))).setCell ⟨o, k * 7 + 6, none⟩ x') := (((((((win_setCell _ _ _ _).trans (win_setCell _ _ _ _)).trans (win_setCell _ _ _ _)).trans (win_setCell _ _ _ _)).trans (win_setCell _ _ _ _)).trans (win_setCell _ _ _ _)).trans (win_setCell _ _ _ _))
  have m0 := lo_mono h4 (Nat.zero_le k) (Nat.le_refl k)
  have hz := hb.size
  refine ⟨_, fun i => if i = k then x' else x i, fun i => if i ≤ k then lo i else W.heap.size, e6, by simpa using h2, by simpa using h3, fun i hi => ?_, by show (if k + 1 ≤ k then lo (k + 1) else W.heap.size) ≤ _; rw [if_neg (Nat.not_succ_le_self k)]; exact Nat.le_refl _, by simp only [size_setCell]; exact Nat.le_refl _, fun i hi => ?_⟩
  · by_cases e : i = k
    · simp only [e, Nat.le_refl, if_true, if_neg (Nat.not_succ_le_self k)]; omega
    · simp only [if_pos (show i ≤ k by omega), if_pos (show i + 1 ≤ k by omega)]; exact h4 i (by omega)
  by_cases e : i = k
  · rw [e]
    simp only [if_true, Nat.le_refl, if_neg (Nat.not_succ_le_self k)]
    refine ⟨⟨?_, ?_, ?_, ?_, ?_, ?_, ?_⟩, (px.win ww (.inr (by omega))).mono (by omega) (Nat.le_refl _)⟩
    · rw [Array.getElem?_setIfInBounds, if_neg (by omega), Array.getElem?_setIfInBounds, if_neg (by omega), Array.getElem?_setIfInBounds, if_neg (by omega), Array.getElem?_setIfInBounds, if_neg (by omega), Array.getElem?_setIfInBounds, if_neg (by omega), Array.getElem?_setIfInBounds, if_neg (by omega), Array.getElem?_setIfInBounds, if_pos rfl, if_pos (by (try simp only [Array.size_setIfInBounds]); omega)]
    · rw [Array.getElem?_setIfInBounds, if_neg (by omega), Array.getElem?_setIfInBounds, if_neg (by omega), Array.getElem?_setIfInBounds, if_neg (by omega), Array.getElem?_setIfInBounds, if_neg (by omega), Array.getElem?_setIfInBounds, if_neg (by omega), Array.getElem?_setIfInBounds, if_pos rfl, if_pos (by (try simp only [Array.size_setIfInBounds]); omega)]
    · rw [Array.getElem?_setIfInBounds, if_neg (by omega), Array.getElem?_setIfInBounds, if_neg (by omega), Array.getElem?_setIfInBounds, if_neg (by omega), Array.getElem?_setIfInBounds, if_neg (by omega), Array.getElem?_setIfInBounds, if_pos rfl, if_pos (by (try simp only [Array.size_setIfInBounds]); omega)]
    · rw [Array.getElem?_setIfInBounds, if_neg (by omega), Array.getElem?_setIfInBounds, if_neg (by omega), Array.getElem?_setIfInBounds, if_neg (by omega), Array.getElem?_setIfInBounds, if_pos rfl, if_pos (by (try simp only [Array.size_setIfInBounds]); omega)]
    · rw [Array.getElem?_setIfInBounds, if_neg (by omega), Array.getElem?_setIfInBounds, if_neg (by omega), Array.getElem?_setIfInBounds, if_pos rfl, if_pos (by (try simp only [Array.size_setIfInBounds]); omega)]
    · rw [Array.getElem?_setIfInBounds, if_neg (by omega), Array.getElem?_setIfInBounds, if_pos rfl, if_pos (by (try simp only [Array.size_setIfInBounds]); omega)]
    · rw [Array.getElem?_setIfInBounds, if_pos rfl, if_pos (by (try simp only [Array.size_setIfInBounds]); omega)]
  · obtain ⟨⟨q0, q1, q2, q3, q4, q5, q6⟩, qz⟩ := h7 i (by omega)
    have m1 := lo_mono h4 (Nat.zero_le i) (show i ≤ k by omega)
    simp only [if_neg e, if_pos (show i ≤ k by omega), if_pos (show i + 1 ≤ k by omega)]
    refine ⟨⟨?_, ?_, ?_, ?_, ?_, ?_, ?_⟩, qz.win ww (.inr (by omega))⟩
    · rw [Array.getElem?_setIfInBounds, if_neg (by omega), Array.getElem?_setIfInBounds, if_neg (by omega), Array.getElem?_setIfInBounds, if_neg (by omega), Array.getElem?_setIfInBounds, if_neg (by omega), Array.getElem?_setIfInBounds, if_neg (by omega), Array.getElem?_setIfInBounds, if_neg (by omega), Array.getElem?_setIfInBounds, if_neg (by omega)]; exact q0
    · rw [Array.getElem?_setIfInBounds, if_neg (by omega), Array.getElem?_setIfInBounds, if_neg (by omega), Array.getElem?_setIfInBounds, if_neg (by omega), Array.getElem?_setIfInBounds, if_neg (by omega), Array.getElem?_setIfInBounds, if_neg (by omega), Array.getElem?_setIfInBounds, if_neg (by omega), Array.getElem?_setIfInBounds, if_neg (by omega)]; exact q1
    · rw [Array.getElem?_setIfInBounds, if_neg (by omega), Array.getElem?_setIfInBounds, if_neg (by omega), Array.getElem?_setIfInBounds, if_neg (by omega), Array.getElem?_setIfInBounds, if_neg (by omega), Array.getElem?_setIfInBounds, if_neg (by omega), Array.getElem?_setIfInBounds, if_neg (by omega), Array.getElem?_setIfInBounds, if_neg (by omega)]; exact q2
    · rw [Array.getElem?_setIfInBounds, if_neg (by omega), Array.getElem?_setIfInBounds, if_neg (by omega), Array.getElem?_setIfInBounds, if_neg (by omega), Array.getElem?_setIfInBounds, if_neg (by omega), Array.getElem?_setIfInBounds, if_neg (by omega), Array.getElem?_setIfInBounds, if_neg (by omega), Array.getElem?_setIfInBounds, if_neg (by omega)]; exact q3
    · rw [Array.getElem?_setIfInBounds, if_neg (by omega), Array.getElem?_setIfInBounds, if_neg (by omega), Array.getElem?_setIfInBounds, if_neg (by omega), Array.getElem?_setIfInBounds, if_neg (by omega), Array.getElem?_setIfInBounds, if_neg (by omega), Array.getElem?_setIfInBounds, if_neg (by omega), Array.getElem?_setIfInBounds, if_neg (by omega)]; exact q4
    · rw [Array.getElem?_setIfInBounds, if_neg (by omega), Array.getElem?_setIfInBounds, if_neg (by omega), Array.getElem?_setIfInBounds, if_neg (by omega), Array.getElem?_setIfInBounds, if_neg (by omega), Array.getElem?_setIfInBounds, if_neg (by omega), Array.getElem?_setIfInBounds, if_neg (by omega), Array.getElem?_setIfInBounds, if_neg (by omega)]; exact q5
    · rw [Array.getElem?_setIfInBounds, if_neg (by omega), Array.getElem?_setIfInBounds, if_neg (by omega), Array.getElem?_setIfInBounds, if_neg (by omega), Array.getElem?_setIfInBounds, if_neg (by omega), Array.getElem?_setIfInBounds, if_neg (by omega), Array.getElem?_setIfInBounds, if_neg (by omega), Array.getElem?_setIfInBounds, if_neg (by omega)]; exact q6
/-- The numbers of one are turned. -/
theorem OwnExprsI.turn (h : OwnExprsI o hi n n W E N) (hk : k < n) (e : Nat → Int) : OwnExprsI o hi n n ((((((W.setCell ⟨o, k * 7, none⟩ (.int .i64 (e 0))).setCell ⟨o, k * 7 + 1, none⟩ (.int .i64 (e 1))).setCell ⟨o, k * 7 + 2, none⟩ (.int .i64 (e 2))).setCell ⟨o, k * 7 + 3, none⟩ (.int .i64 (e 3))).setCell ⟨o, k * 7 + 4, none⟩ (.int .i64 (e 4))).setCell ⟨o, k * 7 + 5, none⟩ (.int .i64 (e 5))) (fun i => if i = k then e else E i) N := by
  have h0 := h.lthi
  obtain ⟨A, x, lo, h1, h2, h3, h4, h5, h6, h7⟩ := h
  have e0 := heap_setCell_same W o (k * 7) _ _ (.int .i64 (e 0)) h1
  have e1 := heap_setCell_same _ o (k * 7 + 1) _ _ (.int .i64 (e 1)) e0
  have e2 := heap_setCell_same _ o (k * 7 + 2) _ _ (.int .i64 (e 2)) e1
  have e3 := heap_setCell_same _ o (k * 7 + 3) _ _ (.int .i64 (e 3)) e2
  have e4 := heap_setCell_same _ o (k * 7 + 4) _ _ (.int .i64 (e 4)) e3
  have e5 := heap_setCell_same _ o (k * 7 + 5) _ _ (.int .i64 (e 5)) e4
  have ww : Win o (o + 1) W ((((((W.setCell ⟨o, k * 7, none⟩ (.int .i64 (e 0))).setCell ⟨o, k * 7 + 1, none⟩ (.int .i64 (e 1))).setCell ⟨o, k * 7 + 2, none⟩ (.int .i64 (e 2))).setCell ⟨o, k * 7 + 3, none⟩ (.int .i64 (e 3))).setCell ⟨o, k * 7 + 4, none⟩ (.int .i64 (e 4))).setCell ⟨o, k * 7 + 5, none⟩ (.int .i64 (e 5))) := ((((((win_setCell _ _ _ _).trans (win_setCell _ _ _ _)).trans (win_setCell _ _ _ _)).trans (win_setCell _ _ _ _)).trans (win_setCell _ _ _ _)).trans (win_setCell _ _ _ _))
  refine ⟨_, x, lo, e5, by simpa using h2, h3, h4, h5, by simp only [size_setCell]; exact h6, fun i hi => ?_⟩
  obtain ⟨⟨q0, q1, q2, q3, q4, q5, q6⟩, qz⟩ := h7 i hi
  have m1 := lo_mono h4 (Nat.zero_le i) (Nat.le_of_lt hi)
  have qz' := qz.win ww (.inr (by omega))
  by_cases e : i = k
  · subst e
    simp only [if_true]
    refine ⟨⟨?_, ?_, ?_, ?_, ?_, ?_, ?_⟩, qz'⟩
    · rw [Array.getElem?_setIfInBounds, if_neg (by omega), Array.getElem?_setIfInBounds, if_neg (by omega), Array.getElem?_setIfInBounds, if_neg (by omega), Array.getElem?_setIfInBounds, if_neg (by omega), Array.getElem?_setIfInBounds, if_neg (by omega), Array.getElem?_setIfInBounds, if_pos rfl, if_pos (by (try simp only [Array.size_setIfInBounds]); omega)]
    · rw [Array.getElem?_setIfInBounds, if_neg (by omega), Array.getElem?_setIfInBounds, if_neg (by omega), Array.getElem?_setIfInBounds, if_neg (by omega), Array.getElem?_setIfInBounds, if_neg (by omega), Array.getElem?_setIfInBounds, if_pos rfl, if_pos (by (try simp only [Array.size_setIfInBounds]); omega)]
    · rw [Array.getElem?_setIfInBounds, if_neg (by omega), Array.getElem?_setIfInBounds, if_neg (by omega), Array.getElem?_setIfInBounds, if_neg (by omega), Array.getElem?_setIfInBounds, if_pos rfl, if_pos (by (try simp only [Array.size_setIfInBounds]); omega)]
    · rw [Array.getElem?_setIfInBounds, if_neg (by omega), Array.getElem?_setIfInBounds, if_neg (by omega), Array.getElem?_setIfInBounds, if_pos rfl, if_pos (by (try simp only [Array.size_setIfInBounds]); omega)]
    · rw [Array.getElem?_setIfInBounds, if_neg (by omega), Array.getElem?_setIfInBounds, if_pos rfl, if_pos (by (try simp only [Array.size_setIfInBounds]); omega)]
    · rw [Array.getElem?_setIfInBounds, if_pos rfl, if_pos (by (try simp only [Array.size_setIfInBounds]); omega)]
    · rw [Array.getElem?_setIfInBounds, if_neg (by omega), Array.getElem?_setIfInBounds, if_neg (by omega), Array.getElem?_setIfInBounds, if_neg (by omega), Array.getElem?_setIfInBounds, if_neg (by omega), Array.getElem?_setIfInBounds, if_neg (by omega), Array.getElem?_setIfInBounds, if_neg (by omega)]; exact q6
  · simp only [if_neg e]
    refine ⟨⟨?_, ?_, ?_, ?_, ?_, ?_, ?_⟩, qz'⟩
    · rw [Array.getElem?_setIfInBounds, if_neg (by omega), Array.getElem?_setIfInBounds, if_neg (by omega), Array.getElem?_setIfInBounds, if_neg (by omega), Array.getElem?_setIfInBounds, if_neg (by omega), Array.getElem?_setIfInBounds, if_neg (by omega), Array.getElem?_setIfInBounds, if_neg (by omega)]; exact q0
    · rw [Array.getElem?_setIfInBounds, if_neg (by omega), Array.getElem?_setIfInBounds, if_neg (by omega), Array.getElem?_setIfInBounds, if_neg (by omega), Array.getElem?_setIfInBounds, if_neg (by omega), Array.getElem?_setIfInBounds, if_neg (by omega), Array.getElem?_setIfInBounds, if_neg (by omega)]; exact q1
    · rw [Array.getElem?_setIfInBounds, if_neg (by omega), Array.getElem?_setIfInBounds, if_neg (by omega), Array.getElem?_setIfInBounds, if_neg (by omega), Array.getElem?_setIfInBounds, if_neg (by omega), Array.getElem?_setIfInBounds, if_neg (by omega), Array.getElem?_setIfInBounds, if_neg (by omega)]; exact q2
    · rw [Array.getElem?_setIfInBounds, if_neg (by omega), Array.getElem?_setIfInBounds, if_neg (by omega), Array.getElem?_setIfInBounds, if_neg (by omega), Array.getElem?_setIfInBounds, if_neg (by omega), Array.getElem?_setIfInBounds, if_neg (by omega), Array.getElem?_setIfInBounds, if_neg (by omega)]; exact q3
    · rw [Array.getElem?_setIfInBounds, if_neg (by omega), Array.getElem?_setIfInBounds, if_neg (by omega), Array.getElem?_setIfInBounds, if_neg (by omega), Array.getElem?_setIfInBounds, if_neg (by omega), Array.getElem?_setIfInBounds, if_neg (by omega), Array.getElem?_setIfInBounds, if_neg (by omega)]; exact q4
    · rw [Array.getElem?_setIfInBounds, if_neg (by omega), Array.getElem?_setIfInBounds, if_neg (by omega), Array.getElem?_setIfInBounds, if_neg (by omega), Array.getElem?_setIfInBounds, if_neg (by omega), Array.getElem?_setIfInBounds, if_neg (by omega), Array.getElem?_setIfInBounds, if_neg (by omega)]; exact q5
    · rw [Array.getElem?_setIfInBounds, if_neg (by omega), Array.getElem?_setIfInBounds, if_neg (by omega), Array.getElem?_setIfInBounds, if_neg (by omega), Array.getElem?_setIfInBounds, if_neg (by omega), Array.getElem?_setIfInBounds, if_neg (by omega), Array.getElem?_setIfInBounds, if_neg (by omega)]; exact q6
/-- Its list alone is turned. -/
theorem OwnExprsI.piece (h : OwnExprsI o hi n n W E N) (hk : k < n) : ∃ xa xc B C, W.cell? ⟨o, k * 7 + 6, none⟩ = some (.slice xa (N k).length xc) ∧ o + 1 ≤ B ∧ C ≤ hi ∧ Piece B C W (.slice xa (N k).length xc) (N k) ∧
    ∀ (W' : World) (m : List Int), Piece B C W' (.slice xa (N k).length xc) m → Win B C W W' → OwnExprsI o hi n n W' E (fun i => if i = k then m else N i) := by
  have hl := h.lt
  obtain ⟨A, x, lo, h1, h2, h3, h4, h5, h6, h7⟩ := h
  obtain ⟨⟨q0, q1, q2, q3, q4, q5, q6⟩, qz⟩ := h7 k hk
  have m1 := lo_mono h4 (Nat.zero_le k) (Nat.le_of_lt hk)
  have m2 := lo_mono h4 (show k + 1 ≤ n from hk) (Nat.le_refl n)
  obtain ⟨xa, xc, ex, _⟩ := qz.ints
  refine ⟨xa, xc, lo k, lo (k + 1), by rw [← ex]; exact cell_at h1 q6, by omega, by omega, by rw [← ex]; exact qz, fun W' m hm hw => ?_⟩
  rw [← ex] at hm
  refine ⟨A, x, lo, by rw [hw.block o hl (by omega)]; exact h1, h2, h3, h4, h5, Nat.le_trans h6 hw.size, fun i hi => ?_⟩
  by_cases e : i = k
  · subst e
    simp only [if_true]
    exact ⟨⟨q0, q1, q2, q3, q4, q5, q6⟩, hm⟩
  · obtain ⟨r1, r2⟩ := h7 i hi
    simp only [if_neg e]
    refine ⟨r1, r2.win hw ?_⟩
    by_cases e2 : i < k
    · have := lo_mono h4 (show i + 1 ≤ k from e2) (Nat.le_of_lt hk); omega
    · have := lo_mono h4 (show k + 1 ≤ i by omega) (Nat.le_of_lt hi); omega
end
end Go.Proofs.YtnebjnglcfebeaaDoor
