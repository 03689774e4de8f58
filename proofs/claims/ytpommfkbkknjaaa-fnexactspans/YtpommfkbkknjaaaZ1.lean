/-
  Several walks, one behind the other: CodeO, CodeK.
-/
import Derived.Test.YtpommfkbkknjaaaCodeU
import Derived.Test.YtpommfkbkknjaaaMarkW
namespace Go.Proofs.Ytpommfkbkknjaaa
open Go.RowKit
set_option linter.unusedVariables false
set_option linter.unusedSimpArgs false
/-- The first k of n are filled, in block o; their lists lie behind it and below hi. -/
def OwnInsI (o hi n k : Nat) (W : World) (E : Nat → Nat → Int) (N : Nat → List Int) : Prop :=
  ∃ (A : Array Value) (x : Nat → Value) (lo : Nat → Nat), W.heap[o]? = some (.cells A 44 (0, 0)) ∧ A.size = n * 6 ∧ lo 0 = o + 1 ∧ (∀ i, i < k → lo i ≤ lo (i + 1)) ∧ lo k ≤ hi ∧ hi ≤ W.heap.size ∧
    ∀ i, i < k → (A[i * 6]? = some (.int .i64 (E i 0)) ∧ A[i * 6 + 1]? = some (.int .i64 (E i 1)) ∧ A[i * 6 + 2]? = some (.int .i64 (E i 2)) ∧ A[i * 6 + 3]? = some (.int .i64 (E i 3)) ∧ A[i * 6 + 4]? = some (.int .i64 (E i 4)) ∧ A[i * 6 + 5]? = some (x i)) ∧ Piece (lo i) (lo (i + 1)) W (x i) (N i)
section
variable {W W' : World} {o hi n k : Nat} {E : Nat → Nat → Int} {N : Nat → List Int}
theorem OwnInsI.lt (h : OwnInsI o hi n k W E N) : o < W.heap.size := by obtain ⟨A, _, _, h1, _⟩ := h; exact lt_of_heapA h1
theorem OwnInsI.lthi (h : OwnInsI o hi n k W E N) : o < hi ∧ hi ≤ W.heap.size := by
  obtain ⟨A, x, lo, h1, h2, h3, h4, h5, h6, _⟩ := h
  have := lo_mono h4 (Nat.zero_le k) (Nat.le_refl k)
  omega
theorem OwnInsI.win {B C : Nat} (h : OwnInsI o hi n k W E N) (hw : Win B C W W') (hd : C ≤ o ∨ hi ≤ B) : OwnInsI o hi n k W' E N := by
  have hl := h.lt
  have hl2 := h.lthi
  obtain ⟨A, x, lo, h1, h2, h3, h4, h5, h6, h7⟩ := h
  refine ⟨A, x, lo, by rw [hw.block o hl (by omega)]; exact h1, h2, h3, h4, h5, Nat.le_trans h6 hw.size, fun i hi => ?_⟩
  obtain ⟨q1, q2⟩ := h7 i hi
  have m1 := lo_mono h4 (Nat.zero_le i) (Nat.le_of_lt hi)
  have m2 := lo_mono h4 (show i + 1 ≤ k from hi) (Nat.le_refl k)
  exact ⟨q1, q2.win hw (by omega)⟩
theorem OwnInsI.keep (h : OwnInsI o hi n k W E N) (hb : Below W.heap.size W W') : OwnInsI o hi n k W' E N := h.win (B := W.heap.size) (C := W.heap.size) (Below.win hb) (.inr h.lthi.2)
theorem OwnInsI.mono {hi' : Nat} (h : OwnInsI o hi n k W E N) (hh : hi ≤ hi') (hw : hi' ≤ W.heap.size) : OwnInsI o hi' n k W E N := by
  obtain ⟨A, x, lo, h1, h2, h3, h4, h5, h6, h7⟩ := h
  exact ⟨A, x, lo, h1, h2, h3, h4, Nat.le_trans h5 hh, hw, h7⟩
theorem OwnInsI.cells (h : OwnInsI o hi n k W E N) {i : Nat} (hk : i < n) : ((∃ u, W.cell? ⟨o, i * 6, none⟩ = some u) ∧ (∃ u, W.cell? ⟨o, i * 6 + 1, none⟩ = some u) ∧ (∃ u, W.cell? ⟨o, i * 6 + 2, none⟩ = some u) ∧ (∃ u, W.cell? ⟨o, i * 6 + 3, none⟩ = some u) ∧ (∃ u, W.cell? ⟨o, i * 6 + 4, none⟩ = some u) ∧ (∃ u, W.cell? ⟨o, i * 6 + 5, none⟩ = some u)) ∧ W.frozen? ⟨o, i * 6, none⟩ = false ∧ W.frozen? ⟨o, i * 6 + 1, none⟩ = false ∧ W.frozen? ⟨o, i * 6 + 2, none⟩ = false ∧ W.frozen? ⟨o, i * 6 + 3, none⟩ = false ∧ W.frozen? ⟨o, i * 6 + 4, none⟩ = false ∧ W.frozen? ⟨o, i * 6 + 5, none⟩ = false := by
  obtain ⟨A, x, lo, h1, h2, _⟩ := h
  have g : ∀ j, j < n * 6 → ∃ u, W.cell? ⟨o, j, none⟩ = some u := fun j hj => ⟨A[j]'(by omega), cell_at h1 (Array.getElem?_eq_getElem (by omega))⟩
  exact ⟨⟨g _ (by omega), g _ (by omega), g _ (by omega), g _ (by omega), g _ (by omega), g _ (by omega)⟩, free_at h1 _, free_at h1 _, free_at h1 _, free_at h1 _, free_at h1 _, free_at h1 _⟩
theorem OwnInsI.list (h : OwnInsI o hi n n W E N) : InsI W (.slice (some ⟨o, 0, none⟩) n n) n E N := by
  have hl := h.lt
  obtain ⟨A, x, lo, h1, h2, h3, h4, h5, h6, h7⟩ := h
  refine ⟨_, _, rfl, .inr ⟨o, 0, x, rfl, hl, fun i hi => ?_⟩⟩
  obtain ⟨⟨q0, q1, q2, q3, q4, q5⟩, qz⟩ := h7 i hi
  rw [Nat.zero_add]
  exact ⟨⟨cell_at h1 q0, cell_at h1 q1, cell_at h1 q2, cell_at h1 q3, cell_at h1 q4, cell_at h1 q5⟩, qz.intsI⟩
/-- One more is put. -/
theorem OwnInsI.put {W0 : World} (h : OwnInsI o hi n k W0 E N) (hb : Below W0.heap.size W0 W) (hk : k < n) {e : Nat → Int} (he : e = E k) {x' : Value} (px : Piece W0.heap.size W.heap.size W x' (N k)) : OwnInsI o W.heap.size n (k + 1) ((((((W.setCell ⟨o, k * 6, none⟩ (.int .i64 (e 0))).setCell ⟨o, k * 6 + 1, none⟩ (.int .i64 (e 1))).setCell ⟨o, k * 6 + 2, none⟩ (.int .i64 (e 2))).setCell ⟨o, k * 6 + 3, none⟩ (.int .i64 (e 3))).setCell ⟨o, k * 6 + 4, none⟩ (.int .i64 (e 4))).setCell ⟨o, k * 6 + 5, none⟩ x') E N := by
  have hw := h.keep hb
  have h0 := h.lthi
  obtain ⟨A, x, lo, h1, h2, h3, h4, h5, h6, h7⟩ := hw
  subst he
  have e0 := heap_setCell_same W o (k * 6) _ _ (.int .i64 (E k 0)) h1
  have e1 := heap_setCell_same _ o (k * 6 + 1) _ _ (.int .i64 (E k 1)) e0
  have e2 := heap_setCell_same _ o (k * 6 + 2) _ _ (.int .i64 (E k 2)) e1
  have e3 := heap_setCell_same _ o (k * 6 + 3) _ _ (.int .i64 (E k 3)) e2
  have e4 := heap_setCell_same _ o (k * 6 + 4) _ _ (.int .i64 (E k 4)) e3
  have e5 := heap_setCell_same _ o (k * 6 + 5) _ _ x' e4
  have ww : Win o (o + 1) W ((((((W.setCell ⟨o, k * 6, none⟩ (.int .i64 (E k 0))).setCell ⟨o, k * 6 + 1, none⟩ (.int .i64 (E k 1))).setCell ⟨o, k * 6 + 2, none⟩ (.int .i64 (E k 2))).setCell ⟨o, k * 6 + 3, none⟩ (.int .i64 (E k 3))).setCell ⟨o, k * 6 + 4, none⟩ (.int .i64 (E k 4))).setCell ⟨o, k * 6 + 5, none⟩ x') := ((((((win_setCell _ _ _ _).trans (win_setCell _ _ _ _)).trans (win_setCell _ _ _ _)).trans (win_setCell _ _ _ _)).trans (win_setCell _ _ _ _)).trans (win_setCell _ _ _ _))
  have m0 := lo_mono h4 (Nat.zero_le k) (Nat.le_refl k)
  have hz := hb.size
  refine ⟨_, fun i => if i = k then x' else x i, fun i => if i ≤ k then lo i else W.heap.size, e5, by simpa using h2, by simpa using h3, fun i hi => ?_, by show (if k + 1 ≤ k then lo (k + 1) else W.heap.size) ≤ _; rw [if_neg (Nat.not_succ_le_self k)]; exact Nat.le_refl _, by simp only [size_setCell]; exact Nat.le_refl _, fun i hi => ?_⟩
  · by_cases e : i = k
    · simp only [e, Nat.le_refl, if_true, if_neg (Nat.not_succ_le_self k)]; omega
    · simp only [if_pos (show i ≤ k by omega), if_pos (show i + 1 ≤ k by omega)]; exact h4 i (by omega)
  by_cases e : i = k
  · rw [e]
    simp only [if_true, Nat.le_refl, if_neg (Nat.not_succ_le_self k)]
    refine ⟨⟨?_, ?_, ?_, ?_, ?_, ?_⟩, (px.win ww (.inr (by omega))).mono (by omega) (Nat.le_refl _)⟩
    · rw [Array.getElem?_setIfInBounds, if_neg (by omega), Array.getElem?_setIfInBounds, if_neg (by omega), Array.getElem?_setIfInBounds, if_neg (by omega), Array.getElem?_setIfInBounds, if_neg (by omega), Array.getElem?_setIfInBounds, if_neg (by omega), Array.getElem?_setIfInBounds, if_pos rfl, if_pos (by (try simp only [Array.size_setIfInBounds]); omega)]
    · rw [Array.getElem?_setIfInBounds, if_neg (by omega), Array.getElem?_setIfInBounds, if_neg (by omega), Array.getElem?_setIfInBounds, if_neg (by omega), Array.getElem?_setIfInBounds, if_neg (by omega), Array.getElem?_setIfInBounds, if_pos rfl, if_pos (by (try simp only [Array.size_setIfInBounds]); omega)]
    · rw [Array.getElem?_setIfInBounds, if_neg (by omega), Array.getElem?_setIfInBounds, if_neg (by omega), Array.getElem?_setIfInBounds, if_neg (by omega), Array.getElem?_setIfInBounds, if_pos rfl, if_pos (by (try simp only [Array.size_setIfInBounds]); omega)]
    · rw [Array.getElem?_setIfInBounds, if_neg (by omega), Array.getElem?_setIfInBounds, if_neg (by omega), Array.getElem?_setIfInBounds, if_pos rfl, if_pos (by (try simp only [Array.size_setIfInBounds]); omega)]
    · rw [Array.getElem?_setIfInBounds, if_neg (by omega), Array.getElem?_setIfInBounds, if_pos rfl, if_pos (by (try simp only [Array.size_setIfInBounds]); omega)]
    · rw [Array.getElem?_setIfInBounds, if_pos rfl, if_pos (by (try simp only [Array.size_setIfInBounds]); omega)]
  · obtain ⟨⟨q0, q1, q2, q3, q4, q5⟩, qz⟩ := h7 i (by omega)
    have m1 := lo_mono h4 (Nat.zero_le i) (show i ≤ k by omega)
    simp only [if_neg e, if_pos (show i ≤ k by omega), if_pos (show i + 1 ≤ k by omega)]
    refine ⟨⟨?_, ?_, ?_, ?_, ?_, ?_⟩, qz.win ww (.inr (by omega))⟩
    · rw [Array.getElem?_setIfInBounds, if_neg (by omega), Array.getElem?_setIfInBounds, if_neg (by omega), Array.getElem?_setIfInBounds, if_neg (by omega), Array.getElem?_setIfInBounds, if_neg (by omega), Array.getElem?_setIfInBounds, if_neg (by omega), Array.getElem?_setIfInBounds, if_neg (by omega)]; exact q0
    · rw [Array.getElem?_setIfInBounds, if_neg (by omega), Array.getElem?_setIfInBounds, if_neg (by omega), Array.getElem?_setIfInBounds, if_neg (by omega), Array.getElem?_setIfInBounds, if_neg (by omega), Array.getElem?_setIfInBounds, if_neg (by omega), Array.getElem?_setIfInBounds, if_neg (by omega)]; exact q1
    · rw [Array.getElem?_setIfInBounds, if_neg (by omega), Array.getElem?_setIfInBounds, if_neg (by omega), Array.getElem?_setIfInBounds, if_neg (by omega), Array.getElem?_setIfInBounds, if_neg (by omega), Array.getElem?_setIfInBounds, if_neg (by omega), Array.getElem?_setIfInBounds, if_neg (by omega)]; exact q2
    · rw [Array.getElem?_setIfInBounds, if_neg (by omega), Array.getElem?_setIfInBounds, if_neg (by omega), Array.getElem?_setIfInBounds, if_neg (by omega), Array.getElem?_setIfInBounds, if_neg (by omega), Array.getElem?_setIfInBounds, if_neg (by omega), Array.getElem?_setIfInBounds, if_neg (by omega)]; exact q3
    · rw [Array.getElem?_setIfInBounds, if_neg (by omega), Array.getElem?_setIfInBounds, if_neg (by omega), Array.getElem?_setIfInBounds, if_neg (by omega), Array.getElem?_setIfInBounds, if_neg (by omega), Array.getElem?_setIfInBounds, if_neg (by omega), Array.getElem?_setIfInBounds, if_neg (by omega)]; exact q4
    · rw [Array.getElem?_setIfInBounds, if_neg (by omega), Array.getElem?_setIfInBounds, if_neg (by omega), Array.getElem?_setIfInBounds, if_neg (by omega), Array.getElem?_setIfInBounds, if_neg (by omega), Array.getElem?_setIfInBounds, if_neg (by omega), Array.getElem?_setIfInBounds, if_neg (by omega)]; exact q5
/-- The numbers of one are turned. -/
theorem OwnInsI.turn (h : OwnInsI o hi n n W E N) (hk : k < n) (e : Nat → Int) : OwnInsI o hi n n (((((W.setCell ⟨o, k * 6, none⟩ (.int .i64 (e 0))).setCell ⟨o, k * 6 + 1, none⟩ (.int .i64 (e 1))).setCell ⟨o, k * 6 + 2, none⟩ (.int .i64 (e 2))).setCell ⟨o, k * 6 + 3, none⟩ (.int .i64 (e 3))).setCell ⟨o, k * 6 + 4, none⟩ (.int .i64 (e 4))) (fun i => if i = k then e else E i) N := by
  have h0 := h.lthi
  obtain ⟨A, x, lo, h1, h2, h3, h4, h5, h6, h7⟩ := h
  have e0 := heap_setCell_same W o (k * 6) _ _ (.int .i64 (e 0)) h1
  have e1 := heap_setCell_same _ o (k * 6 + 1) _ _ (.int .i64 (e 1)) e0
  have e2 := heap_setCell_same _ o (k * 6 + 2) _ _ (.int .i64 (e 2)) e1
  have e3 := heap_setCell_same _ o (k * 6 + 3) _ _ (.int .i64 (e 3)) e2
  have e4 := heap_setCell_same _ o (k * 6 + 4) _ _ (.int .i64 (e 4)) e3
  have ww : Win o (o + 1) W (((((W.setCell ⟨o, k * 6, none⟩ (.int .i64 (e 0))).setCell ⟨o, k * 6 + 1, none⟩ (.int .i64 (e 1))).setCell ⟨o, k * 6 + 2, none⟩ (.int .i64 (e 2))).setCell ⟨o, k * 6 + 3, none⟩ (.int .i64 (e 3))).setCell ⟨o, k * 6 + 4, none⟩ (.int .i64 (e 4))) := (((((win_setCell _ _ _ _).trans (win_setCell _ _ _ _)).trans (win_setCell _ _ _ _)).trans (win_setCell _ _ _ _)).trans (win_setCell _ _ _ _))
  refine ⟨_, x, lo, e4, by simpa using h2, h3, h4, h5, by simp only [size_setCell]; exact h6, fun i hi => ?_⟩
  obtain ⟨⟨q0, q1, q2, q3, q4, q5⟩, qz⟩ := h7 i hi
  have m1 := lo_mono h4 (Nat.zero_le i) (Nat.le_of_lt hi)
  have qz' := qz.win ww (.inr (by omega))
  by_cases e : i = k
  · subst e
    simp only [if_true]
    refine ⟨⟨?_, ?_, ?_, ?_, ?_, ?_⟩, qz'⟩
    · rw [Array.getElem?_setIfInBounds, if_neg (by omega), Array.getElem?_setIfInBounds, if_neg (by omega), Array.getElem?_setIfInBounds, if_neg (by omega), Array.getElem?_setIfInBounds, if_neg (by omega), Array.getElem?_setIfInBounds, if_pos rfl, if_pos (by (try simp only [Array.size_setIfInBounds]); omega)]
    · rw [Array.getElem?_setIfInBounds, if_neg (by omega), Array.getElem?_setIfInBounds, if_neg (by omega), Array.getElem?_setIfInBounds, if_neg (by omega), Array.getElem?_setIfInBounds, if_pos rfl, if_pos (by (try simp only [Array.size_setIfInBounds]); omega)]
    · rw [Array.getElem?_setIfInBounds, if_neg (by omega), Array.getElem?_setIfInBounds, if_neg (by omega), Array.getElem?_setIfInBounds, if_pos rfl, if_pos (by (try simp only [Array.size_setIfInBounds]); omega)]
    · rw [Array.getElem?_setIfInBounds, if_neg (by omega), Array.getElem?_setIfInBounds, if_pos rfl, if_pos (by (try simp only [Array.size_setIfInBounds]); omega)]
    · rw [Array.getElem?_setIfInBounds, if_pos rfl, if_pos (by (try simp only [Array.size_setIfInBounds]); omega)]
    · rw [Array.getElem?_setIfInBounds, if_neg (by omega), Array.getElem?_setIfInBounds, if_neg (by omega), Array.getElem?_setIfInBounds, if_neg (by omega), Array.getElem?_setIfInBounds, if_neg (by omega), Array.getElem?_setIfInBounds, if_neg (by omega)]; exact q5
  · simp only [if_neg e]
    refine ⟨⟨?_, ?_, ?_, ?_, ?_, ?_⟩, qz'⟩
    · rw [Array.getElem?_setIfInBounds, if_neg (by omega), Array.getElem?_setIfInBounds, if_neg (by omega), Array.getElem?_setIfInBounds, if_neg (by omega), Array.getElem?_setIfInBounds, if_neg (by omega), Array.getElem?_setIfInBounds, if_neg (by omega)]; exact q0
    · rw [Array.getElem?_setIfInBounds, if_neg (by omega), Array.getElem?_setIfInBounds, if_neg (by omega), Array.getElem?_setIfInBounds, if_neg (by omega), Array.getElem?_setIfInBounds, if_neg (by omega), Array.getElem?_setIfInBounds, if_neg (by omega)]; exact q1
    · rw [Array.getElem?_setIfInBounds, if_neg (by omega), Array.getElem?_setIfInBounds, if_neg (by omega), Array.getElem?_setIfInBounds, if_neg (by omega), Array.getElem?_setIfInBounds, if_neg (by omega), Array.getElem?_setIfInBounds, if_neg (by omega)]; exact q2
    · rw [Array.getElem?_setIfInBounds, if_neg (by omega), Array.getElem?_setIfInBounds, if_neg (by omega), Array.getElem?_setIfInBounds, if_neg (by omega), Array.getElem?_setIfInBounds, if_neg (by omega), Array.getElem?_setIfInBounds, if_neg (by omega)]; exact q3
    · rw [Array.getElem?_setIfInBounds, if_neg (by omega), Array.getElem?_setIfInBounds, if_neg (by omega), Array.getElem?_setIfInBounds, if_neg (by omega), Array.getElem?_setIfInBounds, if_neg (by omega), Array.getElem?_setIfInBounds, if_neg (by omega)]; exact q4
    · rw [Array.getElem?_setIfInBounds, if_neg (by omega), Array.getElem?_setIfInBounds, if_neg (by omega), Array.getElem?_setIfInBounds, if_neg (by omega), Array.getElem?_setIfInBounds, if_neg (by omega), Array.getElem?_setIfInBounds, if_neg (by omega)]; exact q5
/-- Its list alone is turned. -/
theorem OwnInsI.piece (h : OwnInsI o hi n n W E N) (hk : k < n) : ∃ xa xc B C, W.cell? ⟨o, k * 6 + 5, none⟩ = some (.slice xa (N k).length xc) ∧ o + 1 ≤ B ∧ C ≤ hi ∧ Piece B C W (.slice xa (N k).length xc) (N k) ∧
    ∀ (W' : World) (m : List Int), Piece B C W' (.slice xa (N k).length xc) m → Win B C W W' → OwnInsI o hi n n W' E (fun i => if i = k then m else N i) := by
  have hl := h.lt
  obtain ⟨A, x, lo, h1, h2, h3, h4, h5, h6, h7⟩ := h
  obtain ⟨⟨q0, q1, q2, q3, q4, q5⟩, qz⟩ := h7 k hk
  have m1 := lo_mono h4 (Nat.zero_le k) (Nat.le_of_lt hk)
  have m2 := lo_mono h4 (show k + 1 ≤ n from hk) (Nat.le_refl n)
  obtain ⟨xa, xc, ex, _⟩ := qz.ints
  refine ⟨xa, xc, lo k, lo (k + 1), by rw [← ex]; exact cell_at h1 q5, by omega, by omega, by rw [← ex]; exact qz, fun W' m hm hw => ?_⟩
  rw [← ex] at hm
  refine ⟨A, x, lo, by rw [hw.block o hl (by omega)]; exact h1, h2, h3, h4, h5, Nat.le_trans h6 hw.size, fun i hi => ?_⟩
  by_cases e : i = k
  · subst e
    simp only [if_true]
    exact ⟨⟨q0, q1, q2, q3, q4, q5⟩, hm⟩
  · obtain ⟨r1, r2⟩ := h7 i hi
    simp only [if_neg e]
    refine ⟨r1, r2.win hw ?_⟩
    by_cases e2 : i < k
    · have := lo_mono h4 (show i + 1 ≤ k from e2) (Nat.le_of_lt hk); omega
    · have := lo_mono h4 (show k + 1 ≤ i by omega) (Nat.le_of_lt hi); omega
end
set_option maxRecDepth 20000 in
set_option maxHeartbeats 8000000 in
/-- A list is copied: the copy is its own. -/
theorem toInstrS_own {w : World} {v : Value} {n : Nat} {E : Nat → Nat → Int} {N : Nat → List Int} (h : InsI w v n E N) (hl : ∀ i, (N i).length ≤ 1048576) (hn : n ≤ 1048576) :
    Calls Try.prog 6 #[v] w fun e w' => ∃ o, e = .returned (.slice (some ⟨o, 0, none⟩) n n) ∧ w.heap.size ≤ o ∧ OwnInsI o w'.heap.size n n w' E N ∧ Below w.heap.size w w' := by
  have H : Hid (InsI w v n E N) := h
  have HL : Hid (∀ i, (N i).length ≤ 1048576) := hl
  obtain ⟨a, c, rfl, _⟩ := h
  obtain ⟨w1, r1, t1⟩ := make_instrN n hn w E N
  have T1 : Hid (OwnInsI w.heap.size w1.heap.size n 0 w1 E N ∧ Below w.heap.size w w1) := by
    obtain ⟨A, x, h1, h2, _, h4⟩ := t1
    have := lt_of_heapA h1
    exact ⟨⟨A, x, fun _ => w.heap.size + 1, h1, h2, rfl, fun i hi => absurd hi (by omega), this, Nat.le_refl _, fun i hi => absurd hi (by omega)⟩, h4⟩
  clear t1 hl
  go_enter Try.func6, Try.ntmps6
  go_wp2
  clear r1
  go_loopw [4] (fun i w' => ∃ k : Nat, k ≤ n ∧ i = .int .i64 (k : Int) ∧ OwnInsI w.heap.size w'.heap.size n k w' E N ∧ Below w.heap.size w w') (fun i _ => n - (intOf i).toNat)
  case atStart => exact ⟨0, by omega, rfl, T1.out⟩
  case round =>
    obtain ⟨k, hk, rfl, hT, hB⟩ := hrel
    have TK : Hid (OwnInsI w.heap.size wr.heap.size n k wr E N) := hT
    have BK : Hid (Below w.heap.size w wr) := hB
    clear hT T1 hB
    by_cases hlt : (k : Int) < (n : Int)
    · have L : k < n := by omega
      obtain ⟨o, off, xa, xc, rfl, ho, ⟨p0, p1, p2, p3, p4, p5⟩, ar⟩ := (H.out.keep BK.out).at L
      have CT : Hid (Calls Try.prog 16 #[.agg #[.int .i64 (E k 0), .int .i64 (E k 1), .int .i64 (E k 2), .int .i64 (E k 3), .int .i64 (E k 4), .slice xa (N k).length xc]] wr fun e w' => ∃ xa' xc', e = .returned (.agg #[.int .i64 (E k 0), .int .i64 (E k 1), .int .i64 (E k 2), .int .i64 (E k 3), .int .i64 (E k 4), .slice xa' (N k).length xc']) ∧ Piece wr.heap.size w'.heap.size w' (.slice xa' (N k).length xc') (N k) ∧ Below wr.heap.size wr w') := toInstr_at (e := E k) ar (HL.out k)
      have PUT : Hid (∀ (W : World) (x' : Value), Below wr.heap.size wr W → Piece wr.heap.size W.heap.size W x' (N k) → OwnInsI w.heap.size W.heap.size n (k + 1) ((((((W.setCell ⟨w.heap.size, k * 6, none⟩ (.int .i64 (E k 0))).setCell ⟨w.heap.size, k * 6 + 1, none⟩ (.int .i64 (E k 1))).setCell ⟨w.heap.size, k * 6 + 2, none⟩ (.int .i64 (E k 2))).setCell ⟨w.heap.size, k * 6 + 3, none⟩ (.int .i64 (E k 3))).setCell ⟨w.heap.size, k * 6 + 4, none⟩ (.int .i64 (E k 4))).setCell ⟨w.heap.size, k * 6 + 5, none⟩ x') E N) := fun W x' hb hA => TK.out.put hb L (e := E k) rfl hA
      clear ar ho
      generalize (N k).length = sl at *
      generalize E k 0 = q0 at *
      generalize E k 1 = q1 at *
      generalize E k 2 = q2 at *
      generalize E k 3 = q3 at *
      generalize E k 4 = q4 at *
      go_wp2_with fail
      refine CT.out.mono ?_
      rintro r w2 ⟨xa2, xc2, rfl, hA, hb⟩
      have T3 : Hid (OwnInsI w.heap.size w2.heap.size n (k + 1) ((((((w2.setCell ⟨w.heap.size, k * 6, none⟩ (.int .i64 q0)).setCell ⟨w.heap.size, k * 6 + 1, none⟩ (.int .i64 q1)).setCell ⟨w.heap.size, k * 6 + 2, none⟩ (.int .i64 q2)).setCell ⟨w.heap.size, k * 6 + 3, none⟩ (.int .i64 q3)).setCell ⟨w.heap.size, k * 6 + 4, none⟩ (.int .i64 q4)).setCell ⟨w.heap.size, k * 6 + 5, none⟩ (.slice xa2 sl xc2)) E N) := PUT.out _ _ hb hA
      have B3 : Hid (Below w.heap.size w ((((((w2.setCell ⟨w.heap.size, k * 6, none⟩ (.int .i64 q0)).setCell ⟨w.heap.size, k * 6 + 1, none⟩ (.int .i64 q1)).setCell ⟨w.heap.size, k * 6 + 2, none⟩ (.int .i64 q2)).setCell ⟨w.heap.size, k * 6 + 3, none⟩ (.int .i64 q3)).setCell ⟨w.heap.size, k * 6 + 4, none⟩ (.int .i64 q4)).setCell ⟨w.heap.size, k * 6 + 5, none⟩ (.slice xa2 sl xc2))) := below_setCell (below_setCell (below_setCell (below_setCell (below_setCell (below_setCell (bTrans BK.out hb) (Nat.le_refl _) _ _) (Nat.le_refl _) _ _) (Nat.le_refl _) _ _) (Nat.le_refl _) _ _) (Nat.le_refl _) _ _) (Nat.le_refl _) _ _
      obtain ⟨⟨⟨u0, c0⟩, ⟨u1, c1⟩, ⟨u2, c2⟩, ⟨u3, c3⟩, ⟨u4, c4⟩, ⟨u5, c5⟩⟩, f0, f1, f2, f3, f4, f5⟩ := (TK.out.keep hb).cells L
      clear hA hb
      go_wp2
      go_roundw
      case rel => exact ⟨k + 1, by omega, by go_num, by simpa only [size_setCell] using T3.out, B3.out⟩
      case measure => simp [intOf]; omega
    · obtain rfl : k = n := by omega
      go_wp2
      go_ret
      exact ⟨_, rfl, Nat.le_refl _, TK.out, BK.out⟩
end Go.Proofs.Ytpommfkbkknjaaa
namespace Go.Proofs.Ytpommfkbkknjaaa
open Go.RowKit
set_option linter.unusedVariables false
set_option linter.unusedSimpArgs false
/-- Marked from k0 on. -/
def MkdInsI (k0 : Int) (N0 : Nat → List Int) (k : Nat) (E : Nat → Nat → Int) (N : Nat → List Int) : Prop :=
  ∀ i, i < k → (E i 0 = k0 + (totN 5 N0 i : Int) + 0 ∧ E i 1 = k0 + (totN 5 N0 i : Int) + 1 ∧ E i 2 = k0 + (totN 5 N0 i : Int) + 2 ∧ E i 3 = k0 + (totN 5 N0 i : Int) + 3 ∧ E i 4 = k0 + (totN 5 N0 i : Int) + 4) ∧ N i = upFrom (k0 + (totN 5 N0 i : Int) + 5) (N0 i).length
/-- One of them is marked. -/
theorem OwnInsI.mark1 {W : World} {o hi n k : Nat} {E : Nat → Nat → Int} {N : Nat → List Int} (h : OwnInsI o hi n n W E N) (hk : k < n) (e : Nat → Int) : ∃ xa xc, W.cell? ⟨o, k * 6 + 5, none⟩ = some (.slice xa (N k).length xc) ∧
    ∀ k1 : Int, (N k).length ≤ 1048576 → 0 ≤ k1 → k1 ≤ 4611686018427387904 → Calls Try.prog 22 #[.slice xa (N k).length xc, .int .i64 k1] (((((W.setCell ⟨o, k * 6, none⟩ (.int .i64 (e 0))).setCell ⟨o, k * 6 + 1, none⟩ (.int .i64 (e 1))).setCell ⟨o, k * 6 + 2, none⟩ (.int .i64 (e 2))).setCell ⟨o, k * 6 + 3, none⟩ (.int .i64 (e 3))).setCell ⟨o, k * 6 + 4, none⟩ (.int .i64 (e 4))) fun r w' => r = .returned (.int .i64 (k1 + (N k).length)) ∧ OwnInsI o hi n n w' (fun i => if i = k then e else E i) (fun i => if i = k then upFrom k1 (N k).length else N i) ∧ Win o hi W w' := by
  have hlt := h.lthi
  have ht := h.turn hk e
  obtain ⟨xa, xc, B, C, cx, hB, hC, hp, hall⟩ := ht.piece hk
  have cw : W.cell? ⟨o, k * 6 + 5, none⟩ = some (.slice xa (N k).length xc) := by
    obtain ⟨A, x, lo, h1, h2, h3, h4, h5, h6, h7⟩ := h
    have e0 := heap_setCell_same W o (k * 6) _ _ (.int .i64 (e 0)) h1
    have e1 := heap_setCell_same _ o (k * 6 + 1) _ _ (.int .i64 (e 1)) e0
    have e2 := heap_setCell_same _ o (k * 6 + 2) _ _ (.int .i64 (e 2)) e1
    have e3 := heap_setCell_same _ o (k * 6 + 3) _ _ (.int .i64 (e 3)) e2
    have e4 := heap_setCell_same _ o (k * 6 + 4) _ _ (.int .i64 (e 4)) e3
    obtain ⟨⟨q0, q1, q2, q3, q4, q5⟩, qz⟩ := h7 k hk
    have c1 : (((((W.setCell ⟨o, k * 6, none⟩ (.int .i64 (e 0))).setCell ⟨o, k * 6 + 1, none⟩ (.int .i64 (e 1))).setCell ⟨o, k * 6 + 2, none⟩ (.int .i64 (e 2))).setCell ⟨o, k * 6 + 3, none⟩ (.int .i64 (e 3))).setCell ⟨o, k * 6 + 4, none⟩ (.int .i64 (e 4))).cell? ⟨o, k * 6 + 5, none⟩ = some (x k) := cell_at e4 (by rw [Array.getElem?_setIfInBounds, if_neg (by omega), Array.getElem?_setIfInBounds, if_neg (by omega), Array.getElem?_setIfInBounds, if_neg (by omega), Array.getElem?_setIfInBounds, if_neg (by omega), Array.getElem?_setIfInBounds, if_neg (by omega)]; exact q5)
    rw [← cx, c1]
    exact cell_at h1 q5
  refine ⟨xa, xc, cw, fun k1 hl p1 p2 => (mark_pieceW hp hl k1 p1 p2).mono ?_⟩
  rintro r w' ⟨rfl, hq, ho⟩
  have hw := ho.win hp
  refine ⟨rfl, hall w' _ hq hw, Win.trans ?_ ⟨hw.os, hw.tape, hw.output, hw.size, fun j hj hd => hw.block j hj (by omega)⟩⟩
  exact (((((Win.refl _ _ _).setCell (Nat.le_refl _) hlt.1 _ _).setCell (Nat.le_refl _) hlt.1 _ _).setCell (Nat.le_refl _) hlt.1 _ _).setCell (Nat.le_refl _) hlt.1 _ _).setCell (Nat.le_refl _) hlt.1 _ _
set_option maxRecDepth 20000 in
set_option maxHeartbeats 8000000 in
/-- A list is marked: its own cells turn, no other one. -/
theorem markInstrS_at {o hi n : Nat} {w : World} {E : Nat → Nat → Int} {N : Nat → List Int} (h : OwnInsI o hi n n w E N) (hl : ∀ i, (N i).length ≤ 1048576) (hn : n ≤ 1048576) (k0 : Int) (p1 : 0 ≤ k0) (p2 : k0 ≤ 1099511627776) :
    Calls Try.prog 10 #[.slice (some ⟨o, 0, none⟩) n n, .int .i64 k0] w fun e w' => e = .returned (.int .i64 (k0 + (totN 5 N n : Int))) ∧ (∃ E' N', OwnInsI o hi n n w' E' N' ∧ MkdInsI k0 N n E' N') ∧ Win o hi w w' := by
  have H : Hid (OwnInsI o hi n n w E N) := h
  have HL : Hid (∀ i, (N i).length ≤ 1048576) := hl
  have HT : Hid (∀ i, i ≤ n → totN 5 N i ≤ 1099518000000) := fun i hi => totN_le hl (by omega) (by omega)
  have T0 : Hid (totN 5 N 0 = 0) := rfl
  clear h hl
  go_enter Try.func10, Try.ntmps10
  go_wp2
  go_loopw [1, 5] (fun q i w' => ∃ (k : Nat) (E' : Nat → Nat → Int) (N' : Nat → List Int), k ≤ n ∧ i = .int .i64 k ∧ q = .int .i64 (k0 + (totN 5 N k : Int)) ∧ OwnInsI o hi n n w' E' N' ∧ MkdInsI k0 N k E' N' ∧ (∀ i, k ≤ i → N' i = N i) ∧ Win o hi w w') (fun _ i _ => n - (intOf i).toNat)
  case atStart => exact ⟨0, E, N, by omega, rfl, by rw [T0.out]; simp, H.out, fun i hi => absurd hi (by omega), fun _ _ => rfl, Win.refl _ _ _⟩
  case round =>
    obtain ⟨k, E', N', hk, rfl, rfl, hO, hM, hN, hW⟩ := hrel
    have HO : Hid (OwnInsI o hi n n wr E' N') := hO
    have HM : Hid (MkdInsI k0 N k E' N') := hM
    have HN : Hid (∀ i, k ≤ i → N' i = N i) := hN
    have HW : Hid (Win o hi w wr) := hW
    clear hO hM hN hW
    by_cases hlt : (k : Int) < (n : Int)
    · have L : k < n := by omega
      have ht := HT.out k hk
      have TS : Hid (totN 5 N (k + 1) = totN 5 N k + (5 + (N k).length)) := rfl
      obtain ⟨⟨⟨u0, c0⟩, ⟨u1, c1⟩, ⟨u2, c2⟩, ⟨u3, c3⟩, ⟨u4, c4⟩, ⟨u5, c5⟩⟩, f0, f1, f2, f3, f4, f5⟩ := HO.out.cells L
      obtain ⟨xa, xc, cx, hall⟩ := HO.out.mark1 L (fun j => k0 + (totN 5 N k : Int) + (j : Int))
      rw [HN.out k (Nat.le_refl _)] at cx hall
      clear c5 u5 f5
      have NXT : Hid (∀ (E'' : Nat → Nat → Int) (N'' : Nat → List Int), E'' = (fun i => if i = k then (fun (j : Nat) => k0 + (totN 5 N k : Int) + (j : Int)) else E' i) → N'' = (fun i => if i = k then upFrom (k0 + (totN 5 N k : Int) + 5) (N k).length else N' i) → MkdInsI k0 N (k + 1) E'' N'' ∧ ∀ i, k + 1 ≤ i → N'' i = N i) := by
        intro E'' N'' he hn
        subst he hn
        refine ⟨fun i hi => ?_, fun i hi => by simp only [if_neg (show ¬ i = k by omega)]; exact HN.out i (by omega)⟩
        by_cases e : i = k
        · subst e; simp
        · simp only [if_neg e]; exact HM.out i (by omega)
      have CM : Hid (Calls Try.prog 22 #[.slice xa (N k).length xc, .int .i64 (k0 + (totN 5 N k : Int) + 1 + 1 + 1 + 1 + 1)] (((((wr.setCell ⟨o, k * 6, none⟩ (.int .i64 (k0 + (totN 5 N k : Int)))).setCell ⟨o, k * 6 + 1, none⟩ (.int .i64 (k0 + (totN 5 N k : Int) + 1))).setCell ⟨o, k * 6 + 2, none⟩ (.int .i64 (k0 + (totN 5 N k : Int) + 1 + 1))).setCell ⟨o, k * 6 + 3, none⟩ (.int .i64 (k0 + (totN 5 N k : Int) + 1 + 1 + 1))).setCell ⟨o, k * 6 + 4, none⟩ (.int .i64 (k0 + (totN 5 N k : Int) + 1 + 1 + 1 + 1))) fun r w' => r = .returned (.int .i64 (k0 + (totN 5 N (k + 1) : Int))) ∧ (∃ E'' N'', OwnInsI o hi n n w' E'' N'' ∧ MkdInsI k0 N (k + 1) E'' N'' ∧ ∀ i, k + 1 ≤ i → N'' i = N i) ∧ Win o hi w w') := by
        have := hall (k0 + (totN 5 N k : Int) + 5) (HL.out k) (by omega) (by omega)
        rw [show k0 + (totN 5 N k : Int) + 1 + 1 = k0 + (totN 5 N k : Int) + 2 by omega, show k0 + (totN 5 N k : Int) + 2 + 1 = k0 + (totN 5 N k : Int) + 3 by omega, show k0 + (totN 5 N k : Int) + 3 + 1 = k0 + (totN 5 N k : Int) + 4 by omega, show k0 + (totN 5 N k : Int) + 4 + 1 = k0 + (totN 5 N k : Int) + 5 by omega]
        simp only [Int.natCast_zero, Int.add_zero, Int.ofNat_zero] at this
        refine this.mono ?_
        rintro r w' ⟨rfl, h1, h2⟩
        refine ⟨by rw [TS.out]; congr 2; omega, ⟨_, _, h1, NXT.out _ _ rfl rfl⟩, HW.out.trans h2⟩
      clear hall TS NXT
      generalize (N k).length = nl at *
      generalize totN 5 N k = z at *
      have HZ : Hid (totN 5 N (k + 1) = totN 5 N (k + 1)) := rfl
      generalize hz' : totN 5 N (k + 1) = z' at CM
      have HZ' : Hid (totN 5 N (k + 1) = z') := hz'
      clear HZ hz'
      go_wp2_with fail
      refine CM.out.mono ?_
      rintro r w2 ⟨rfl, ⟨E2, N2, hO, hM, hN⟩, hW⟩
      have O2 : Hid (OwnInsI o hi n n w2 E2 N2) := hO
      have X2 : Hid (MkdInsI k0 N (k + 1) E2 N2 ∧ (∀ i, k + 1 ≤ i → N2 i = N i) ∧ Win o hi w w2) := ⟨hM, hN, hW⟩
      clear hO hM hN hW CM
      go_wp2
      go_roundw
      case rel => exact ⟨k + 1, E2, N2, by omega, by go_num, by rw [HZ'.out], O2.out, X2.out⟩
      case measure => simp [intOf]; omega
    · have e : k = n := by omega
      subst e
      go_wp2
      go_ret
      exact ⟨rfl, ⟨E', N', HO.out, HM.out⟩, HW.out⟩
end Go.Proofs.Ytpommfkbkknjaaa
