
/-
  Walks: a list of Expr is copied into memory of its own.
-/
import Derived.Test.YtnebjnglcfebeaaDoorTreeQ
import Derived.Test.YtnebjnglcfebeaaDoorFunOk
namespace Go.Proofs.YtnebjnglcfebeaaDoor
open Go.RowKit
set_option linter.unusedVariables false
set_option linter.unusedSimpArgs false
theorem expr_loaded {w : World} {g : Nat} {x0 x1 x2 x3 x4 x5 x6 : Value} (h : w.heap[g]? = some (.cells #[x0, x1, x2, x3, x4, x5, x6] 67 (0, 0))) : (loadVar 67 ⟨g, 0, none⟩).run Tryd.prog w = .ok (.agg #[x0, x1, x2, x3, x4, x5, x6]) w := by
  have c0 : w.cell? ⟨g, 0, none⟩ = some x0 := cell_at h rfl
  have c1 : w.cell? ⟨g, 1, none⟩ = some x1 := cell_at h rfl
  have c2 : w.cell? ⟨g, 2, none⟩ = some x2 := cell_at h rfl
  have c3 : w.cell? ⟨g, 3, none⟩ = some x3 := cell_at h rfl
  have c4 : w.cell? ⟨g, 4, none⟩ = some x4 := cell_at h rfl
  have c5 : w.cell? ⟨g, 5, none⟩ = some x5 := cell_at h rfl
  have c6 : w.cell? ⟨g, 6, none⟩ = some x6 := cell_at h rfl
  simp [loadVar, go_sem, c0, c1, c2, c3, c4, c5, c6]
theorem results_expr {fn : Func} {p : Tmp} (h : fn.results = #[.cell p 67]) (tmps : Array Value) (w : World) (g : Nat) (x0 x1 x2 x3 x4 x5 x6 : Value) (hp : tmps.getD p undef = .pointer (some ⟨g, 0, none⟩))
    (hg : w.heap[g]? = some (.cells #[x0, x1, x2, x3, x4, x5, x6] 67 (0, 0))) : (results fn tmps).run Tryd.prog w = .ok (.agg #[x0, x1, x2, x3, x4, x5, x6]) w := by
  have e : (asAddr (.pointer (some ⟨g, 0, none⟩))).run Tryd.prog w = .ok ⟨g, 0, none⟩ w := by simp [asAddr]
  have l := expr_loaded hg
  have hp' : tmps[p]?.getD undef = .pointer (some ⟨g, 0, none⟩) := by simpa using hp
  simp [results, h, hp', e, l, Sem.run_bind, Result.andThen]
theorem expr_stored {w : World} {g : Nat} {x0 x1 x2 x3 x4 x5 x6 y0 y1 y2 y3 y4 y5 y6 : Value} {t : TypeId} (h : w.heap[g]? = some (.cells #[x0, x1, x2, x3, x4, x5, x6] t (0, 0))) : (((((((w.setCell ⟨g, 0, none⟩ y0).setCell ⟨g, 1, none⟩ y1).setCell ⟨g, 2, none⟩ y2).setCell ⟨g, 3, none⟩ y3).setCell ⟨g, 4, none⟩ y4).setCell ⟨g, 5, none⟩ y5).setCell ⟨g, 6, none⟩ y6).heap[g]? = some (.cells #[y0, y1, y2, y3, y4, y5, y6] t (0, 0)) := by
  have h0 := heap_setCell_same w g 0 _ _ y0 h
  have h1 := heap_setCell_same _ g 1 _ _ y1 h0
  have h2 := heap_setCell_same _ g 2 _ _ y2 h1
  have h3 := heap_setCell_same _ g 3 _ _ y3 h2
  have h4 := heap_setCell_same _ g 4 _ _ y4 h3
  have h5 := heap_setCell_same _ g 5 _ _ y5 h4
  have h6 := heap_setCell_same _ g 6 _ _ y6 h5
  simpa using h6
theorem expr_three (w : World) (A B C : Obj) : (((w.alloc A).alloc B).alloc C).heap[w.heap.size]? = some A ∧ (((w.alloc A).alloc B).alloc C).heap[w.heap.size + 1]? = some B ∧ (((w.alloc A).alloc B).alloc C).heap[w.heap.size + 1 + 1]? = some C := by
  have e1 := heap_alloc_new w A
  have e2 := heap_alloc_new (w.alloc A) B
  have e3 := heap_alloc_new ((w.alloc A).alloc B) C
  simp only [World.size_alloc] at e2 e3
  refine ⟨?_, ?_, e3⟩
  · rw [heap_alloc_old _ _ (by simp only [World.size_alloc]; omega), heap_alloc_old _ _ (by simp only [World.size_alloc]; omega)]; exact e1
  · rw [heap_alloc_old _ _ (by simp only [World.size_alloc]; omega)]; exact e2
/-- The first k of n are copied into block o. -/
def ToExprsI (w0 : World) (o n k : Nat) (W : World) (E : Nat → Nat → Int) (N : Nat → List Int) : Prop :=
  ∃ (A : Array Value) (x : Nat → Value), W.heap[o]? = some (.cells A 67 (0, 0)) ∧ A.size = n * 7 ∧
    (∀ i, i < k → (A[i * 7]? = some (.int .i64 (E i 0)) ∧ A[i * 7 + 1]? = some (.int .i64 (E i 1)) ∧ A[i * 7 + 2]? = some (.int .i64 (E i 2)) ∧ A[i * 7 + 3]? = some (.int .i64 (E i 3)) ∧ A[i * 7 + 4]? = some (.int .i64 (E i 4)) ∧ A[i * 7 + 5]? = some (.int .i64 (E i 5)) ∧ A[i * 7 + 6]? = some (x i)) ∧ Piece (o + 1) W.heap.size W (x i) (N i)) ∧ Below o w0 W
section
variable {w0 W W' : World} {o n k : Nat} {E : Nat → Nat → Int} {N : Nat → List Int}
theorem ToExprsI.lt (h : ToExprsI w0 o n k W E N) : o < W.heap.size := by obtain ⟨A, _, h1, _⟩ := h; exact lt_of_heapA h1
theorem ToExprsI.below (h : ToExprsI w0 o n k W E N) : Below o w0 W := by obtain ⟨_, _, _, _, _, q⟩ := h; exact q
theorem ToExprsI.keep (h : ToExprsI w0 o n k W E N) (hb : Below W.heap.size W W') : ToExprsI w0 o n k W' E N := by
  have hl := h.lt
  obtain ⟨A, x, h1, h2, h3, h4⟩ := h
  refine ⟨A, x, by rw [hb.block o hl]; exact h1, h2, fun i hi => ?_, h4.trans (hb.mono (Nat.le_of_lt hl))⟩
  obtain ⟨q1, q2⟩ := h3 i hi
  exact ⟨q1, (q2.keep hb).mono (Nat.le_refl _) hb.size⟩
theorem ToExprsI.cells (h : ToExprsI w0 o n k W E N) (hk : k < n) : ((∃ u, W.cell? ⟨o, k * 7, none⟩ = some u) ∧ (∃ u, W.cell? ⟨o, k * 7 + 1, none⟩ = some u) ∧ (∃ u, W.cell? ⟨o, k * 7 + 2, none⟩ = some u) ∧ (∃ u, W.cell? ⟨o, k * 7 + 3, none⟩ = some u) ∧ (∃ u, W.cell? ⟨o, k * 7 + 4, none⟩ = some u) ∧ (∃ u, W.cell? ⟨o, k * 7 + 5, none⟩ = some u) ∧ (∃ u, W.cell? ⟨o, k * 7 + 6, none⟩ = some u)) ∧ W.frozen? ⟨o, k * 7, none⟩ = false ∧ W.frozen? ⟨o, k * 7 + 1, none⟩ = false ∧ W.frozen? ⟨o, k * 7 + 2, none⟩ = false ∧ W.frozen? ⟨o, k * 7 + 3, none⟩ = false ∧ W.frozen? ⟨o, k * 7 + 4, none⟩ = false ∧ W.frozen? ⟨o, k * 7 + 5, none⟩ = false ∧ W.frozen? ⟨o, k * 7 + 6, none⟩ = false := by
  obtain ⟨A, x, h1, h2, h3, h4⟩ := h
  have g : ∀ j, j < n * 7 → ∃ u, W.cell? ⟨o, j, none⟩ = some u := fun j hj => ⟨A[j]'(by omega), cell_at h1 (Array.getElem?_eq_getElem (by omega))⟩
  exact ⟨⟨g _ (by omega), g _ (by omega), g _ (by omega), g _ (by omega), g _ (by omega), g _ (by omega), g _ (by omega)⟩, free_at h1 _, free_at h1 _, free_at h1 _, free_at h1 _, free_at h1 _, free_at h1 _, free_at h1 _⟩
theorem ToExprsI.put (h : ToExprsI w0 o n k W E N) (hk : k < n) {x' : Value} (px : Piece (o + 1) W.heap.size W x' (N k)) :
    ToExprsI w0 o n (k + 1) (((((((W.setCell ⟨o, k * 7, none⟩ (.int .i64 (E k 0))).setCell ⟨o, k * 7 + 1, none⟩ (.int .i64 (E k 1))).setCell ⟨o, k * 7 + 2, none⟩ (.int .i64 (E k 2))).setCell ⟨o, k * 7 + 3, none⟩ (.int .i64 (E k 3))).setCell ⟨o, k * 7 + 4, none⟩ (.int .i64 (E k 4))).setCell ⟨o, k * 7 + 5, none⟩ (.int .i64 (E k 5))).setCell ⟨o, k * 7 + 6, none⟩ x') E N := by
  obtain ⟨A, x, h1, h2, h3, h4⟩ := h
  have e0 := heap_setCell_same W o (k * 7) _ _ (.int .i64 (E k 0)) h1
  have e1 := heap_setCell_same _ o (k * 7 + 1) _ _ (.int .i64 (E k 1)) e0
  have e2 := heap_setCell_same _ o (k * 7 + 2) _ _ (.int .i64 (E k 2)) e1
  have e3 := heap_setCell_same _ o (k * 7 + 3) _ _ (.int .i64 (E k 3)) e2
  have e4 := heap_setCell_same _ o (k * 7 + 4) _ _ (.int .i64 (E k 4)) e3
  have e5 := heap_setCell_same _ o (k * 7 + 5) _ _ (.int .i64 (E k 5)) e4
  have e6 := heap_setCell_same _ o (k * 7 + 6) _ _ x' e5
  have ww : Win o (o + 1) W (((((((W.setCell ⟨o, k * 7, none⟩ (.int .i64 (E k 0))).setCell ⟨o, k * 7 + 1, none⟩ (.int .i64 (E k 1))).setCell ⟨o, k * 7 + 2, none⟩ (.int .i64 (E k 2))).setCell ⟨o, k * 7 + 3, none⟩ (.int .i64 (E k 3))).setCell ⟨o, k * 7 + 4, none⟩ (.int .i64 (E k 4))).setCell ⟨o, k * 7 + 5, none⟩ (.int .i64 (E k 5))).setCell ⟨o, k * 7 + 6, none⟩ x') := (((((((win_setCell _ _ _ _).trans (win_setCell _ _ _ _)).trans (win_setCell _ _ _ _)).trans (win_setCell _ _ _ _)).trans (win_setCell _ _ _ _)).trans (win_setCell _ _ _ _)).trans (win_setCell _ _ _ _))
  have sz : (((((((W.setCell ⟨o, k * 7, none⟩ (.int .i64 (E k 0))).setCell ⟨o, k * 7 + 1, none⟩ (.int .i64 (E k 1))).setCell ⟨o, k * 7 + 2, none⟩ (.int .i64 (E k 2))).setCell ⟨o, k * 7 + 3, none⟩ (.int .i64 (E k 3))).setCell ⟨o, k * 7 + 4, none⟩ (.int .i64 (E k 4))).setCell ⟨o, k * 7 + 5, none⟩ (.int .i64 (E k 5))).setCell ⟨o, k * 7 + 6, none⟩ x').heap.size = W.heap.size := by simp only [size_setCell]
  refine ⟨_, fun i => if i = k then x' else x i, e6, by simpa using h2, fun i hi => ?_, below_setCell (below_setCell (below_setCell (below_setCell (below_setCell (below_setCell (below_setCell (h4) (Nat.le_refl _) _ _) (Nat.le_refl _) _ _) (Nat.le_refl _) _ _) (Nat.le_refl _) _ _) (Nat.le_refl _) _ _) (Nat.le_refl _) _ _) (Nat.le_refl _) _ _⟩
  rw [sz]
  by_cases e : i = k
  · rw [e]
    simp only [if_true]
    refine ⟨⟨?_, ?_, ?_, ?_, ?_, ?_, ?_⟩, px.win ww (.inr (Nat.le_refl _))⟩
    · rw [Array.getElem?_setIfInBounds, if_neg (by omega), Array.getElem?_setIfInBounds, if_neg (by omega), Array.getElem?_setIfInBounds, if_neg (by omega), Array.getElem?_setIfInBounds, if_neg (by omega), Array.getElem?_setIfInBounds, if_neg (by omega), Array.getElem?_setIfInBounds, if_neg (by omega), Array.getElem?_setIfInBounds, if_pos rfl, if_pos (by omega)]
    · rw [Array.getElem?_setIfInBounds, if_neg (by omega), Array.getElem?_setIfInBounds, if_neg (by omega), Array.getElem?_setIfInBounds, if_neg (by omega), Array.getElem?_setIfInBounds, if_neg (by omega), Array.getElem?_setIfInBounds, if_neg (by omega), Array.getElem?_setIfInBounds, if_pos rfl, if_pos (by simp only [Array.size_setIfInBounds]; omega)]
    · rw [Array.getElem?_setIfInBounds, if_neg (by omega), Array.getElem?_setIfInBounds, if_neg (by omega), Array.getElem?_setIfInBounds, if_neg (by omega), Array.getElem?_setIfInBounds, if_neg (by omega), Array.getElem?_setIfInBounds, if_pos rfl, if_pos (by simp only [Array.size_setIfInBounds]; omega)]
    · rw [Array.getElem?_setIfInBounds, if_neg (by omega), Array.getElem?_setIfInBounds, if_neg (by omega), Array.getElem?_setIfInBounds, if_neg (by omega), Array.getElem?_setIfInBounds, if_pos rfl, if_pos (by simp only [Array.size_setIfInBounds]; omega)]
    · rw [Array.getElem?_setIfInBounds, if_neg (by omega), Array.getElem?_setIfInBounds, if_neg (by omega), Array.getElem?_setIfInBounds, if_pos rfl, if_pos (by simp only [Array.size_setIfInBounds]; omega)]
    · rw [Array.getElem?_setIfInBounds, if_neg (by omega), Array.getElem?_setIfInBounds, if_pos rfl, if_pos (by simp only [Array.size_setIfInBounds]; omega)]
    · rw [Array.getElem?_setIfInBounds, if_pos rfl, if_pos (by simp only [Array.size_setIfInBounds]; omega)]
  · obtain ⟨⟨q0, q1, q2, q3, q4, q5, q6⟩, qz⟩ := h3 i (by omega)
    simp only [if_neg e]
    refine ⟨⟨?_, ?_, ?_, ?_, ?_, ?_, ?_⟩, qz.win ww (.inr (Nat.le_refl _))⟩
    · rw [Array.getElem?_setIfInBounds, if_neg (by omega), Array.getElem?_setIfInBounds, if_neg (by omega), Array.getElem?_setIfInBounds, if_neg (by omega), Array.getElem?_setIfInBounds, if_neg (by omega), Array.getElem?_setIfInBounds, if_neg (by omega), Array.getElem?_setIfInBounds, if_neg (by omega), Array.getElem?_setIfInBounds, if_neg (by omega)]; exact q0
    · rw [Array.getElem?_setIfInBounds, if_neg (by omega), Array.getElem?_setIfInBounds, if_neg (by omega), Array.getElem?_setIfInBounds, if_neg (by omega), Array.getElem?_setIfInBounds, if_neg (by omega), Array.getElem?_setIfInBounds, if_neg (by omega), Array.getElem?_setIfInBounds, if_neg (by omega), Array.getElem?_setIfInBounds, if_neg (by omega)]; exact q1
    · rw [Array.getElem?_setIfInBounds, if_neg (by omega), Array.getElem?_setIfInBounds, if_neg (by omega), Array.getElem?_setIfInBounds, if_neg (by omega), Array.getElem?_setIfInBounds, if_neg (by omega), Array.getElem?_setIfInBounds, if_neg (by omega), Array.getElem?_setIfInBounds, if_neg (by omega), Array.getElem?_setIfInBounds, if_neg (by omega)]; exact q2
    · rw [Array.getElem?_setIfInBounds, if_neg (by omega), Array.getElem?_setIfInBounds, if_neg (by omega), Array.getElem?_setIfInBounds, if_neg (by omega), Array.getElem?_setIfInBounds, if_neg (by omega), Array.getElem?_setIfInBounds, if_neg (by omega), Array.getElem?_setIfInBounds, if_neg (by omega), Array.getElem?_setIfInBounds, if_neg (by omega)]; exact q3
    · rw [Array.getElem?_setIfInBounds, if_neg (by omega), Array.getElem?_setIfInBounds, if_neg (by omega), Array.getElem?_setIfInBounds, if_neg (by omega), Array.getElem?_setIfInBounds, if_neg (by omega), Array.getElem?_setIfInBounds, if_neg (by omega), Array.getElem?_setIfInBounds, if_neg (by omega), Array.getElem?_setIfInBounds, if_neg (by omega)]; exact q4
    · rw [Array.getElem?_setIfInBounds, if_neg (by omega), Array.getElem?_setIfInBounds, if_neg (by omega), Array.getElem?_setIfInBounds, if_neg (by omega), Array.getElem?_setIfInBounds, if_neg (by omega), Array.getElem?_setIfInBounds, if_neg (by omega), Array.getElem?_setIfInBounds, if_neg (by omega), Array.getElem?_setIfInBounds, if_neg (by omega)]; exact q5
    · rw [Array.getElem?_setIfInBounds, if_neg (by omega), Array.getElem?_setIfInBounds, if_neg (by omega), Array.getElem?_setIfInBounds, if_neg (by omega), Array.getElem?_setIfInBounds, if_neg (by omega), Array.getElem?_setIfInBounds, if_neg (by omega), Array.getElem?_setIfInBounds, if_neg (by omega), Array.getElem?_setIfInBounds, if_neg (by omega)]; exact q6
theorem ToExprsI.list (h : ToExprsI w0 o n n W E N) : ExprsI W (.slice (some ⟨o, 0, none⟩) n n) n E N := by
  have hl := h.lt
  obtain ⟨A, x, h1, h2, h3, h4⟩ := h
  refine ⟨_, _, rfl, .inr ⟨o, 0, x, rfl, hl, fun i hi => ?_⟩⟩
  obtain ⟨⟨q0, q1, q2, q3, q4, q5, q6⟩, qz⟩ := h3 i hi
  rw [Nat.zero_add]
  exact ⟨⟨cell_at h1 q0, cell_at h1 q1, cell_at h1 q2, cell_at h1 q3, cell_at h1 q4, cell_at h1 q5, cell_at h1 q6⟩, qz.intsI⟩
/-- It stands, whatever is turned below it. -/
theorem ToExprsI.win (h : ToExprsI w0 o n n W E N) (hw : Win 0 o W W') : ExprsI W' (.slice (some ⟨o, 0, none⟩) n n) n E N := by
  have hl := h.lt
  obtain ⟨A, x, h1, h2, h3, h4⟩ := h
  have h1' : W'.heap[o]? = some (.cells A 67 (0, 0)) := by rw [hw.block o hl (.inr (Nat.le_refl _))]; exact h1
  refine ⟨_, _, rfl, .inr ⟨o, 0, x, rfl, lt_of_heapA h1', fun i hi => ?_⟩⟩
  obtain ⟨⟨q0, q1, q2, q3, q4, q5, q6⟩, qz⟩ := h3 i hi
  rw [Nat.zero_add]
  exact ⟨⟨cell_at h1' q0, cell_at h1' q1, cell_at h1' q2, cell_at h1' q3, cell_at h1' q4, cell_at h1' q5, cell_at h1' q6⟩, (qz.win hw (.inr (Nat.le_succ _))).intsI⟩
end
theorem info_expr9 : (Tryd.prog.info? 67).map (fun i => (i.zero, i.size, i.bytes)) = some (some (.agg #[.int .i64 0, .int .i64 0, .int .i64 0, .int .i64 0, .int .i64 0, .int .i64 0, .slice none 0 0]), 7, 72) := by kernel_rfl
theorem make_exprN (n : Nat) (hn : n ≤ 1048576) (w : World) (E : Nat → Nat → Int) (N : Nat → List Int) : ∃ w', (Instr.makeSlice 24 (.int .i64 (n : Int)) (.int .i64 (n : Int))).run Tryd.prog w = .ok (.slice (some ⟨w.heap.size, 0, none⟩) n n) w' ∧ ToExprsI w w.heap.size n 0 w' E N := by
  have hi := info_expr9
  cases hq : Tryd.prog.info? 67 with
  | none => rw [hq] at hi; cases hi
  | some i =>
    rw [hq] at hi
    simp at hi
    obtain ⟨z1, z2, z3⟩ := hi
    have q := run_make (P := Tryd.prog) w 24 67 i _ Tryd.underlying24 hq z1 .i64 .i64 (n : Int) (n : Int) (by omega) (by omega) (by rw [z3]; omega) (by omega)
    rw [z2, Int.toNat_natCast] at q
    exact ⟨_, q, _, fun _ => undef, heap_alloc_new w _, by rw [size_madeCells], fun i hi => absurd hi (by omega), bAlloc (Below.refl _ _) _⟩
end Go.Proofs.YtnebjnglcfebeaaDoor
