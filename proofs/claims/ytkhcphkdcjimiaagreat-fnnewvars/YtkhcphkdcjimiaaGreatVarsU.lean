
/-
  Walks: a list of letters is copied into memory of its own.
-/
import Derived.Test.YtkhcphkdcjimiaaGreatVarsQ
namespace Go.Proofs.YtkhcphkdcjimiaaGreat
open Go.RowKit Go.Shelf
set_option linter.unusedVariables false
set_option linter.unusedSimpArgs false
theorem var_loaded {w : World} {g : Nat} {x y z : Value} (h : w.heap[g]? = some (.cells #[x, y, z] 41 (0, 0))) : (loadVar 41 ⟨g, 0, none⟩).run Tryz.prog w = .ok (.agg #[x, y, z]) w := by
  have c0 : w.cell? ⟨g, 0, none⟩ = some x := cell_at h rfl
  have c1 : w.cell? ⟨g, 1, none⟩ = some y := cell_at h rfl
  have c2 : w.cell? ⟨g, 2, none⟩ = some z := cell_at h rfl
  simp [loadVar, go_sem, c0, c1, c2]
theorem results_var {fn : Func} {p : Tmp} (h : fn.results = #[.cell p 41]) (tmps : Array Value) (w : World) (g : Nat) (x y z : Value) (hp : tmps.getD p undef = .pointer (some ⟨g, 0, none⟩))
    (hg : w.heap[g]? = some (.cells #[x, y, z] 41 (0, 0))) : (results fn tmps).run Tryz.prog w = .ok (.agg #[x, y, z]) w := by
  have e : (asAddr (.pointer (some ⟨g, 0, none⟩))).run Tryz.prog w = .ok ⟨g, 0, none⟩ w := by simp [asAddr]
  have l := var_loaded hg
  have hp' : tmps[p]?.getD undef = .pointer (some ⟨g, 0, none⟩) := by simpa using hp
  simp [results, h, hp', e, l, Sem.run_bind, Result.andThen]
theorem var_stored {w : World} {g : Nat} {x y z x' y' z' : Value} {t : TypeId} (h : w.heap[g]? = some (.cells #[x, y, z] t (0, 0))) : (((w.setCell ⟨g, 0, none⟩ x').setCell ⟨g, 1, none⟩ y').setCell ⟨g, 2, none⟩ z').heap[g]? = some (.cells #[x', y', z'] t (0, 0)) := by
  have h1 := heap_setCell_same w g 0 _ _ x' h
  have h2 := heap_setCell_same _ g 1 _ _ y' h1
  have h3 := heap_setCell_same _ g 2 _ _ z' h2
  simpa using h3
theorem three (w : World) (A B C : Obj) : (((w.alloc A).alloc B).alloc C).heap[w.heap.size + 1]? = some B ∧ (((w.alloc A).alloc B).alloc C).heap[w.heap.size + 1 + 1]? = some C := by
  have e2 := heap_alloc_new (w.alloc A) B
  have e3 := heap_alloc_new ((w.alloc A).alloc B) C
  simp only [World.size_alloc] at e2 e3
  refine ⟨?_, e3⟩
  rw [heap_alloc_old _ _ (by simp only [World.size_alloc]; omega)]; exact e2
/-- The first k of n letters are copied into block o. -/
def ToV (w0 : World) (o n k : Nat) (W : World) (B : Nat → Bool) (S D : Nat → List Int) : Prop :=
  ∃ (A : Array Value) (x y : Nat → Value), W.heap[o]? = some (.cells A 41 (0, 0)) ∧ A.size = n * 3 ∧
    (∀ i, i < k → A[i * 3]? = some (.bool (B i)) ∧ A[i * 3 + 1]? = some (x i) ∧ A[i * 3 + 2]? = some (y i) ∧ Piece (o + 1) W.heap.size W (x i) (S i) ∧ Piece (o + 1) W.heap.size W (y i) (D i)) ∧ Below o w0 W
section
variable {w0 W W' : World} {o n k : Nat} {B : Nat → Bool} {S D : Nat → List Int}
theorem ToV.lt (h : ToV w0 o n k W B S D) : o < W.heap.size := by obtain ⟨A, _, _, h1, _⟩ := h; exact lt_of_heapA h1
theorem ToV.keep (h : ToV w0 o n k W B S D) (hb : Below W.heap.size W W') : ToV w0 o n k W' B S D := by
  have hl := h.lt
  obtain ⟨A, x, y, h1, h2, h3, h4⟩ := h
  refine ⟨A, x, y, by rw [hb.block o hl]; exact h1, h2, fun i hi => ?_, h4.trans (hb.mono (Nat.le_of_lt hl))⟩
  obtain ⟨q1, q2, q3, q4, q5⟩ := h3 i hi
  exact ⟨q1, q2, q3, (q4.keep hb).mono (Nat.le_refl _) hb.size, (q5.keep hb).mono (Nat.le_refl _) hb.size⟩
theorem ToV.cells (h : ToV w0 o n k W B S D) (hk : k < n) : (∃ u, W.cell? ⟨o, k * 3, none⟩ = some u) ∧ (∃ u, W.cell? ⟨o, k * 3 + 1, none⟩ = some u) ∧ (∃ u, W.cell? ⟨o, k * 3 + 2, none⟩ = some u) ∧ W.frozen? ⟨o, k * 3, none⟩ = false ∧ W.frozen? ⟨o, k * 3 + 1, none⟩ = false ∧ W.frozen? ⟨o, k * 3 + 2, none⟩ = false := by
  obtain ⟨A, x, y, h1, h2, h3, h4⟩ := h
  have g : ∀ j, j < n * 3 → ∃ u, W.cell? ⟨o, j, none⟩ = some u := fun j hj => ⟨A[j]'(by omega), cell_at h1 (Array.getElem?_eq_getElem (by omega))⟩
  exact ⟨g _ (by omega), g _ (by omega), g _ (by omega), free_at h1 _, free_at h1 _, free_at h1 _⟩
theorem ToV.put (h : ToV w0 o n k W B S D) (hk : k < n) {x' y' : Value} (px : Piece (o + 1) W.heap.size W x' (S k)) (py : Piece (o + 1) W.heap.size W y' (D k)) :
    ToV w0 o n (k + 1) (((W.setCell ⟨o, k * 3, none⟩ (.bool (B k))).setCell ⟨o, k * 3 + 1, none⟩ x').setCell ⟨o, k * 3 + 2, none⟩ y') B S D := by
  obtain ⟨A, x, y, h1, h2, h3, h4⟩ := h
  have e1 := heap_setCell_same W o (k * 3) _ _ (.bool (B k)) h1
  have e2 := heap_setCell_same _ o (k * 3 + 1) _ _ x' e1
  have e3 := heap_setCell_same _ o (k * 3 + 2) _ _ y' e2
  have ww : Win o (o + 1) W (((W.setCell ⟨o, k * 3, none⟩ (.bool (B k))).setCell ⟨o, k * 3 + 1, none⟩ x').setCell ⟨o, k * 3 + 2, none⟩ y') := ((win_setCell _ _ _ _).trans (win_setCell _ _ _ _)).trans (win_setCell _ _ _ _)
  have sz : (((W.setCell ⟨o, k * 3, none⟩ (.bool (B k))).setCell ⟨o, k * 3 + 1, none⟩ x').setCell ⟨o, k * 3 + 2, none⟩ y').heap.size = W.heap.size := by simp only [size_setCell]
  refine ⟨_, fun i => if i = k then x' else x i, fun i => if i = k then y' else y i, e3, by simpa using h2, fun i hi => ?_, below_setCell (below_setCell (below_setCell h4 (Nat.le_refl _) _ _) (Nat.le_refl _) _ _) (Nat.le_refl _) _ _⟩
  rw [sz]
  by_cases e : i = k
  · rw [e]
    simp only [if_true]
    refine ⟨?_, ?_, ?_, px.win ww (.inr (Nat.le_refl _)), py.win ww (.inr (Nat.le_refl _))⟩
    · rw [Array.getElem?_setIfInBounds, if_neg (by omega), Array.getElem?_setIfInBounds, if_neg (by omega), Array.getElem?_setIfInBounds, if_pos rfl, if_pos (by omega)]
    · rw [Array.getElem?_setIfInBounds, if_neg (by omega), Array.getElem?_setIfInBounds, if_pos rfl, if_pos (by simp; omega)]
    · rw [Array.getElem?_setIfInBounds, if_pos rfl, if_pos (by simp; omega)]
  · obtain ⟨q1, q2, q3, q4, q5⟩ := h3 i (by omega)
    simp only [if_neg e]
    refine ⟨?_, ?_, ?_, q4.win ww (.inr (Nat.le_refl _)), q5.win ww (.inr (Nat.le_refl _))⟩
    · rw [Array.getElem?_setIfInBounds, if_neg (by omega), Array.getElem?_setIfInBounds, if_neg (by omega), Array.getElem?_setIfInBounds, if_neg (by omega)]; exact q1
    · rw [Array.getElem?_setIfInBounds, if_neg (by omega), Array.getElem?_setIfInBounds, if_neg (by omega), Array.getElem?_setIfInBounds, if_neg (by omega)]; exact q2
    · rw [Array.getElem?_setIfInBounds, if_neg (by omega), Array.getElem?_setIfInBounds, if_neg (by omega), Array.getElem?_setIfInBounds, if_neg (by omega)]; exact q3
theorem ToV.vars (h : ToV w0 o n n W B S D) : VarsI W (.slice (some ⟨o, 0, none⟩) n n) n B S D := by
  have hl := h.lt
  obtain ⟨A, x, y, h1, h2, h3, h4⟩ := h
  refine ⟨_, _, rfl, .inr ⟨o, 0, x, y, rfl, hl, fun i hi => ?_⟩⟩
  obtain ⟨q1, q2, q3, q4, q5⟩ := h3 i hi
  rw [Nat.zero_add]
  exact ⟨cell_at h1 q1, cell_at h1 q2, cell_at h1 q3, q4.intsI, q5.intsI⟩
end
theorem info_var9 : (Tryz.prog.info? 41).map (fun i => (i.zero, i.size, i.bytes)) = some (some (.agg #[.bool false, .slice none 0 0, .slice none 0 0]), 3, 56) := by kernel_rfl
theorem make_varsN (n : Nat) (hn : n ≤ 1048576) (w : World) (B : Nat → Bool) (S D : Nat → List Int) : ∃ w', (Instr.makeSlice 24 (.int .i64 (n : Int)) (.int .i64 (n : Int))).run Tryz.prog w = .ok (.slice (some ⟨w.heap.size, 0, none⟩) n n) w' ∧ ToV w w.heap.size n 0 w' B S D := by
  have hi := info_var9
  cases hq : Tryz.prog.info? 41 with
  | none => rw [hq] at hi; cases hi
  | some i =>
    rw [hq] at hi
    simp at hi
    obtain ⟨z1, z2, z3⟩ := hi
    have q := run_make (P := Tryz.prog) w 24 41 i _ Tryz.underlying24 hq z1 .i64 .i64 (n : Int) (n : Int) (by omega) (by omega) (by rw [z3]; omega) (by omega)
    rw [z2, Int.toNat_natCast] at q
    exact ⟨_, q, _, fun _ => undef, fun _ => undef, heap_alloc_new w _, by rw [size_madeCells], fun i hi => absurd hi (by omega), bAlloc (Below.refl _ _) _⟩
end Go.Proofs.YtkhcphkdcjimiaaGreat
