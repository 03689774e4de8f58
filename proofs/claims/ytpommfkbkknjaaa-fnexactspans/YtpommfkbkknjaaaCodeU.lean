/-
  Walks: a list of Instr is copied into memory of its own.
-/
import Derived.Test.YtpommfkbkknjaaaCodeQ
import Derived.Test.YtpommfkbkknjaaaFunOk
namespace Go.Proofs.Ytpommfkbkknjaaa
open Go.RowKit
set_option linter.unusedVariables false
set_option linter.unusedSimpArgs false
theorem instr_loaded {w : World} {g : Nat} {x0 x1 x2 x3 x4 x5 : Value} (h : w.heap[g]? = some (.cells #[x0, x1, x2, x3, x4, x5] 44 (0, 0))) : (loadVar 44 ⟨g, 0, none⟩).run Try.prog w = .ok (.agg #[x0, x1, x2, x3, x4, x5]) w := by
  have c0 : w.cell? ⟨g, 0, none⟩ = some x0 := cell_at h rfl
  have c1 : w.cell? ⟨g, 1, none⟩ = some x1 := cell_at h rfl
  have c2 : w.cell? ⟨g, 2, none⟩ = some x2 := cell_at h rfl
  have c3 : w.cell? ⟨g, 3, none⟩ = some x3 := cell_at h rfl
  have c4 : w.cell? ⟨g, 4, none⟩ = some x4 := cell_at h rfl
  have c5 : w.cell? ⟨g, 5, none⟩ = some x5 := cell_at h rfl
  simp [loadVar, go_sem, c0, c1, c2, c3, c4, c5]
theorem results_instr {fn : Func} {p : Tmp} (h : fn.results = #[.cell p 44]) (tmps : Array Value) (w : World) (g : Nat) (x0 x1 x2 x3 x4 x5 : Value) (hp : tmps.getD p undef = .pointer (some ⟨g, 0, none⟩))
    (hg : w.heap[g]? = some (.cells #[x0, x1, x2, x3, x4, x5] 44 (0, 0))) : (results fn tmps).run Try.prog w = .ok (.agg #[x0, x1, x2, x3, x4, x5]) w := by
  have e : (asAddr (.pointer (some ⟨g, 0, none⟩))).run Try.prog w = .ok ⟨g, 0, none⟩ w := by simp [asAddr]
  have l := instr_loaded hg
  have hp' : tmps[p]?.getD undef = .pointer (some ⟨g, 0, none⟩) := by simpa using hp
  simp [results, h, hp', e, l, Sem.run_bind, Result.andThen]
theorem instr_stored {w : World} {g : Nat} {x0 x1 x2 x3 x4 x5 y0 y1 y2 y3 y4 y5 : Value} {t : TypeId} (h : w.heap[g]? = some (.cells #[x0, x1, x2, x3, x4, x5] t (0, 0))) : ((((((w.setCell ⟨g, 0, none⟩ y0).setCell ⟨g, 1, none⟩ y1).setCell ⟨g, 2, none⟩ y2).setCell ⟨g, 3, none⟩ y3).setCell ⟨g, 4, none⟩ y4).setCell ⟨g, 5, none⟩ y5).heap[g]? = some (.cells #[y0, y1, y2, y3, y4, y5] t (0, 0)) := by
  have h0 := heap_setCell_same w g 0 _ _ y0 h
  have h1 := heap_setCell_same _ g 1 _ _ y1 h0
  have h2 := heap_setCell_same _ g 2 _ _ y2 h1
  have h3 := heap_setCell_same _ g 3 _ _ y3 h2
  have h4 := heap_setCell_same _ g 4 _ _ y4 h3
  have h5 := heap_setCell_same _ g 5 _ _ y5 h4
  simpa using h5
theorem instr_three (w : World) (A B C : Obj) : (((w.alloc A).alloc B).alloc C).heap[w.heap.size]? = some A ∧ (((w.alloc A).alloc B).alloc C).heap[w.heap.size + 1]? = some B ∧ (((w.alloc A).alloc B).alloc C).heap[w.heap.size + 1 + 1]? = some C := by
  have e1 := heap_alloc_new w A
  have e2 := heap_alloc_new (w.alloc A) B
  have e3 := heap_alloc_new ((w.alloc A).alloc B) C
  simp only [World.size_alloc] at e2 e3
  refine ⟨?_, ?_, e3⟩
  · rw [heap_alloc_old _ _ (by simp only [World.size_alloc]; omega), heap_alloc_old _ _ (by simp only [World.size_alloc]; omega)]; exact e1
  · rw [heap_alloc_old _ _ (by simp only [World.size_alloc]; omega)]; exact e2
set_option maxRecDepth 20000 in
set_option maxHeartbeats 8000000 in
/-- One is copied. -/
theorem toInstr_at {e : Nat → Int} {l : List Int} {w : World} {xa : Option Addr} {xc : Nat} (h : IntsI w (.slice xa l.length xc) l) (hl : l.length ≤ 1048576) :
    Calls Try.prog 16 #[.agg #[.int .i64 (e 0), .int .i64 (e 1), .int .i64 (e 2), .int .i64 (e 3), .int .i64 (e 4), .slice xa l.length xc]] w fun r w' => ∃ xa' xc', r = .returned (.agg #[.int .i64 (e 0), .int .i64 (e 1), .int .i64 (e 2), .int .i64 (e 3), .int .i64 (e 4), .slice xa' l.length xc']) ∧ Piece w.heap.size w'.heap.size w' (.slice xa' l.length xc') l ∧ Below w.heap.size w w' := by
  have H : Hid (IntsI w (.slice xa l.length xc) l) := h
  have HL : Hid (l.length ≤ 1048576) := hl
  clear h
  generalize e 0 = e0
  generalize e 1 = e1
  generalize e 2 = e2
  generalize e 3 = e3
  generalize e 4 = e4
  go_enter Try.func16, Try.ntmps16
  go_wp2_with fail
  refine (toFun3 _ _ _ _).mono ?_
  rintro r w2 ⟨rfl, hb⟩
  have q := instr_three w (.cells #[.int .i64 e0, .int .i64 e1, .int .i64 e2, .int .i64 e3, .int .i64 e4, .slice xa l.length xc] 38) (.cells #[.int .i64 0, .int .i64 0, .int .i64 0, .int .i64 0, .int .i64 0, .slice none 0 0] 44) (.cells #[.int .i64 e0, .int .i64 e1, .int .i64 0, .int .i64 0, .int .i64 0, .slice none 0 0] 44)
  have A2 : w2.cell? ⟨w.heap.size, 5, none⟩ = some (.slice xa l.length xc) := (hb.cell (p := ⟨w.heap.size, 5, none⟩) (by simp; omega)).trans (cell_at q.1 rfl)
  have R2 : Hid (w2.heap[w.heap.size + 1]? = some (.cells #[.int .i64 0, .int .i64 0, .int .i64 0, .int .i64 0, .int .i64 0, .slice none 0 0] 44 (0, 0))) := by show _ = _; rw [hb.block _ (by simp)]; exact q.2.1
  have O2 : Hid (w2.heap[w.heap.size + 1 + 1]? = some (.cells #[.int .i64 e0, .int .i64 e1, .int .i64 0, .int .i64 0, .int .i64 0, .slice none 0 0] 44 (0, 0))) := by show _ = _; rw [hb.block _ (by simp)]; exact q.2.2
  have B2 : Hid (Below w.heap.size w w2) := bTrans (bAlloc (bAlloc (bAlloc (Below.refl _ _) _) _) _) hb
  have LT : Hid (w.heap.size + 1 + 1 < w2.heap.size) := lt_of_heapA O2.out
  clear hb q
  have o2 : w2.cell? ⟨w.heap.size + 1 + 1, 2, none⟩ = some (.int .i64 0) := cell_at O2.out rfl
  have g2 : w2.frozen? ⟨w.heap.size + 1 + 1, 2, none⟩ = false := free_at O2.out 2
  have o3 : w2.cell? ⟨w.heap.size + 1 + 1, 3, none⟩ = some (.int .i64 0) := cell_at O2.out rfl
  have g3 : w2.frozen? ⟨w.heap.size + 1 + 1, 3, none⟩ = false := free_at O2.out 3
  have o4 : w2.cell? ⟨w.heap.size + 1 + 1, 4, none⟩ = some (.int .i64 0) := cell_at O2.out rfl
  have g4 : w2.frozen? ⟨w.heap.size + 1 + 1, 4, none⟩ = false := free_at O2.out 4
  go_wp2_with fail
  clear o2 g2 o3 g3 o4 g4 A2
  generalize hW : (((w2.setCell ⟨w.heap.size + 1 + 1, 2, none⟩ (.int .i64 e2)).setCell ⟨w.heap.size + 1 + 1, 3, none⟩ (.int .i64 e3)).setCell ⟨w.heap.size + 1 + 1, 4, none⟩ (.int .i64 e4)) = w3
  have B3 : Hid (Below w.heap.size w w3) := by rw [← hW]; exact below_setCell (below_setCell (below_setCell B2.out (by omega) _ _) (by omega) _ _) (by omega) _ _
  have R3 : Hid (w3.heap[w.heap.size + 1]? = some (.cells #[.int .i64 0, .int .i64 0, .int .i64 0, .int .i64 0, .int .i64 0, .slice none 0 0] 44 (0, 0))) := by
    show _ = _
    rw [← hW, heap_setCell_other _ _ _ _ (by show w.heap.size + 1 ≠ w.heap.size + 1 + 1; omega), heap_setCell_other _ _ _ _ (by show w.heap.size + 1 ≠ w.heap.size + 1 + 1; omega), heap_setCell_other _ _ _ _ (by show w.heap.size + 1 ≠ w.heap.size + 1 + 1; omega)]
    exact R2.out
  have O3 : Hid (w3.heap[w.heap.size + 1 + 1]? = some (.cells #[.int .i64 e0, .int .i64 e1, .int .i64 e2, .int .i64 e3, .int .i64 e4, .slice none 0 0] 44 (0, 0))) := by
    have h0 := heap_setCell_same w2 (w.heap.size + 1 + 1) 2 _ _ (.int .i64 e2) O2.out
    have h1 := heap_setCell_same _ (w.heap.size + 1 + 1) 3 _ _ (.int .i64 e3) h0
    have h2 := heap_setCell_same _ (w.heap.size + 1 + 1) 4 _ _ (.int .i64 e4) h1
    rw [hW] at h2
    show _ = _
    simpa using h2
  have LT3 : Hid (w.heap.size + 1 + 1 < w3.heap.size) := lt_of_heapA O3.out
  clear hW R2 O2 LT B2
  refine (to_listI (H.out.keep B3.out) HL.out).mono ?_
  rintro r w4 ⟨v4, rfl, hp, hb⟩
  obtain ⟨xa2, xc2, rfl, _, _⟩ := hp.intsI
  have B4 : Hid (Below w.heap.size w w4) := bTrans B3.out hb
  have R4 : Hid (w4.heap[w.heap.size + 1]? = some (.cells #[.int .i64 0, .int .i64 0, .int .i64 0, .int .i64 0, .int .i64 0, .slice none 0 0] 44 (0, 0))) := by show _ = _; rw [hb.block _ (by have := LT3.out; omega)]; exact R3.out
  have O4 : Hid (w4.heap[w.heap.size + 1 + 1]? = some (.cells #[.int .i64 e0, .int .i64 e1, .int .i64 e2, .int .i64 e3, .int .i64 e4, .slice none 0 0] 44 (0, 0))) := by show _ = _; rw [hb.block _ (by have := LT3.out; omega)]; exact O3.out
  have PP : Hid (Piece (w.heap.size + 1 + 1 + 1) w4.heap.size w4 (.slice xa2 l.length xc2) l) := hp.mono (by have := LT3.out; omega) (Nat.le_refl _)
  clear hp hb R3 O3 B3
  have o0 : w4.cell? ⟨w.heap.size + 1 + 1, 0, none⟩ = some (.int .i64 e0) := cell_at O4.out rfl
  have r0 : w4.cell? ⟨w.heap.size + 1, 0, none⟩ = some (.int .i64 0) := cell_at R4.out rfl
  have f0 : w4.frozen? ⟨w.heap.size + 1, 0, none⟩ = false := free_at R4.out 0
  have o1 : w4.cell? ⟨w.heap.size + 1 + 1, 1, none⟩ = some (.int .i64 e1) := cell_at O4.out rfl
  have r1 : w4.cell? ⟨w.heap.size + 1, 1, none⟩ = some (.int .i64 0) := cell_at R4.out rfl
  have f1 : w4.frozen? ⟨w.heap.size + 1, 1, none⟩ = false := free_at R4.out 1
  have o2 : w4.cell? ⟨w.heap.size + 1 + 1, 2, none⟩ = some (.int .i64 e2) := cell_at O4.out rfl
  have r2 : w4.cell? ⟨w.heap.size + 1, 2, none⟩ = some (.int .i64 0) := cell_at R4.out rfl
  have f2 : w4.frozen? ⟨w.heap.size + 1, 2, none⟩ = false := free_at R4.out 2
  have o3 : w4.cell? ⟨w.heap.size + 1 + 1, 3, none⟩ = some (.int .i64 e3) := cell_at O4.out rfl
  have r3 : w4.cell? ⟨w.heap.size + 1, 3, none⟩ = some (.int .i64 0) := cell_at R4.out rfl
  have f3 : w4.frozen? ⟨w.heap.size + 1, 3, none⟩ = false := free_at R4.out 3
  have o4 : w4.cell? ⟨w.heap.size + 1 + 1, 4, none⟩ = some (.int .i64 e4) := cell_at O4.out rfl
  have r4 : w4.cell? ⟨w.heap.size + 1, 4, none⟩ = some (.int .i64 0) := cell_at R4.out rfl
  have f4 : w4.frozen? ⟨w.heap.size + 1, 4, none⟩ = false := free_at R4.out 4
  have o5 : w4.cell? ⟨w.heap.size + 1 + 1, 5, none⟩ = some (.slice none 0 0) := cell_at O4.out rfl
  have r5 : w4.cell? ⟨w.heap.size + 1, 5, none⟩ = some (.slice none 0 0) := cell_at R4.out rfl
  have f5 : w4.frozen? ⟨w.heap.size + 1, 5, none⟩ = false := free_at R4.out 5
  have g5 : w4.frozen? ⟨w.heap.size + 1 + 1, 5, none⟩ = false := free_at O4.out 5
  have HR : Hid ((((((((w4.setCell ⟨w.heap.size + 1 + 1, 5, none⟩ (.slice xa2 l.length xc2)).setCell ⟨w.heap.size + 1, 0, none⟩ (.int .i64 e0)).setCell ⟨w.heap.size + 1, 1, none⟩ (.int .i64 e1)).setCell ⟨w.heap.size + 1, 2, none⟩ (.int .i64 e2)).setCell ⟨w.heap.size + 1, 3, none⟩ (.int .i64 e3)).setCell ⟨w.heap.size + 1, 4, none⟩ (.int .i64 e4)).setCell ⟨w.heap.size + 1, 5, none⟩ (.slice xa2 l.length xc2)).heap[w.heap.size + 1]? = some (.cells #[.int .i64 e0, .int .i64 e1, .int .i64 e2, .int .i64 e3, .int .i64 e4, .slice xa2 l.length xc2] 44 (0, 0))) := by
    refine instr_stored (x0 := .int .i64 0) (x1 := .int .i64 0) (x2 := .int .i64 0) (x3 := .int .i64 0) (x4 := .int .i64 0) (x5 := .slice none 0 0) ?_
    rw [heap_setCell_other _ _ _ _ (by show w.heap.size + 1 ≠ w.heap.size + 1 + 1; omega)]
    exact R4.out
  go_wp2
  refine bodyPost_ret (results_instr Try.results16 _ _ (w.heap.size + 1) _ _ _ _ _ _ rfl HR.out) rfl ?_
  have L9 := LT3.out
  have WW : Win w.heap.size (w.heap.size + 1 + 1 + 1) w4 ((((((((w4.setCell ⟨w.heap.size + 1 + 1, 5, none⟩ (.slice xa2 l.length xc2)).setCell ⟨w.heap.size + 1, 0, none⟩ (.int .i64 e0)).setCell ⟨w.heap.size + 1, 1, none⟩ (.int .i64 e1)).setCell ⟨w.heap.size + 1, 2, none⟩ (.int .i64 e2)).setCell ⟨w.heap.size + 1, 3, none⟩ (.int .i64 e3)).setCell ⟨w.heap.size + 1, 4, none⟩ (.int .i64 e4)).setCell ⟨w.heap.size + 1, 5, none⟩ (.slice xa2 l.length xc2))) := (((((((Win.setCell (Win.refl _ _ _) (by omega) (by omega) _ _).setCell (by omega) (by omega) _ _).setCell (by omega) (by omega) _ _).setCell (by omega) (by omega) _ _).setCell (by omega) (by omega) _ _).setCell (by omega) (by omega) _ _).setCell (by omega) (by omega) _ _)
  refine ⟨_, _, rfl, (PP.out.win WW (.inr (Nat.le_refl _))).mono (by omega) (by simp only [size_setCell]; omega), ?_⟩
  exact below_setCell (below_setCell (below_setCell (below_setCell (below_setCell (below_setCell (below_setCell (B4.out) (by omega) _ _) (by omega) _ _) (by omega) _ _) (by omega) _ _) (by omega) _ _) (by omega) _ _) (by omega) _ _
/-- The first k of n are copied into block o. -/
def ToInsI (w0 : World) (o n k : Nat) (W : World) (E : Nat → Nat → Int) (N : Nat → List Int) : Prop :=
  ∃ (A : Array Value) (x : Nat → Value), W.heap[o]? = some (.cells A 44 (0, 0)) ∧ A.size = n * 6 ∧
    (∀ i, i < k → (A[i * 6]? = some (.int .i64 (E i 0)) ∧ A[i * 6 + 1]? = some (.int .i64 (E i 1)) ∧ A[i * 6 + 2]? = some (.int .i64 (E i 2)) ∧ A[i * 6 + 3]? = some (.int .i64 (E i 3)) ∧ A[i * 6 + 4]? = some (.int .i64 (E i 4)) ∧ A[i * 6 + 5]? = some (x i)) ∧ Piece (o + 1) W.heap.size W (x i) (N i)) ∧ Below o w0 W
section
variable {w0 W W' : World} {o n k : Nat} {E : Nat → Nat → Int} {N : Nat → List Int}
theorem ToInsI.lt (h : ToInsI w0 o n k W E N) : o < W.heap.size := by obtain ⟨A, _, h1, _⟩ := h; exact lt_of_heapA h1
theorem ToInsI.below (h : ToInsI w0 o n k W E N) : Below o w0 W := by obtain ⟨_, _, _, _, _, q⟩ := h; exact q
theorem ToInsI.keep (h : ToInsI w0 o n k W E N) (hb : Below W.heap.size W W') : ToInsI w0 o n k W' E N := by
  have hl := h.lt
  obtain ⟨A, x, h1, h2, h3, h4⟩ := h
  refine ⟨A, x, by rw [hb.block o hl]; exact h1, h2, fun i hi => ?_, h4.trans (hb.mono (Nat.le_of_lt hl))⟩
  obtain ⟨q1, q2⟩ := h3 i hi
  exact ⟨q1, (q2.keep hb).mono (Nat.le_refl _) hb.size⟩
theorem ToInsI.cells (h : ToInsI w0 o n k W E N) (hk : k < n) : ((∃ u, W.cell? ⟨o, k * 6, none⟩ = some u) ∧ (∃ u, W.cell? ⟨o, k * 6 + 1, none⟩ = some u) ∧ (∃ u, W.cell? ⟨o, k * 6 + 2, none⟩ = some u) ∧ (∃ u, W.cell? ⟨o, k * 6 + 3, none⟩ = some u) ∧ (∃ u, W.cell? ⟨o, k * 6 + 4, none⟩ = some u) ∧ (∃ u, W.cell? ⟨o, k * 6 + 5, none⟩ = some u)) ∧ W.frozen? ⟨o, k * 6, none⟩ = false ∧ W.frozen? ⟨o, k * 6 + 1, none⟩ = false ∧ W.frozen? ⟨o, k * 6 + 2, none⟩ = false ∧ W.frozen? ⟨o, k * 6 + 3, none⟩ = false ∧ W.frozen? ⟨o, k * 6 + 4, none⟩ = false ∧ W.frozen? ⟨o, k * 6 + 5, none⟩ = false := by
  obtain ⟨A, x, h1, h2, h3, h4⟩ := h
  have g : ∀ j, j < n * 6 → ∃ u, W.cell? ⟨o, j, none⟩ = some u := fun j hj => ⟨A[j]'(by omega), cell_at h1 (Array.getElem?_eq_getElem (by omega))⟩
  exact ⟨⟨g _ (by omega), g _ (by omega), g _ (by omega), g _ (by omega), g _ (by omega), g _ (by omega)⟩, free_at h1 _, free_at h1 _, free_at h1 _, free_at h1 _, free_at h1 _, free_at h1 _⟩
theorem ToInsI.put (h : ToInsI w0 o n k W E N) (hk : k < n) {x' : Value} (px : Piece (o + 1) W.heap.size W x' (N k)) :
    ToInsI w0 o n (k + 1) ((((((W.setCell ⟨o, k * 6, none⟩ (.int .i64 (E k 0))).setCell ⟨o, k * 6 + 1, none⟩ (.int .i64 (E k 1))).setCell ⟨o, k * 6 + 2, none⟩ (.int .i64 (E k 2))).setCell ⟨o, k * 6 + 3, none⟩ (.int .i64 (E k 3))).setCell ⟨o, k * 6 + 4, none⟩ (.int .i64 (E k 4))).setCell ⟨o, k * 6 + 5, none⟩ x') E N := by
  obtain ⟨A, x, h1, h2, h3, h4⟩ := h
  have e0 := heap_setCell_same W o (k * 6) _ _ (.int .i64 (E k 0)) h1
  have e1 := heap_setCell_same _ o (k * 6 + 1) _ _ (.int .i64 (E k 1)) e0
  have e2 := heap_setCell_same _ o (k * 6 + 2) _ _ (.int .i64 (E k 2)) e1
  have e3 := heap_setCell_same _ o (k * 6 + 3) _ _ (.int .i64 (E k 3)) e2
  have e4 := heap_setCell_same _ o (k * 6 + 4) _ _ (.int .i64 (E k 4)) e3
  have e5 := heap_setCell_same _ o (k * 6 + 5) _ _ x' e4
  have ww : Win o (o + 1) W ((((((W.setCell ⟨o, k * 6, none⟩ (.int .i64 (E k 0))).setCell ⟨o, k * 6 + 1, none⟩ (.int .i64 (E k 1))).setCell ⟨o, k * 6 + 2, none⟩ (.int .i64 (E k 2))).setCell ⟨o, k * 6 + 3, none⟩ (.int .i64 (E k 3))).setCell ⟨o, k * 6 + 4, none⟩ (.int .i64 (E k 4))).setCell ⟨o, k * 6 + 5, none⟩ x') := ((((((win_setCell _ _ _ _).trans (win_setCell _ _ _ _)).trans (win_setCell _ _ _ _)).trans (win_setCell _ _ _ _)).trans (win_setCell _ _ _ _)).trans (win_setCell _ _ _ _))
  have sz : ((((((W.setCell ⟨o, k * 6, none⟩ (.int .i64 (E k 0))).setCell ⟨o, k * 6 + 1, none⟩ (.int .i64 (E k 1))).setCell ⟨o, k * 6 + 2, none⟩ (.int .i64 (E k 2))).setCell ⟨o, k * 6 + 3, none⟩ (.int .i64 (E k 3))).setCell ⟨o, k * 6 + 4, none⟩ (.int .i64 (E k 4))).setCell ⟨o, k * 6 + 5, none⟩ x').heap.size = W.heap.size := by simp only [size_setCell]
  refine ⟨_, fun i => if i = k then x' else x i, e5, by simpa using h2, fun i hi => ?_, below_setCell (below_setCell (below_setCell (below_setCell (below_setCell (below_setCell (h4) (Nat.le_refl _) _ _) (Nat.le_refl _) _ _) (Nat.le_refl _) _ _) (Nat.le_refl _) _ _) (Nat.le_refl _) _ _) (Nat.le_refl _) _ _⟩
  rw [sz]
  by_cases e : i = k
  · rw [e]
    simp only [if_true]
    refine ⟨⟨?_, ?_, ?_, ?_, ?_, ?_⟩, px.win ww (.inr (Nat.le_refl _))⟩
    · rw [Array.getElem?_setIfInBounds, if_neg (by omega), Array.getElem?_setIfInBounds, if_neg (by omega), Array.getElem?_setIfInBounds, if_neg (by omega), Array.getElem?_setIfInBounds, if_neg (by omega), Array.getElem?_setIfInBounds, if_neg (by omega), Array.getElem?_setIfInBounds, if_pos rfl, if_pos (by omega)]
    · rw [Array.getElem?_setIfInBounds, if_neg (by omega), Array.getElem?_setIfInBounds, if_neg (by omega), Array.getElem?_setIfInBounds, if_neg (by omega), Array.getElem?_setIfInBounds, if_neg (by omega), Array.getElem?_setIfInBounds, if_pos rfl, if_pos (by simp only [Array.size_setIfInBounds]; omega)]
    · rw [Array.getElem?_setIfInBounds, if_neg (by omega), Array.getElem?_setIfInBounds, if_neg (by omega), Array.getElem?_setIfInBounds, if_neg (by omega), Array.getElem?_setIfInBounds, if_pos rfl, if_pos (by simp only [Array.size_setIfInBounds]; omega)]
    · rw [Array.getElem?_setIfInBounds, if_neg (by omega), Array.getElem?_setIfInBounds, if_neg (by omega), Array.getElem?_setIfInBounds, if_pos rfl, if_pos (by simp only [Array.size_setIfInBounds]; omega)]
    · rw [Array.getElem?_setIfInBounds, if_neg (by omega), Array.getElem?_setIfInBounds, if_pos rfl, if_pos (by simp only [Array.size_setIfInBounds]; omega)]
    · rw [Array.getElem?_setIfInBounds, if_pos rfl, if_pos (by simp only [Array.size_setIfInBounds]; omega)]
  · obtain ⟨⟨q0, q1, q2, q3, q4, q5⟩, qz⟩ := h3 i (by omega)
    simp only [if_neg e]
    refine ⟨⟨?_, ?_, ?_, ?_, ?_, ?_⟩, qz.win ww (.inr (Nat.le_refl _))⟩
    · rw [Array.getElem?_setIfInBounds, if_neg (by omega), Array.getElem?_setIfInBounds, if_neg (by omega), Array.getElem?_setIfInBounds, if_neg (by omega), Array.getElem?_setIfInBounds, if_neg (by omega), Array.getElem?_setIfInBounds, if_neg (by omega), Array.getElem?_setIfInBounds, if_neg (by omega)]; exact q0
    · rw [Array.getElem?_setIfInBounds, if_neg (by omega), Array.getElem?_setIfInBounds, if_neg (by omega), Array.getElem?_setIfInBounds, if_neg (by omega), Array.getElem?_setIfInBounds, if_neg (by omega), Array.getElem?_setIfInBounds, if_neg (by omega), Array.getElem?_setIfInBounds, if_neg (by omega)]; exact q1
    · rw [Array.getElem?_setIfInBounds, if_neg (by omega), Array.getElem?_setIfInBounds, if_neg (by omega), Array.getElem?_setIfInBounds, if_neg (by omega), Array.getElem?_setIfInBounds, if_neg (by omega), Array.getElem?_setIfInBounds, if_neg (by omega), Array.getElem?_setIfInBounds, if_neg (by omega)]; exact q2
    · rw [Array.getElem?_setIfInBounds, if_neg (by omega), Array.getElem?_setIfInBounds, if_neg (by omega), Array.getElem?_setIfInBounds, if_neg (by omega), Array.getElem?_setIfInBounds, if_neg (by omega), Array.getElem?_setIfInBounds, if_neg (by omega), Array.getElem?_setIfInBounds, if_neg (by omega)]; exact q3
    · rw [Array.getElem?_setIfInBounds, if_neg (by omega), Array.getElem?_setIfInBounds, if_neg (by omega), Array.getElem?_setIfInBounds, if_neg (by omega), Array.getElem?_setIfInBounds, if_neg (by omega), Array.getElem?_setIfInBounds, if_neg (by omega), Array.getElem?_setIfInBounds, if_neg (by omega)]; exact q4
    · rw [Array.getElem?_setIfInBounds, if_neg (by omega), Array.getElem?_setIfInBounds, if_neg (by omega), Array.getElem?_setIfInBounds, if_neg (by omega), Array.getElem?_setIfInBounds, if_neg (by omega), Array.getElem?_setIfInBounds, if_neg (by omega), Array.getElem?_setIfInBounds, if_neg (by omega)]; exact q5
theorem ToInsI.list (h : ToInsI w0 o n n W E N) : InsI W (.slice (some ⟨o, 0, none⟩) n n) n E N := by
  have hl := h.lt
  obtain ⟨A, x, h1, h2, h3, h4⟩ := h
  refine ⟨_, _, rfl, .inr ⟨o, 0, x, rfl, hl, fun i hi => ?_⟩⟩
  obtain ⟨⟨q0, q1, q2, q3, q4, q5⟩, qz⟩ := h3 i hi
  rw [Nat.zero_add]
  exact ⟨⟨cell_at h1 q0, cell_at h1 q1, cell_at h1 q2, cell_at h1 q3, cell_at h1 q4, cell_at h1 q5⟩, qz.intsI⟩
/-- It stands, whatever is turned below it. -/
theorem ToInsI.win (h : ToInsI w0 o n n W E N) (hw : Win 0 o W W') : InsI W' (.slice (some ⟨o, 0, none⟩) n n) n E N := by
  have hl := h.lt
  obtain ⟨A, x, h1, h2, h3, h4⟩ := h
  have h1' : W'.heap[o]? = some (.cells A 44 (0, 0)) := by rw [hw.block o hl (.inr (Nat.le_refl _))]; exact h1
  refine ⟨_, _, rfl, .inr ⟨o, 0, x, rfl, lt_of_heapA h1', fun i hi => ?_⟩⟩
  obtain ⟨⟨q0, q1, q2, q3, q4, q5⟩, qz⟩ := h3 i hi
  rw [Nat.zero_add]
  exact ⟨⟨cell_at h1' q0, cell_at h1' q1, cell_at h1' q2, cell_at h1' q3, cell_at h1' q4, cell_at h1' q5⟩, (qz.win hw (.inr (Nat.le_succ _))).intsI⟩
end
theorem info_instr9 : (Try.prog.info? 44).map (fun i => (i.zero, i.size, i.bytes)) = some (some (.agg #[.int .i64 0, .int .i64 0, .int .i64 0, .int .i64 0, .int .i64 0, .slice none 0 0]), 6, 64) := by kernel_rfl
theorem make_instrN (n : Nat) (hn : n ≤ 1048576) (w : World) (E : Nat → Nat → Int) (N : Nat → List Int) : ∃ w', (Instr.makeSlice 26 (.int .i64 (n : Int)) (.int .i64 (n : Int))).run Try.prog w = .ok (.slice (some ⟨w.heap.size, 0, none⟩) n n) w' ∧ ToInsI w w.heap.size n 0 w' E N := by
  have hi := info_instr9
  cases hq : Try.prog.info? 44 with
  | none => rw [hq] at hi; cases hi
  | some i =>
    rw [hq] at hi
    simp at hi
    obtain ⟨z1, z2, z3⟩ := hi
    have q := run_make (P := Try.prog) w 26 44 i _ Try.underlying26 hq z1 .i64 .i64 (n : Int) (n : Int) (by omega) (by omega) (by rw [z3]; omega) (by omega)
    rw [z2, Int.toNat_natCast] at q
    exact ⟨_, q, _, fun _ => undef, heap_alloc_new w _, by rw [size_madeCells], fun i hi => absurd hi (by omega), bAlloc (Below.refl _ _) _⟩
set_option maxRecDepth 20000 in
set_option maxHeartbeats 8000000 in
/-- A list is copied. -/
theorem toInstrS_at {w : World} {v : Value} {n : Nat} {E : Nat → Nat → Int} {N : Nat → List Int} (h : InsI w v n E N) (hl : ∀ i, (N i).length ≤ 1048576) (hn : n ≤ 1048576) :
    Calls Try.prog 6 #[v] w fun e w' => ∃ v', e = .returned v' ∧ InsI w' v' n E N ∧ Below w.heap.size w w' ∧ ∀ W, Win 0 w.heap.size w' W → InsI W v' n E N := by
  have H : Hid (InsI w v n E N) := h
  have HL : Hid (∀ i, (N i).length ≤ 1048576) := hl
  obtain ⟨a, c, rfl, _⟩ := h
  obtain ⟨w1, r1, t1⟩ := make_instrN n hn w E N
  have T1 : Hid (ToInsI w w.heap.size n 0 w1 E N) := t1
  clear t1 hl
  go_enter Try.func6, Try.ntmps6
  go_wp2
  clear r1
  go_loopw [4] (fun i w' => ∃ k : Nat, k ≤ n ∧ i = .int .i64 (k : Int) ∧ ToInsI w w.heap.size n k w' E N) (fun i _ => n - (intOf i).toNat)
  case atStart => exact ⟨0, by omega, rfl, T1.out⟩
  case round =>
    obtain ⟨k, hk, rfl, hT⟩ := hrel
    have TK : Hid (ToInsI w w.heap.size n k wr E N) := hT
    clear hT T1
    by_cases hlt : (k : Int) < (n : Int)
    · have L : k < n := by omega
      obtain ⟨o, off, xa, xc, rfl, ho, ⟨p0, p1, p2, p3, p4, p5⟩, ar⟩ := (H.out.keep TK.out.below).at L
      have CT : Hid (Calls Try.prog 16 #[.agg #[.int .i64 (E k 0), .int .i64 (E k 1), .int .i64 (E k 2), .int .i64 (E k 3), .int .i64 (E k 4), .slice xa (N k).length xc]] wr fun e w' => ∃ xa' xc', e = .returned (.agg #[.int .i64 (E k 0), .int .i64 (E k 1), .int .i64 (E k 2), .int .i64 (E k 3), .int .i64 (E k 4), .slice xa' (N k).length xc']) ∧ Piece wr.heap.size w'.heap.size w' (.slice xa' (N k).length xc') (N k) ∧ Below wr.heap.size wr w') := toInstr_at (e := E k) ar (HL.out k)
      have PUT : Hid (∀ (W : World) (x' : Value), Below wr.heap.size wr W → Piece wr.heap.size W.heap.size W x' (N k) → ToInsI w w.heap.size n (k + 1) ((((((W.setCell ⟨w.heap.size, k * 6, none⟩ (.int .i64 (E k 0))).setCell ⟨w.heap.size, k * 6 + 1, none⟩ (.int .i64 (E k 1))).setCell ⟨w.heap.size, k * 6 + 2, none⟩ (.int .i64 (E k 2))).setCell ⟨w.heap.size, k * 6 + 3, none⟩ (.int .i64 (E k 3))).setCell ⟨w.heap.size, k * 6 + 4, none⟩ (.int .i64 (E k 4))).setCell ⟨w.heap.size, k * 6 + 5, none⟩ x') E N) := fun W x' hb hA => by
        have hl := TK.out.lt
        exact (TK.out.keep hb).put L (hA.mono (by omega) (Nat.le_refl _))
      clear ar ho
      generalize (N k).length = sl at *
      generalize E k 0 = q0 at *
      generalize E k 1 = q1 at *
      generalize E k 2 = q2 at *
      generalize E k 3 = q3 at *
      generalize E k 4 = q4 at *
      go_wp2_with fail
      refine CT.out.mono ?_
      rintro r w2 ⟨xa2, xc2, rfl, hA, hb⟩
      have T3 : Hid (ToInsI w w.heap.size n (k + 1) ((((((w2.setCell ⟨w.heap.size, k * 6, none⟩ (.int .i64 q0)).setCell ⟨w.heap.size, k * 6 + 1, none⟩ (.int .i64 q1)).setCell ⟨w.heap.size, k * 6 + 2, none⟩ (.int .i64 q2)).setCell ⟨w.heap.size, k * 6 + 3, none⟩ (.int .i64 q3)).setCell ⟨w.heap.size, k * 6 + 4, none⟩ (.int .i64 q4)).setCell ⟨w.heap.size, k * 6 + 5, none⟩ (.slice xa2 sl xc2)) E N) := PUT.out _ _ hb hA
      obtain ⟨⟨⟨u0, c0⟩, ⟨u1, c1⟩, ⟨u2, c2⟩, ⟨u3, c3⟩, ⟨u4, c4⟩, ⟨u5, c5⟩⟩, f0, f1, f2, f3, f4, f5⟩ := (TK.out.keep hb).cells L
      clear hA hb
      go_wp2
      go_roundw
      case rel => exact ⟨k + 1, by omega, by go_num, T3.out⟩
      case measure => simp [intOf]; omega
    · obtain rfl : k = n := by omega
      go_wp2
      go_ret
      exact ⟨_, rfl, TK.out.list, TK.out.below, fun W hw => TK.out.win hw⟩
end Go.Proofs.Ytpommfkbkknjaaa
