/-
  Walks: a list of letters is copied into memory of its own.
-/
import Derived.Test.YtmknleholglhbaaVarsQ
namespace Go.Proofs.Ytmknleholglhbaa
open Go.RowKit Go.Shelf
set_option linter.unusedVariables false
set_option linter.unusedSimpArgs false
theorem var_loaded {w : World} {g : Nat} {x y z : Value} (h : w.heap[g]? = some (.cells #[x, y, z] 44 (0, 0))) : (loadVar 44 ⟨g, 0, none⟩).run Try.prog w = .ok (.agg #[x, y, z]) w := by
  have c0 : w.cell? ⟨g, 0, none⟩ = some x := cell_at h rfl
  have c1 : w.cell? ⟨g, 1, none⟩ = some y := cell_at h rfl
  have c2 : w.cell? ⟨g, 2, none⟩ = some z := cell_at h rfl
  simp [loadVar, go_sem, c0, c1, c2]
theorem results_var {fn : Func} {p : Tmp} (h : fn.results = #[.cell p 44]) (tmps : Array Value) (w : World) (g : Nat) (x y z : Value) (hp : tmps.getD p undef = .pointer (some ⟨g, 0, none⟩))
    (hg : w.heap[g]? = some (.cells #[x, y, z] 44 (0, 0))) : (results fn tmps).run Try.prog w = .ok (.agg #[x, y, z]) w := by
  have e : (asAddr (.pointer (some ⟨g, 0, none⟩))).run Try.prog w = .ok ⟨g, 0, none⟩ w := by simp [asAddr]
  have l := var_loaded hg
  have hp' : tmps[p]?.getD undef = .pointer (some ⟨g, 0, none⟩) := by simpa using hp
  simp [results, h, hp', e, l, Sem.run_bind, Result.andThen]
theorem var_stored {w : World} {g : Nat} {x y z x' y' z' : Value} {t : TypeId} (h : w.heap[g]? = some (.cells #[x, y, z] t (0, 0))) : (((w.setCell ⟨g, 0, none⟩ x').setCell ⟨g, 1, none⟩ y').setCell ⟨g, 2, none⟩ z').heap[g]? = some (.cells #[x', y', z'] t (0, 0)) := by
  have h1 := heap_setCell_same w g 0 _ _ x' h
  have h2 := heap_setCell_same _ g 1 _ _ y' h1
  have h3 := heap_setCell_same _ g 2 _ _ z' h2
  simpa using h3
theorem three (w : World) (A B C : Obj) : (((w.alloc A).alloc B).alloc C).heap[w.heap.size + 1]? = some B ∧ (((w.alloc A).alloc B).alloc C).heap[w.heap.size + 1 + 1]? = some C := by
  have e2 := heap_alloc_new (w.alloc A) B
  have e3 := heap_alloc_new ((w.alloc A).alloc B) C
  simp only [World.size_alloc] at e2 e3
  refine ⟨?_, e3⟩
  rw [heap_alloc_old _ _ (by simp only [World.size_alloc]; omega)]; exact e2
set_option maxRecDepth 20000 in
set_option maxHeartbeats 4000000 in
/-- A letter is copied. -/
theorem to_var {b : Bool} {s d : List Int} {w : World} {xa ya : Option Addr} {xc yc : Nat} (h : ArrI w (.agg #[.slice xa s.length xc, .slice ya d.length yc]) s d) (hs : s.length ≤ 1048576) (hd : d.length ≤ 1048576) :
    Calls Try.prog 15 #[.agg #[.bool b, .slice xa s.length xc, .slice ya d.length yc]] w fun e w' => ∃ xa' xc' ya' yc', e = .returned (.agg #[.bool b, .slice xa' s.length xc', .slice ya' d.length yc']) ∧ Arr w.heap.size w'.heap.size w' (.agg #[.slice xa' s.length xc', .slice ya' d.length yc']) s d ∧ Below w.heap.size w w' := by
  have H : Hid (ArrI w (.agg #[.slice xa s.length xc, .slice ya d.length yc]) s d) := h
  have HL : Hid (s.length ≤ 1048576 ∧ d.length ≤ 1048576) := ⟨hs, hd⟩
  clear h
  go_enter Try.func15, Try.ntmps15
  go_wp2_with fail
  refine (to_arr (H.out.keep (bAlloc (bAlloc (bAlloc (Below.refl _ _) _) _) _)) HL.out.1 HL.out.2).mono ?_
  rintro r w2 ⟨v2, rfl, ha, hb⟩
  obtain ⟨xa2, xc2, ya2, yc2, rfl, _, _, _, _⟩ := ha.arrI
  have HB2 : Hid (Below w.heap.size w w2) := bTrans (bAlloc (bAlloc (bAlloc (Below.refl _ _) _) _) _) hb
  have q := three w (.cells #[.bool b, .slice xa s.length xc, .slice ya d.length yc] 40) (.cells #[.bool false, .slice none 0 0, .slice none 0 0] 44) (.cells #[.bool b, .slice none 0 0, .slice none 0 0] 44)
  have R2 : Hid (w2.heap[w.heap.size + 1]? = some (.cells #[.bool false, .slice none 0 0, .slice none 0 0] 44 (0, 0))) := by show _ = _; rw [hb.block _ (by simp)]; exact q.1
  have O2 : Hid (w2.heap[w.heap.size + 1 + 1]? = some (.cells #[.bool b, .slice none 0 0, .slice none 0 0] 44 (0, 0))) := by show _ = _; rw [hb.block _ (by simp)]; exact q.2
  have HA : Hid (Arr (w.heap.size + 1 + 1 + 1) w2.heap.size w2 (.agg #[.slice xa2 s.length xc2, .slice ya2 d.length yc2]) s d) := ha.mono (by simp) (Nat.le_refl _)
  have LT : Hid (w.heap.size + 1 + 1 < w2.heap.size) := lt_of_heapA O2.out
  clear ha hb q
  have r0 : w2.cell? ⟨w.heap.size + 1, 0, none⟩ = some (.bool false) := cell_at R2.out rfl
  have r1 : w2.cell? ⟨w.heap.size + 1, 1, none⟩ = some (.slice none 0 0) := cell_at R2.out rfl
  have r2 : w2.cell? ⟨w.heap.size + 1, 2, none⟩ = some (.slice none 0 0) := cell_at R2.out rfl
  have o0 : w2.cell? ⟨w.heap.size + 1 + 1, 0, none⟩ = some (.bool b) := cell_at O2.out rfl
  have o1 : w2.cell? ⟨w.heap.size + 1 + 1, 1, none⟩ = some (.slice none 0 0) := cell_at O2.out rfl
  have o2 : w2.cell? ⟨w.heap.size + 1 + 1, 2, none⟩ = some (.slice none 0 0) := cell_at O2.out rfl
  have f0 : w2.frozen? ⟨w.heap.size + 1, 0, none⟩ = false := free_at R2.out 0
  have f1 : w2.frozen? ⟨w.heap.size + 1, 1, none⟩ = false := free_at R2.out 1
  have f2 : w2.frozen? ⟨w.heap.size + 1, 2, none⟩ = false := free_at R2.out 2
  have g1 : w2.frozen? ⟨w.heap.size + 1 + 1, 1, none⟩ = false := free_at O2.out 1
  have g2 : w2.frozen? ⟨w.heap.size + 1 + 1, 2, none⟩ = false := free_at O2.out 2
  have HR : Hid ((((((w2.setCell ⟨w.heap.size + 1 + 1, 1, none⟩ (.slice xa2 s.length xc2)).setCell ⟨w.heap.size + 1 + 1, 2, none⟩ (.slice ya2 d.length yc2)).setCell ⟨w.heap.size + 1, 0, none⟩ (.bool b)).setCell ⟨w.heap.size + 1, 1, none⟩ (.slice xa2 s.length xc2)).setCell ⟨w.heap.size + 1, 2, none⟩ (.slice ya2 d.length yc2)).heap[w.heap.size + 1]? = some (.cells #[.bool b, .slice xa2 s.length xc2, .slice ya2 d.length yc2] 44 (0, 0))) := by
    refine var_stored (x := .bool false) (y := .slice none 0 0) (z := .slice none 0 0) ?_
    rw [heap_setCell_other _ _ _ _ (by show w.heap.size + 1 ≠ w.heap.size + 1 + 1; omega), heap_setCell_other _ _ _ _ (by show w.heap.size + 1 ≠ w.heap.size + 1 + 1; omega)]
    exact R2.out
  go_wp2
  refine bodyPost_ret (results_var Try.results15 _ _ (w.heap.size + 1) _ _ _ rfl HR.out) rfl ?_
  have L := LT.out
  refine ⟨_, _, _, _, rfl, ?_, below_setCell (below_setCell (below_setCell (below_setCell (below_setCell HB2.out (by omega) _ _) (by omega) _ _) (by omega) _ _) (by omega) _ _) (by omega) _ _⟩
  exact (((((HA.out.setCell (by omega) _ _).setCell (by omega) _ _).setCell (by omega) _ _).setCell (by omega) _ _).setCell (by omega) _ _).mono (by omega) (by simp only [size_setCell]; omega)
/-- The first k of n letters are copied into block o. -/
def ToV (w0 : World) (o n k : Nat) (W : World) (B : Nat → Bool) (S D : Nat → List Int) : Prop :=
  ∃ (A : Array Value) (x y : Nat → Value), W.heap[o]? = some (.cells A 44 (0, 0)) ∧ A.size = n * 3 ∧
    (∀ i, i < k → A[i * 3]? = some (.bool (B i)) ∧ A[i * 3 + 1]? = some (x i) ∧ A[i * 3 + 2]? = some (y i) ∧ Piece (o + 1) W.heap.size W (x i) (S i) ∧ Piece (o + 1) W.heap.size W (y i) (D i)) ∧ Below o w0 W
section
variable {w0 W W' : World} {o n k : Nat} {B : Nat → Bool} {S D : Nat → List Int}
theorem ToV.lt (h : ToV w0 o n k W B S D) : o < W.heap.size := by obtain ⟨A, _, _, h1, _⟩ := h; exact lt_of_heapA h1
theorem ToV.keep (h : ToV w0 o n k W B S D) (hb : Below W.heap.size W W') : ToV w0 o n k W' B S D := by
  have hl := h.lt
  obtain ⟨A, x, y, h1, h2, h3, h4⟩ := h
  refine ⟨A, x, y, by rw [hb.block o hl]; exact h1, h2, fun i hi => ?_, h4.trans (hb.mono (Nat.le_of_lt hl))⟩
  obtain ⟨q1, q2, q3, q4, q5⟩ := h3 i hi
  exact ⟨q1, q2, q3, (q4.keep hb).mono (Nat.le_refl _) hb.size, (q5.keep hb).mono (Nat.le_refl _) hb.size⟩
theorem ToV.cells (h : ToV w0 o n k W B S D) (hk : k < n) : (∃ u, W.cell? ⟨o, k * 3, none⟩ = some u) ∧ (∃ u, W.cell? ⟨o, k * 3 + 1, none⟩ = some u) ∧ (∃ u, W.cell? ⟨o, k * 3 + 2, none⟩ = some u) ∧ W.frozen? ⟨o, k * 3, none⟩ = false ∧ W.frozen? ⟨o, k * 3 + 1, none⟩ = false ∧ W.frozen? ⟨o, k * 3 + 2, none⟩ = false := by
  obtain ⟨A, x, y, h1, h2, h3, h4⟩ := h
  have g : ∀ j, j < n * 3 → ∃ u, W.cell? ⟨o, j, none⟩ = some u := fun j hj => ⟨A[j]'(by omega), cell_at h1 (Array.getElem?_eq_getElem (by omega))⟩
  exact ⟨g _ (by omega), g _ (by omega), g _ (by omega), free_at h1 _, free_at h1 _, free_at h1 _⟩
theorem ToV.put (h : ToV w0 o n k W B S D) (hk : k < n) {x' y' : Value} (px : Piece (o + 1) W.heap.size W x' (S k)) (py : Piece (o + 1) W.heap.size W y' (D k)) :
    ToV w0 o n (k + 1) (((W.setCell ⟨o, k * 3, none⟩ (.bool (B k))).setCell ⟨o, k * 3 + 1, none⟩ x').setCell ⟨o, k * 3 + 2, none⟩ y') B S D := by
  obtain ⟨A, x, y, h1, h2, h3, h4⟩ := h
  have e1 := heap_setCell_same W o (k * 3) _ _ (.bool (B k)) h1
  have e2 := heap_setCell_same _ o (k * 3 + 1) _ _ x' e1
  have e3 := heap_setCell_same _ o (k * 3 + 2) _ _ y' e2
  have ww : Win o (o + 1) W (((W.setCell ⟨o, k * 3, none⟩ (.bool (B k))).setCell ⟨o, k * 3 + 1, none⟩ x').setCell ⟨o, k * 3 + 2, none⟩ y') := ((win_setCell _ _ _ _).trans (win_setCell _ _ _ _)).trans (win_setCell _ _ _ _)
  have sz : (((W.setCell ⟨o, k * 3, none⟩ (.bool (B k))).setCell ⟨o, k * 3 + 1, none⟩ x').setCell ⟨o, k * 3 + 2, none⟩ y').heap.size = W.heap.size := by simp only [size_setCell]
  refine ⟨_, fun i => if i = k then x' else x i, fun i => if i = k then y' else y i, e3, by simpa using h2, fun i hi => ?_, below_setCell (below_setCell (below_setCell h4 (Nat.le_refl _) _ _) (Nat.le_refl _) _ _) (Nat.le_refl _) _ _⟩
  rw [sz]
  by_cases e : i = k
  · rw [e]
    simp only [if_true]
    refine ⟨?_, ?_, ?_, px.win ww (.inr (Nat.le_refl _)), py.win ww (.inr (Nat.le_refl _))⟩
    · rw [Array.getElem?_setIfInBounds, if_neg (by omega), Array.getElem?_setIfInBounds, if_neg (by omega), Array.getElem?_setIfInBounds, if_pos rfl, if_pos (by omega)]
    · rw [Array.getElem?_setIfInBounds, if_neg (by omega), Array.getElem?_setIfInBounds, if_pos rfl, if_pos (by simp; omega)]
    · rw [Array.getElem?_setIfInBounds, if_pos rfl, if_pos (by simp; omega)]
  · obtain ⟨q1, q2, q3, q4, q5⟩ := h3 i (by omega)
    simp only [if_neg e]
    refine ⟨?_, ?_, ?_, q4.win ww (.inr (Nat.le_refl _)), q5.win ww (.inr (Nat.le_refl _))⟩
    · rw [Array.getElem?_setIfInBounds, if_neg (by omega), Array.getElem?_setIfInBounds, if_neg (by omega), Array.getElem?_setIfInBounds, if_neg (by omega)]; exact q1
    · rw [Array.getElem?_setIfInBounds, if_neg (by omega), Array.getElem?_setIfInBounds, if_neg (by omega), Array.getElem?_setIfInBounds, if_neg (by omega)]; exact q2
    · rw [Array.getElem?_setIfInBounds, if_neg (by omega), Array.getElem?_setIfInBounds, if_neg (by omega), Array.getElem?_setIfInBounds, if_neg (by omega)]; exact q3
theorem ToV.vars (h : ToV w0 o n n W B S D) : VarsI W (.slice (some ⟨o, 0, none⟩) n n) n B S D := by
  have hl := h.lt
  obtain ⟨A, x, y, h1, h2, h3, h4⟩ := h
  refine ⟨_, _, rfl, .inr ⟨o, 0, x, y, rfl, hl, fun i hi => ?_⟩⟩
  obtain ⟨q1, q2, q3, q4, q5⟩ := h3 i hi
  rw [Nat.zero_add]
  exact ⟨cell_at h1 q1, cell_at h1 q2, cell_at h1 q3, q4.intsI, q5.intsI⟩
end
theorem info_var9 : (Try.prog.info? 44).map (fun i => (i.zero, i.size, i.bytes)) = some (some (.agg #[.bool false, .slice none 0 0, .slice none 0 0]), 3, 56) := by kernel_rfl
theorem make_varsN (n : Nat) (hn : n ≤ 1048576) (w : World) (B : Nat → Bool) (S D : Nat → List Int) : ∃ w', (Instr.makeSlice 25 (.int .i64 (n : Int)) (.int .i64 (n : Int))).run Try.prog w = .ok (.slice (some ⟨w.heap.size, 0, none⟩) n n) w' ∧ ToV w w.heap.size n 0 w' B S D := by
  have hi := info_var9
  cases hq : Try.prog.info? 44 with
  | none => rw [hq] at hi; cases hi
  | some i =>
    rw [hq] at hi
    simp at hi
    obtain ⟨z1, z2, z3⟩ := hi
    have q := run_make (P := Try.prog) w 25 44 i _ Try.underlying25 hq z1 .i64 .i64 (n : Int) (n : Int) (by omega) (by omega) (by rw [z3]; omega) (by omega)
    rw [z2, Int.toNat_natCast] at q
    exact ⟨_, q, _, fun _ => undef, fun _ => undef, heap_alloc_new w _, by rw [size_madeCells], fun i hi => absurd hi (by omega), bAlloc (Below.refl _ _) _⟩
set_option maxRecDepth 20000 in
set_option maxHeartbeats 4000000 in
/-- A list of letters is copied. -/
theorem to_vars {w : World} {v : Value} {n : Nat} {B : Nat → Bool} {S D : Nat → List Int} (h : VarsI w v n B S D) (hl : ∀ i, (S i).length ≤ 1048576 ∧ (D i).length ≤ 1048576) (hn : n ≤ 1048576) :
    Calls Try.prog 6 #[v] w fun e w' => ∃ v', e = .returned v' ∧ VarsI w' v' n B S D ∧ Below w.heap.size w w' := by
  have H : Hid (VarsI w v n B S D) := h
  have HL : Hid (∀ i, (S i).length ≤ 1048576 ∧ (D i).length ≤ 1048576) := hl
  obtain ⟨a, c, rfl, _⟩ := h
  obtain ⟨w1, r1, t1⟩ := make_varsN n hn w B S D
  have T1 : Hid (ToV w w.heap.size n 0 w1 B S D) := t1
  clear t1 hl
  go_enter Try.func6, Try.ntmps6
  go_wp2
  clear r1
  go_loopw [4] (fun i w' => ∃ k : Nat, k ≤ n ∧ i = .int .i64 (k : Int) ∧ ToV w w.heap.size n k w' B S D) (fun i _ => n - (intOf i).toNat)
  case atStart => exact ⟨0, by omega, rfl, T1.out⟩
  case round =>
    obtain ⟨k, hk, rfl, hT⟩ := hrel
    have TK : Hid (ToV w w.heap.size n k wr B S D) := hT
    clear hT T1
    by_cases hlt : (k : Int) < (n : Int)
    · have L : k < n := by omega
      have BW : Hid (Below w.heap.size w wr) := by obtain ⟨_, _, _, _, _, _, q⟩ := TK.out; exact q
      obtain ⟨o, off, xa, xc, ya, yc, rfl, ho, p0, p1, p2, ar⟩ := (H.out.keep BW.out).at L
      have CT : Hid (Calls Try.prog 15 #[.agg #[.bool (B k), .slice xa (S k).length xc, .slice ya (D k).length yc]] wr fun e w' => ∃ xa' xc' ya' yc', e = .returned (.agg #[.bool (B k), .slice xa' (S k).length xc', .slice ya' (D k).length yc']) ∧ Arr wr.heap.size w'.heap.size w' (.agg #[.slice xa' (S k).length xc', .slice ya' (D k).length yc']) (S k) (D k) ∧ Below wr.heap.size wr w') := to_var ar (HL.out k).1 (HL.out k).2
      have PUT : Hid (∀ (W : World) (x' y' : Value), Below wr.heap.size wr W → Arr wr.heap.size W.heap.size W (.agg #[x', y']) (S k) (D k) → ToV w w.heap.size n (k + 1) (((W.setCell ⟨w.heap.size, k * 3, none⟩ (.bool (B k))).setCell ⟨w.heap.size, k * 3 + 1, none⟩ x').setCell ⟨w.heap.size, k * 3 + 2, none⟩ y') B S D) := fun W x' y' hb hA => by
        obtain ⟨x9, y9, ev, px, py, _⟩ := hA
        cases ev
        have hl := TK.out.lt
        exact (TK.out.keep hb).put L (px.mono (by omega) (Nat.le_refl _)) (py.mono (by omega) (Nat.le_refl _))
      clear ar ho
      generalize (S k).length = sl at *
      generalize (D k).length = dl at *
      generalize B k = bk at *
      go_wp2_with fail
      refine CT.out.mono ?_
      rintro r w2 ⟨xa2, xc2, ya2, yc2, rfl, hA, hb⟩
      have T3 : Hid (ToV w w.heap.size n (k + 1) (((w2.setCell ⟨w.heap.size, k * 3, none⟩ (.bool bk)).setCell ⟨w.heap.size, k * 3 + 1, none⟩ (.slice xa2 sl xc2)).setCell ⟨w.heap.size, k * 3 + 2, none⟩ (.slice ya2 dl yc2)) B S D) := PUT.out _ _ _ hb hA
      obtain ⟨⟨u0, c0⟩, ⟨u1, c1⟩, ⟨u2, c2⟩, f0, f1, f2⟩ := (TK.out.keep hb).cells L
      clear hA hb
      go_wp2
      go_roundw
      case rel => exact ⟨k + 1, by omega, by go_num, T3.out⟩
      case measure => simp [intOf]; omega
    · obtain rfl : k = n := by omega
      have BW : Hid (Below w.heap.size w wr) := by obtain ⟨_, _, _, _, _, _, q⟩ := TK.out; exact q
      go_wp2
      go_ret
      exact ⟨_, rfl, TK.out.vars, BW.out⟩
end Go.Proofs.Ytmknleholglhbaa
