/-
  Heaps: told by value; in memory of their own; copied, compared, marked and looked at; how great one is.
-/
import Derived.Test.YtmmjidhpmbcoiaaCellT
namespace Go.Proofs.Ytmmjidhpmbcoiaa
open Go.RowKit
set_option linter.unusedVariables false
set_option linter.unusedSimpArgs false
/-- A heap, by value. -/
def HI (w : World) (v : Value) (W : List Int) (t : Int) (n : Nat) (E : Nat → Cel) : Prop :=
  ∃ wa wc ca cc, v = .agg #[.slice wa W.length wc, .int .i64 t, .slice ca n cc] ∧ Ints w wa W ∧ W.length ≤ wc ∧ CsA w ca n E ∧ n ≤ cc
/-- A heap in memory of its own, from B on and below C. -/
def HP (B C : Nat) (w : World) (v : Value) (W : List Int) (t : Int) (n : Nat) (E : Nat → Cel) : Prop :=
  ∃ x z M, v = .agg #[x, .int .i64 t, z] ∧ B ≤ M ∧ M ≤ C ∧ Piece B M w x W ∧ CPiece M C w z n E
section
variable {w w' : World} {v : Value} {W : List Int} {t : Int} {n : Nat} {E : Nat → Cel} {B C : Nat}
theorem HI.keep (h : HI w v W t n E) (hb : Below w.heap.size w w') : HI w' v W t n E := by
  obtain ⟨wa, wc, ca, cc, e, h1, h2, h3, h4⟩ := h
  exact ⟨wa, wc, ca, cc, e, h1.keep hb, h2, h3.keep hb, h4⟩
theorem HP.hi (h : HP B C w v W t n E) : HI w v W t n E := by
  obtain ⟨x, z, M, rfl, _, _, h1, h2⟩ := h
  obtain ⟨wa, wc, rfl, g1, i1⟩ := h1.intsC
  obtain ⟨ca, cc, rfl, g2, i2⟩ := h2.csI
  exact ⟨wa, wc, ca, cc, rfl, i1, g1, i2, g2⟩
theorem HP.form (h : HP B C w v W t n E) : ∃ xa xc za zc, v = .agg #[.slice xa W.length xc, .int .i64 t, .slice za n zc] := by
  obtain ⟨wa, wc, ca, cc, e, _⟩ := h.hi
  exact ⟨wa, wc, ca, cc, e⟩
theorem HP.keep (h : HP B C w v W t n E) (hb : Below w.heap.size w w') : HP B C w' v W t n E := by
  obtain ⟨x, z, M, e, m1, m2, h1, h2⟩ := h
  exact ⟨x, z, M, e, m1, m2, h1.keep hb, h2.keep hb⟩
theorem HP.win {B' C' : Nat} (h : HP B C w v W t n E) (hw : Win B' C' w w') (hd : C ≤ B' ∨ C' ≤ B) : HP B C w' v W t n E := by
  obtain ⟨x, z, M, e, m1, m2, h1, h2⟩ := h
  exact ⟨x, z, M, e, m1, m2, h1.win hw (by omega), h2.win hw (by omega)⟩
theorem HP.mono {B' C' : Nat} (h : HP B C w v W t n E) (hB : B' ≤ B) (hC : C ≤ C') : HP B' C' w v W t n E := by
  obtain ⟨x, z, M, e, m1, m2, h1, h2⟩ := h
  exact ⟨x, z, M, e, by omega, by omega, h1.mono hB (Nat.le_refl _), h2.mono (Nat.le_refl _) hC⟩
theorem HP.congr {E' : Nat → Cel} (h : HP B C w v W t n E) (he : ∀ i, i < n → E' i = E i) : HP B C w v W t n E' := by
  obtain ⟨x, z, M, e, m1, m2, h1, h2⟩ := h
  exact ⟨x, z, M, e, m1, m2, h1, h2.congr he⟩
theorem HP.zero (B C : Nat) (hBC : B ≤ C) (w : World) (E : Nat → Cel) : HP B C w (.agg #[.slice none 0 0, .int .i64 0, .slice none 0 0]) [] 0 0 E := ⟨_, _, B, rfl, Nat.le_refl _, hBC, Piece.nil _ _ _, CPiece.nil _ _ _ _⟩
end
/-- Three cells in a block. -/
def Box3 (w : World) (g : Nat) (x y z : Value) (ty : TypeId) : Prop := w.heap[g]? = some (.cells #[x, y, z] ty (0, 0))
section
variable {w w' : World} {g : Nat} {x y z : Value} {ty : TypeId}
theorem Box3.lt (h : Box3 w g x y z ty) : g < w.heap.size := lt_of_heapA h
theorem Box3.c0 (h : Box3 w g x y z ty) : w.cell? ⟨g, 0, none⟩ = some x := cell_at h rfl
theorem Box3.c1 (h : Box3 w g x y z ty) : w.cell? ⟨g, 1, none⟩ = some y := cell_at h rfl
theorem Box3.c2 (h : Box3 w g x y z ty) : w.cell? ⟨g, 2, none⟩ = some z := cell_at h rfl
theorem Box3.free (h : Box3 w g x y z ty) (k : Nat) : w.frozen? ⟨g, k, none⟩ = false := free_at h k
theorem Box3.keep (h : Box3 w g x y z ty) (hb : Below w.heap.size w w') : Box3 w' g x y z ty := by
  have hl := h.lt
  unfold Box3 at *
  rw [hb.block g hl]; exact h
theorem Box3.win {B C : Nat} (h : Box3 w g x y z ty) (hw : Win B C w w') (hd : g < B ∨ C ≤ g) : Box3 w' g x y z ty := by
  have hl := h.lt
  unfold Box3 at *
  rw [hw.block g hl hd]; exact h
theorem Box3.set0 (h : Box3 w g x y z ty) (u : Value) : Box3 (w.setCell ⟨g, 0, none⟩ u) g u y z ty := by
  have := heap_setCell_same w g 0 _ _ u h
  unfold Box3; rw [this]; simp
theorem Box3.set1 (h : Box3 w g x y z ty) (u : Value) : Box3 (w.setCell ⟨g, 1, none⟩ u) g x u z ty := by
  have := heap_setCell_same w g 1 _ _ u h
  unfold Box3; rw [this]; simp
theorem Box3.set2 (h : Box3 w g x y z ty) (u : Value) : Box3 (w.setCell ⟨g, 2, none⟩ u) g x y u ty := by
  have := heap_setCell_same w g 2 _ _ u h
  unfold Box3; rw [this]; simp
theorem Box3.other (h : Box3 w g x y z ty) {g' o : Nat} (hn : g ≠ g') (u : Value) : Box3 (w.setCell ⟨g', o, none⟩ u) g x y z ty := h.win (win_setCell w g' o u) (by omega)
theorem box3_new (w : World) (x y z : Value) (ty : TypeId) : Box3 (w.alloc (.cells #[x, y, z] ty)) w.heap.size x y z ty := heap_alloc_new w _
theorem Box3.alloc (h : Box3 w g x y z ty) (o : Obj) : Box3 (w.alloc o) g x y z ty := h.keep (bAlloc (Below.refl _ _) o)
end
set_option maxRecDepth 20000 in
set_option maxHeartbeats 8000000 in
/-- How great a heap is. -/
theorem szHeap_at {w : World} {v : Value} {W : List Int} {t : Int} {n : Nat} {E : Nat → Cel} (h : HI w v W t n E) (hW : W.length ≤ 9223372036854775807) (hn : n ≤ 9223372036854775807) :
    Calls Try.prog 31 #[v, .int .i64 1048576] w fun e w' => e = .returned (.int .i64 (szV (W.length + n) 1048576)) ∧ Below w.heap.size w w' := by
  obtain ⟨wa, wc, ca, cc, rfl, h1, h2, h3, h4⟩ := h
  clear h1 h2 h3 h4
  generalize W.length = m at *
  by_cases h0 : 1048576 - (m : Int) < 0
  · have e0 : szV m 1048576 = -1 := by unfold szV; rw [if_pos h0]
    have e1 : szV (m + n) 1048576 = -1 := by unfold szV; rw [if_pos (by omega)]
    rw [e1]
    go_enter Try.func31, Try.ntmps31
    go_wp2_with fail
    refine (szInts_laws _ _ _ _ _ (by decide) (by decide) hW).mono ?_
    rintro r w2 ⟨rfl, rfl⟩
    rw [e0]
    go_wp2
    go_ret
    exact ⟨rfl, bAlloc (Below.refl _ _) _⟩
  · have e0 : szV m 1048576 = 1048576 - m := by unfold szV; rw [if_neg h0]
    have hx : ¬ (1048576 - (m : Int) < 0) := h0
    have e1 : szV n (1048576 - m) = szV (m + n) 1048576 := by unfold szV; split <;> split <;> omega
    have e2 : szV (m + n) 1048576 = -1 ∨ ¬ szV (m + n) 1048576 < 0 := by unfold szV; split <;> omega
    generalize szV (m + n) 1048576 = X at *
    have SC : Hid (∀ W, Calls Try.prog 65 #[.slice ca n cc, .int .i64 (1048576 - m)] W fun e w' => e = .returned (.int .i64 X) ∧ w' = W) := fun W => by
      have := szCellS_at ca n cc (1048576 - m) W (by omega) (by omega) hn
      rw [e1] at this
      exact this
    generalize hy : 1048576 - (m : Int) = Y at *
    go_enter Try.func31, Try.ntmps31
    go_wp2_with fail
    refine (szInts_laws _ _ _ _ _ (by decide) (by decide) hW).mono ?_
    rintro r w2 ⟨rfl, rfl⟩
    rw [e0]
    go_wp2_with fail
    refine (SC.out _).mono ?_
    rintro r w2 ⟨rfl, rfl⟩
    rcases e2 with rfl | e2
    · go_wp2
      go_ret
      exact ⟨rfl, bAlloc (Below.refl _ _) _⟩
    · go_wp2
      go_ret
      exact ⟨rfl, bAlloc (Below.refl _ _) _⟩
set_option maxRecDepth 20000 in
set_option maxHeartbeats 8000000 in
/-- A heap is copied: the copy is its own. -/
theorem toHeap_own {w : World} {v : Value} {W : List Int} {t : Int} {n : Nat} {E : Nat → Cel} (h : HI w v W t n E) (hW : W.length ≤ 1048576) (hn : n ≤ 1048576) :
    Calls Try.prog 33 #[v] w fun e w' => ∃ v', e = .returned v' ∧ HP w.heap.size w'.heap.size w' v' W t n E ∧ Below w.heap.size w w' := by
  obtain ⟨wa, wc, ca, cc, rfl, h1, h2, h3, h4⟩ := h
  have H1 : Hid (Ints w wa W) := h1
  have H3 : Hid (CsA w ca n E) := h3
  have HN : Hid (n ≤ 1048576) := hn
  have HW : Hid (W.length ≤ 1048576) := hW
  have H4 : Hid (n ≤ cc) := h4
  clear h1 h2 h3 h4
  go_enter Try.func33, Try.ntmps33
  go_wp2_with fail
  refine (to_ints wc HW.out (((H1.out.alloc _).alloc _).alloc _)).mono ?_
  rintro e w1 ⟨rfl, hw⟩
  have S1 : w1.heap.size = w.heap.size + 1 + 1 + 1 + 1 := by rw [hw]; simp
  have X : Hid (Box3 w1 w.heap.size (.slice wa W.length wc) (.int .i64 t) (.slice ca n cc) 53) := by rw [hw]; exact (((box3_new _ _ _ _ _).alloc _).alloc _).alloc _
  have Y : Hid (Box3 w1 (w.heap.size + 1) (.slice none 0 0) (.int .i64 0) (.slice none 0 0) 28) := by
    have := ((box3_new (w.alloc (.cells #[.slice wa W.length wc, .int .i64 t, .slice ca n cc] 53)) (.slice none 0 0) (.int .i64 0) (.slice none 0 0) 28).alloc (.cells #[.slice none 0 0, .int .i64 0, .slice none 0 0] 28)).alloc (.cells (vals W) 3)
    show Box3 _ _ _ _ _ _
    rw [hw]; simpa using this
  have Z : Hid (Box3 w1 (w.heap.size + 1 + 1) (.slice none 0 0) (.int .i64 0) (.slice none 0 0) 28) := by
    have := (box3_new ((w.alloc (.cells #[.slice wa W.length wc, .int .i64 t, .slice ca n cc] 53)).alloc (.cells #[.slice none 0 0, .int .i64 0, .slice none 0 0] 28)) (.slice none 0 0) (.int .i64 0) (.slice none 0 0) 28).alloc (.cells (vals W) 3)
    show Box3 _ _ _ _ _ _
    rw [hw]; simpa using this
  have O : Hid (OwnInts w1 (w.heap.size + 1 + 1 + 1) W) := by
    have := ownInts_new (((w.alloc (.cells #[.slice wa W.length wc, .int .i64 t, .slice ca n cc] 53)).alloc (.cells #[.slice none 0 0, .int .i64 0, .slice none 0 0] 28)).alloc (.cells #[.slice none 0 0, .int .i64 0, .slice none 0 0] 28)) W
    show OwnInts _ _ _
    rw [hw]; simpa using this
  have B1 : Hid (Below w.heap.size w w1) := by rw [hw]; exact bAlloc (bAlloc (bAlloc (bAlloc (Below.refl _ _) _) _) _) _
  clear hw
  have x1 := X.out.c1
  have x2 := X.out.c2
  have z0 := Z.out.c0
  have z1 := Z.out.c1
  have f0 := Z.out.free 0
  have f1 := Z.out.free 1
  go_wp2_with fail
  clear x1 x2 z0 z1 f0 f1
  generalize hW2 : (w1.setCell ⟨w.heap.size + 1 + 1, 0, none⟩ (.slice (some ⟨w.heap.size + 1 + 1 + 1, 0, none⟩) W.length W.length)).setCell ⟨w.heap.size + 1 + 1, 1, none⟩ (.int .i64 t) = w2
  have S2 : w2.heap.size = w1.heap.size := by rw [← hW2]; simp [World.setCell]
  have WW : Win (w.heap.size + 1 + 1) (w.heap.size + 1 + 1 + 1) w1 w2 := by rw [← hW2]; exact (win_setCell _ _ _ _).trans (win_setCell _ _ _ _)
  have Z2 : Hid (Box3 w2 (w.heap.size + 1 + 1) (.slice (some ⟨w.heap.size + 1 + 1 + 1, 0, none⟩) W.length W.length) (.int .i64 t) (.slice none 0 0) 28) := by rw [← hW2]; exact (Z.out.set0 _).set1 _
  have Y2 : Hid (Box3 w2 (w.heap.size + 1) (.slice none 0 0) (.int .i64 0) (.slice none 0 0) 28) := Y.out.win WW (by omega)
  have O2 : Hid (OwnInts w2 (w.heap.size + 1 + 1 + 1) W) := by show w2.heap[_]? = _; rw [WW.block _ (by omega) (by omega)]; exact O.out
  have B2 : Hid (Below w.heap.size w w2) := by rw [← hW2]; exact below_setCell (below_setCell B1.out (by omega) _ _) (by omega) _ _
  clear hW2 WW X Y Z O
  refine (toCellS_piece ⟨ca, cc, rfl, H4.out, H3.out.keep B2.out⟩ HN.out).mono ?_
  rintro r w3 ⟨a3, c3, rfl, hP, hb⟩
  have S3 := hb.size
  have Z3 : Hid (Box3 w3 (w.heap.size + 1 + 1) (.slice (some ⟨w.heap.size + 1 + 1 + 1, 0, none⟩) W.length W.length) (.int .i64 t) (.slice none 0 0) 28) := Z2.out.keep hb
  have Y3 : Hid (Box3 w3 (w.heap.size + 1) (.slice none 0 0) (.int .i64 0) (.slice none 0 0) 28) := Y2.out.keep hb
  have P3 : Hid (Piece (w.heap.size + 1 + 1 + 1) (w.heap.size + 1 + 1 + 1 + 1) w3 (.slice (some ⟨w.heap.size + 1 + 1 + 1, 0, none⟩) W.length W.length) W) := (O2.out.piece (Nat.le_refl _) (Nat.lt_succ_self _) _ (Nat.le_refl _)).keep hb
  have Q3 : Hid (CPiece w2.heap.size w3.heap.size w3 (.slice a3 n c3) n E) := hP
  have B3 : Hid (Below w.heap.size w w3) := bTrans B2.out hb
  clear hb hP
  have z0 := Z3.out.c0
  have z1 := Z3.out.c1
  have z2 := Z3.out.c2
  have g2 := Z3.out.free 2
  have y0 := Y3.out.c0
  have y1 := Y3.out.c1
  have y2 := Y3.out.c2
  have f0 := Y3.out.free 0
  have f1 := Y3.out.free 1
  have f2 := Y3.out.free 2
  go_wp2
  clear y0 y1 y2 z0 z1 z2 f0 f1 f2 g2
  generalize hW4 : (((w3.setCell ⟨w.heap.size + 1 + 1, 2, none⟩ (.slice a3 n c3)).setCell ⟨w.heap.size + 1, 0, none⟩ (.slice (some ⟨w.heap.size + 1 + 1 + 1, 0, none⟩) W.length W.length)).setCell ⟨w.heap.size + 1, 1, none⟩ (.int .i64 t)).setCell ⟨w.heap.size + 1, 2, none⟩ (.slice a3 n c3) = w4
  have Y4 : Box3 w4 (w.heap.size + 1) (.slice (some ⟨w.heap.size + 1 + 1 + 1, 0, none⟩) W.length W.length) (.int .i64 t) (.slice a3 n c3) 28 := by rw [← hW4]; exact (((Y3.out.other (by omega) _).set0 _).set1 _).set2 _
  have WW : Hid (Win (w.heap.size + 1) (w.heap.size + 1 + 1 + 1) w3 w4) := by rw [← hW4]; exact ((((Win.refl _ _ _).setCell (by omega) (by omega) _ _).setCell (by omega) (by omega) _ _).setCell (by omega) (by omega) _ _).setCell (by omega) (by omega) _ _
  have B4 : Hid (Below w.heap.size w w4) := by rw [← hW4]; exact below_setCell (below_setCell (below_setCell (below_setCell B3.out (by omega) _ _) (by omega) _ _) (by omega) _ _) (by omega) _ _
  have y0 := Y4.c0
  have y1 := Y4.c1
  have y2 := Y4.c2
  clear hW4 Y4
  refine bodyPost_ret (v := .agg #[.slice (some ⟨w.heap.size + 1 + 1 + 1, 0, none⟩) W.length W.length, .int .i64 t, .slice a3 n c3]) (by simp [results, Try.results33, go_sem, y0, y1, y2]) rfl ?_
  exact ⟨_, rfl, ⟨_, _, w2.heap.size, rfl, by omega, by have := WW.out.size; omega, (P3.out.win WW.out (.inr (by omega))).mono (by omega) (by omega), (Q3.out.win WW.out (.inr (by omega))).mono (Nat.le_refl _) WW.out.size⟩, B4.out⟩
set_option maxRecDepth 20000 in
set_option maxHeartbeats 8000000 in
/-- Two heaps that are the same. -/
theorem eqHeap_same {w : World} {v u : Value} {W : List Int} {t : Int} {n : Nat} {E : Nat → Cel} (h : HI w v W t n E) (k : HI w u W t n E) (hW : W.length ≤ 1048576) (hn : n ≤ 1048576) :
    Calls Try.prog 35 #[v, u] w fun e w' => e = .returned (.bool true) ∧ Below w.heap.size w w' := by
  obtain ⟨wa, wc, ca, cc, rfl, h1, h2, h3, h4⟩ := h
  obtain ⟨wa', wc', ca', cc', rfl, k1, k2, k3, k4⟩ := k
  have H1 : Hid (Ints w wa W) := h1
  have H3 : Hid (CsA w ca n E) := h3
  have K1 : Hid (Ints w wa' W) := k1
  have K3 : Hid (CsA w ca' n E) := k3
  have HN : Hid (n ≤ 1048576) := hn
  have HW : Hid (W.length ≤ 4611686018427387904) := by show _ ≤ _; omega
  clear h1 h2 h3 h4 k1 k2 k3 k4
  have tt : (t != t) = false := by simp
  go_enter Try.func35, Try.ntmps35
  go_wp2_with fail
  refine (eq_ints wc wc' HW.out ((H1.out.alloc _).alloc _) ((K1.out.alloc _).alloc _)).mono ?_
  rintro r w1 ⟨rfl, j, rfl⟩
  simp only [decide_true]
  go_wp2_with fail
  refine (eqCellS_same (H3.out.keep (bDrewN (bAlloc (bAlloc (Below.refl _ _) _) _) j)) (K3.out.keep (bDrewN (bAlloc (bAlloc (Below.refl _ _) _) _) j)) HN.out).mono ?_
  rintro r w2 ⟨rfl, hb⟩
  have B2 : Hid (Below w.heap.size w w2) := bTrans (bDrewN (bAlloc (bAlloc (Below.refl _ _) _) _) j) hb
  clear hb
  go_wp2
  go_ret
  exact ⟨rfl, B2.out⟩
set_option maxRecDepth 20000 in
set_option maxHeartbeats 8000000 in
/-- A heap is marked: its own memory turns, no other. -/
theorem markHeap_own {B C : Nat} {w : World} {v : Value} {W : List Int} {t : Int} {n : Nat} {E : Nat → Cel} (h : HP B C w v W t n E) (hC : C ≤ w.heap.size) (hW : W.length ≤ 1048576) (hn : n ≤ 1048576) (k0 : Int) (p1 : 0 ≤ k0) (p2 : k0 ≤ 1099510579200) :
    Calls Try.prog 37 #[v, .int .i64 k0] w fun e w' => e = .returned (.int .i64 (k0 + (W.length + 3 * n : Nat))) ∧ HP B C w' v (upFrom k0 W.length) t n (mkC (k0 + W.length)) ∧ Win B C w w' := by
  obtain ⟨x, z, M, rfl, m1, m2, h1, h2⟩ := h
  have H1 : Hid (Piece B M w x W) := h1
  have H2 : Hid (CPiece M C w z n E) := h2
  have HN : Hid (n ≤ 1048576) := hn
  have HW : Hid (W.length ≤ 1048576) := hW
  obtain ⟨wa, wc, rfl, _⟩ := h1
  obtain ⟨ca, cc, rfl, _⟩ := h2
  have e9 : k0 + ((W.length + 3 * n : Nat) : Int) = k0 + W.length + 3 * n := by omega
  rw [e9]
  go_enter Try.func37, Try.ntmps37
  go_wp2_with fail
  generalize hw1 : w.alloc (.cells #[.slice wa W.length wc, .int .i64 t, .slice ca n cc] 28) = w1
  have X1 : Hid (Box3 w1 w.heap.size (.slice wa W.length wc) (.int .i64 t) (.slice ca n cc) 28) := by rw [← hw1]; exact box3_new _ _ _ _ _
  have B1 : Hid (Below w.heap.size w w1) := by rw [← hw1]; exact bAlloc (Below.refl _ _) _
  have L1 := X1.out.lt
  clear hw1
  refine (mark_piece (H1.out.keep B1.out) HW.out k0 p1 (by omega)).mono ?_
  rintro r w2 ⟨rfl, hp, ho⟩
  have W2 : Hid (Win B M w1 w2) := ho.win (H1.out.keep B1.out)
  have P2 : Hid (Piece B M w2 (.slice wa W.length wc) (upFrom k0 W.length)) := hp
  have Q2 : Hid (CPiece M C w2 (.slice ca n cc) n E) := (H2.out.keep B1.out).win W2.out (.inr (Nat.le_refl _))
  have X2 : Hid (Box3 w2 w.heap.size (.slice wa W.length wc) (.int .i64 t) (.slice ca n cc) 28) := X1.out.win W2.out (by omega)
  clear hp ho
  have x2 := X2.out.c2
  go_wp2_with fail
  refine (markCellS_piece Q2.out HN.out (k0 + W.length) (by omega) (by omega)).mono ?_
  rintro r w3 ⟨rfl, hp, hw⟩
  have W3 : Hid (Win M C w2 w3) := hw
  have Q3 : Hid (CPiece M C w3 (.slice ca n cc) n (mkC (k0 + W.length))) := hp
  clear hp hw x2
  go_wp2
  go_ret
  refine ⟨rfl, ⟨_, _, M, rfl, m1, m2, P2.out.win W3.out (.inl (Nat.le_refl _)), Q3.out⟩, ?_⟩
  · have s1 := B1.out.size
    have s2 := W2.out.size
    have s3 := W3.out.size
    exact ⟨by rw [W3.out.os, W2.out.os, B1.out.os], by rw [W3.out.tape, W2.out.tape, B1.out.tape], by rw [W3.out.output, W2.out.output, B1.out.output], by omega, fun j hj hd => by rw [W3.out.block j (by omega) (by omega), W2.out.block j (by omega) (by omega), B1.out.block j hj]⟩
set_option maxRecDepth 20000 in
set_option maxHeartbeats 8000000 in
/-- What is marked is held. -/
theorem heldHeap_own {B C : Nat} {w : World} {v : Value} {m : Nat} {t : Int} {n : Nat} (k0 : Int) (h : HP B C w v (upFrom k0 m) t n (mkC (k0 + m))) (hW : m ≤ 1048576) (hn : n ≤ 1048576) (p1 : 0 ≤ k0) (p2 : k0 ≤ 1099510579200) :
    Calls Try.prog 39 #[v, .int .i64 k0] w fun e w' => e = .returned (.int .i64 (k0 + (m + 3 * n : Nat))) ∧ Below w.heap.size w w' := by
  obtain ⟨x, z, M, rfl, m1, m2, h1, h2⟩ := h
  have H1 : Hid (Piece B M w x (upFrom k0 m)) := h1
  have H2 : Hid (CsI w z n (mkC (k0 + m))) := h2.csI
  obtain ⟨wa, wc, rfl, _⟩ := h1
  obtain ⟨ca, cc, rfl, _⟩ := h2
  have H3 : Hid (CsA w ca n (mkC (k0 + m))) := by obtain ⟨a, c, e, _, h⟩ := H2.out; cases e; exact h
  clear H2
  have n1 : ¬ (k0 + (m : Int) < 0) := by omega
  have n2 : ¬ (k0 + (m : Int) + 3 * (n : Int) < 0) := by omega
  have e9 : k0 + ((m + 3 * n : Nat) : Int) = k0 + m + 3 * n := by omega
  rw [e9]
  go_enter Try.func39, Try.ntmps39
  go_wp2_with fail
  refine (held_piece k0 (H1.out.keep (bAlloc (Below.refl _ _) _)) hW p1 (by omega)).mono ?_
  rintro r w2 ⟨rfl, rfl⟩
  go_wp2_with fail
  refine (heldCellS_at (k0 + m) (H3.out.keep (bAlloc (Below.refl _ _) _)) hn (by omega) (by omega)).mono ?_
  rintro r w3 ⟨rfl, rfl⟩
  go_wp2
  go_ret
  exact ⟨rfl, bAlloc (Below.refl _ _) _⟩
end Go.Proofs.Ytmmjidhpmbcoiaa
