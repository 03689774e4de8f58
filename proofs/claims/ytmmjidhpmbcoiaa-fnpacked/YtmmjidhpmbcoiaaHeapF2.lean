/-
  Heaps in memory of their own, their two lists in whatever order.
-/
import Derived.Test.YtmmjidhpmbcoiaaHeapF
namespace Go.Proofs.Ytmmjidhpmbcoiaa
open Go.RowKit
set_option linter.unusedVariables false
set_option linter.unusedSimpArgs false
/-- A heap in memory of its own, from B on and below C; its lists share none. -/
def HX (B C : Nat) (w : World) (v : Value) (W : List Int) (t : Int) (n : Nat) (E : Nat → Cel) : Prop :=
  ∃ x z B1 C1 B2 C2, v = .agg #[x, .int .i64 t, z] ∧ (B ≤ B1 ∧ C1 ≤ C ∧ B ≤ B2 ∧ C2 ≤ C) ∧ (C1 ≤ B2 ∨ C2 ≤ B1) ∧ Piece B1 C1 w x W ∧ CPiece B2 C2 w z n E
section
variable {w w' : World} {v : Value} {W : List Int} {t : Int} {n : Nat} {E : Nat → Cel} {B C : Nat}
theorem HP.hx (h : HP B C w v W t n E) : HX B C w v W t n E := by
  obtain ⟨x, z, M, e, m1, m2, h1, h2⟩ := h
  exact ⟨x, z, B, M, M, C, e, ⟨Nat.le_refl _, m2, m1, Nat.le_refl _⟩, .inl (Nat.le_refl _), h1, h2⟩
theorem HX.hi (h : HX B C w v W t n E) : HI w v W t n E := by
  obtain ⟨x, z, B1, C1, B2, C2, rfl, _, _, h1, h2⟩ := h
  obtain ⟨wa, wc, rfl, g1, i1⟩ := h1.intsC
  obtain ⟨ca, cc, rfl, g2, i2⟩ := h2.csI
  exact ⟨wa, wc, ca, cc, rfl, i1, g1, i2, g2⟩
theorem HX.form (h : HX B C w v W t n E) : ∃ xa xc za zc, v = .agg #[.slice xa W.length xc, .int .i64 t, .slice za n zc] := by
  obtain ⟨wa, wc, ca, cc, e, _⟩ := h.hi
  exact ⟨wa, wc, ca, cc, e⟩
theorem HX.keep (h : HX B C w v W t n E) (hb : Below w.heap.size w w') : HX B C w' v W t n E := by
  obtain ⟨x, z, B1, C1, B2, C2, e, m, d, h1, h2⟩ := h
  exact ⟨x, z, B1, C1, B2, C2, e, m, d, h1.keep hb, h2.keep hb⟩
theorem HX.win {B' C' : Nat} (h : HX B C w v W t n E) (hw : Win B' C' w w') (hd : C ≤ B' ∨ C' ≤ B) : HX B C w' v W t n E := by
  obtain ⟨x, z, B1, C1, B2, C2, e, m, d, h1, h2⟩ := h
  exact ⟨x, z, B1, C1, B2, C2, e, m, d, h1.win hw (by omega), h2.win hw (by omega)⟩
theorem HX.mono {B' C' : Nat} (h : HX B C w v W t n E) (hB : B' ≤ B) (hC : C ≤ C') : HX B' C' w v W t n E := by
  obtain ⟨x, z, B1, C1, B2, C2, e, m, d, h1, h2⟩ := h
  exact ⟨x, z, B1, C1, B2, C2, e, by omega, d, h1, h2⟩
theorem HX.congr {E' : Nat → Cel} (h : HX B C w v W t n E) (he : ∀ i, i < n → E' i = E i) : HX B C w v W t n E' := by
  obtain ⟨x, z, B1, C1, B2, C2, e, m, d, h1, h2⟩ := h
  exact ⟨x, z, B1, C1, B2, C2, e, m, d, h1, h2.congr he⟩
end
set_option maxRecDepth 20000 in
set_option maxHeartbeats 8000000 in
/-- A heap is marked: its own memory turns, no other. -/
theorem markHX_own {B C : Nat} {w : World} {v : Value} {W : List Int} {t : Int} {n : Nat} {E : Nat → Cel} (h : HX B C w v W t n E) (hC : C ≤ w.heap.size) (hW : W.length ≤ 1048576) (hn : n ≤ 1048576) (k0 : Int) (p1 : 0 ≤ k0) (p2 : k0 ≤ 1099510579200) :
    Calls Try.prog 37 #[v, .int .i64 k0] w fun e w' => e = .returned (.int .i64 (k0 + (W.length + 3 * n : Nat))) ∧ HX B C w' v (upFrom k0 W.length) t n (mkC (k0 + W.length)) ∧ Win B C w w' := by
  obtain ⟨x, z, P, Q, M, N, rfl, m, d, h1, h2⟩ := h
  have H1 : Hid (Piece P Q w x W) := h1
  have H2 : Hid (CPiece M N w z n E) := h2
  have HN : Hid (n ≤ 1048576) := hn
  have HW : Hid (W.length ≤ 1048576) := hW
  obtain ⟨wa, wc, rfl, _⟩ := h1
  obtain ⟨ca, cc, rfl, _⟩ := h2
  have e9 : k0 + ((W.length + 3 * n : Nat) : Int) = k0 + W.length + 3 * n := by omega
  rw [e9]
  go_enter Try.func37, Try.ntmps37
  go_wp2_with fail
  generalize hw1 : w.alloc (.cells #[.slice wa W.length wc, .int .i64 t, .slice ca n cc] 28) = w1
  have X1 : Hid (Box3 w1 w.heap.size (.slice wa W.length wc) (.int .i64 t) (.slice ca n cc) 28) := by rw [← hw1]; exact box3_new _ _ _ _ _
  have B1 : Hid (Below w.heap.size w w1) := by rw [← hw1]; exact bAlloc (Below.refl _ _) _
  have L1 := X1.out.lt
  clear hw1
  refine (mark_piece (H1.out.keep B1.out) HW.out k0 p1 (by omega)).mono ?_
  rintro r w2 ⟨rfl, hp, ho⟩
  have W2 : Hid (Win P Q w1 w2) := ho.win (H1.out.keep B1.out)
  have P2 : Hid (Piece P Q w2 (.slice wa W.length wc) (upFrom k0 W.length)) := hp
  have Q2 : Hid (CPiece M N w2 (.slice ca n cc) n E) := (H2.out.keep B1.out).win W2.out (by omega)
  have X2 : Hid (Box3 w2 w.heap.size (.slice wa W.length wc) (.int .i64 t) (.slice ca n cc) 28) := X1.out.win W2.out (by omega)
  clear hp ho
  have x2 := X2.out.c2
  go_wp2_with fail
  refine (markCellS_piece Q2.out HN.out (k0 + W.length) (by omega) (by omega)).mono ?_
  rintro r w3 ⟨rfl, hp, hw⟩
  have W3 : Hid (Win M N w2 w3) := hw
  have Q3 : Hid (CPiece M N w3 (.slice ca n cc) n (mkC (k0 + W.length))) := hp
  clear hp hw x2
  go_wp2
  go_ret
  refine ⟨rfl, ⟨_, _, P, Q, M, N, rfl, m, d, P2.out.win W3.out (by omega), Q3.out⟩, ?_⟩
  have s1 := B1.out.size
  have s2 := W2.out.size
  have s3 := W3.out.size
  exact ⟨by rw [W3.out.os, W2.out.os, B1.out.os], by rw [W3.out.tape, W2.out.tape, B1.out.tape], by rw [W3.out.output, W2.out.output, B1.out.output], by omega, fun j hj hd => by rw [W3.out.block j (by omega) (by omega), W2.out.block j (by omega) (by omega), B1.out.block j hj]⟩
set_option maxRecDepth 20000 in
set_option maxHeartbeats 8000000 in
/-- What is marked is held. -/
theorem heldHX_own {B C : Nat} {w : World} {v : Value} {m : Nat} {t : Int} {n : Nat} (k0 : Int) (h : HX B C w v (upFrom k0 m) t n (mkC (k0 + m))) (hW : m ≤ 1048576) (hn : n ≤ 1048576) (p1 : 0 ≤ k0) (p2 : k0 ≤ 1099510579200) :
    Calls Try.prog 39 #[v, .int .i64 k0] w fun e w' => e = .returned (.int .i64 (k0 + (m + 3 * n : Nat))) ∧ Below w.heap.size w w' := by
  obtain ⟨x, z, P, Q, M, N, rfl, _, d, h1, h2⟩ := h
  have H1 : Hid (Piece P Q w x (upFrom k0 m)) := h1
  have H2 : Hid (CsI w z n (mkC (k0 + m))) := h2.csI
  obtain ⟨wa, wc, rfl, _⟩ := h1
  obtain ⟨ca, cc, rfl, _⟩ := h2
  have H3 : Hid (CsA w ca n (mkC (k0 + m))) := by obtain ⟨a, c, e, _, h⟩ := H2.out; cases e; exact h
  clear H2
  have n1 : ¬ (k0 + (m : Int) < 0) := by omega
  have n2 : ¬ (k0 + (m : Int) + 3 * (n : Int) < 0) := by omega
  have e9 : k0 + ((m + 3 * n : Nat) : Int) = k0 + m + 3 * n := by omega
  rw [e9]
  go_enter Try.func39, Try.ntmps39
  go_wp2_with fail
  refine (held_piece k0 (H1.out.keep (bAlloc (Below.refl _ _) _)) hW p1 (by omega)).mono ?_
  rintro r w2 ⟨rfl, rfl⟩
  go_wp2_with fail
  refine (heldCellS_at (k0 + m) (H3.out.keep (bAlloc (Below.refl _ _) _)) hn (by omega) (by omega)).mono ?_
  rintro r w3 ⟨rfl, rfl⟩
  go_wp2
  go_ret
  exact ⟨rfl, bAlloc (Below.refl _ _) _⟩
/-- A heap at work: its box, its words, its cells, each in a block of its own from L on. -/
def HW (L g3 gw gc : Nat) (w : World) (X : List Int) (t : Int) (n : Nat) (C : Nat → Cel) (cc : Nat) : Prop :=
  (L ≤ g3 ∧ L ≤ gw ∧ L ≤ gc ∧ g3 ≠ gw ∧ g3 ≠ gc ∧ gw ≠ gc) ∧ n ≤ cc ∧ Box3 w g3 (.slice (some ⟨gw, 0, none⟩) X.length X.length) (.int .i64 t) (.slice (some ⟨gc, 0, none⟩) n cc) 28 ∧ OwnInts w gw X ∧ (n = 0 ∨ CBlk w gc n C)
section
variable {L g3 gw gc : Nat} {w w' : World} {X : List Int} {t : Int} {n : Nat} {C : Nat → Cel} {cc : Nat}
theorem HW.keep (h : HW L g3 gw gc w X t n C cc) (hb : Below w.heap.size w w') : HW L g3 gw gc w' X t n C cc := by
  obtain ⟨h1, h2, h3, h4, h5⟩ := h
  exact ⟨h1, h2, h3.keep hb, by unfold OwnInts at *; rw [hb.block gw (lt_of_heapA h4)]; exact h4, h5.imp_right (fun h => h.keep hb)⟩
theorem HW.lt3 (h : HW L g3 gw gc w X t n C cc) : g3 < w.heap.size := h.2.2.1.lt
theorem HW.ltw (h : HW L g3 gw gc w X t n C cc) : gw < w.heap.size := (Array.getElem?_eq_some_iff.1 h.2.2.2.1).1
/-- A word is set. -/
theorem HW.word (h : HW L g3 gw gc w X t n C cc) (k : Nat) (x : Int) : HW L g3 gw gc (w.setCell ⟨gw, k, none⟩ (.int .i64 x)) (X.set k x) t n C cc := by
  obtain ⟨h1, h2, h3, h4, h5⟩ := h
  refine ⟨h1, h2, by rw [List.length_set]; exact h3.other (by omega) _, ?_, h5.imp_right fun h => h.win (win_setCell _ _ _ _) (by omega)⟩
  have e := heap_setCell_same w gw k _ _ (.int .i64 x) (show w.heap[gw]? = _ from h4)
  unfold OwnInts
  rw [e]
  simp [vals, List.map_set]
/-- The words are set. -/
theorem HW.words (h : HW L g3 gw gc w X t n C cc) {X' : List Int} (hl : X'.length = X.length) (hw : Win gw (gw + 1) w w') (h' : OwnInts w' gw X') : HW L g3 gw gc w' X' t n C cc := by
  obtain ⟨h1, h2, h3, h4, h5⟩ := h
  exact ⟨h1, h2, by rw [hl]; exact h3.win hw (by omega), h', h5.imp_right fun h => h.win hw (by omega)⟩
/-- Top is set. -/
theorem HW.top (h : HW L g3 gw gc w X t n C cc) (t' : Int) : HW L g3 gw gc (w.setCell ⟨g3, 1, none⟩ (.int .i64 t')) X t' n C cc := by
  obtain ⟨h1, h2, h3, h4, h5⟩ := h
  refine ⟨h1, h2, h3.set1 _, ?_, h5.imp_right fun h => h.win (win_setCell _ _ _ _) (by omega)⟩
  unfold OwnInts at *
  rw [(win_setCell w g3 1 (.int .i64 t')).block gw (lt_of_heapA h4) (by omega)]
  exact h4
/-- A cell is set. -/
theorem HW.cell (h : HW L g3 gw gc w X t n C cc) {k : Nat} (hk : k < n) (c : Cel) : HW L g3 gw gc (((w.setCell ⟨gc, k * 3, none⟩ (.int .i64 c.f)).setCell ⟨gc, k * 3 + 1, none⟩ (.int .i64 c.l)).setCell ⟨gc, k * 3 + 2, none⟩ (.bool c.v)) X t n (up C k c) cc := by
  obtain ⟨h1, h2, h3, h4, h5⟩ := h
  have hw := set3_win w gc k (.int .i64 c.f) (.int .i64 c.l) (.bool c.v)
  refine ⟨h1, h2, h3.win hw (by omega), ?_, ?_⟩
  · unfold OwnInts at *
    rw [hw.block gw (lt_of_heapA h4) (by omega)]
    exact h4
  · rcases h5 with h5 | h5
    · omega
    · exact .inr (h5.set hk c)
theorem HW.hx (h : HW L g3 gw gc w X t n C cc) (hl : gc < w.heap.size ∨ n = 0) : HX L w.heap.size w (.agg #[.slice (some ⟨gw, 0, none⟩) X.length X.length, .int .i64 t, .slice (some ⟨gc, 0, none⟩) n cc]) X t n C := by
  have hg := h.ltw
  obtain ⟨h1, h2, h3, h4, h5⟩ := h
  rcases h5 with h5 | h5
  · subst h5
    exact ⟨_, _, gw, gw + 1, gw + 1, gw + 1, rfl, by omega, .inl (Nat.le_refl _), h4.piece (Nat.le_refl _) (Nat.lt_succ_self _) _ (Nat.le_refl _), ⟨_, _, rfl, h2, .inl rfl⟩⟩
  · have := h5.lt
    exact ⟨_, _, gw, gw + 1, gc, gc + 1, rfl, by omega, by omega, h4.piece (Nat.le_refl _) (Nat.lt_succ_self _) _ (Nat.le_refl _), ⟨_, _, rfl, h2, .inr ⟨gc, rfl, Nat.le_refl _, Nat.lt_succ_self _, h5⟩⟩⟩
end
end Go.Proofs.Ytmmjidhpmbcoiaa
