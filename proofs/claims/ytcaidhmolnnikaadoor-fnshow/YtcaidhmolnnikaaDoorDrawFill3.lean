
/-
  Walks: l3Draw, DrawRows.
-/
import Derived.Test.YtcaidhmolnnikaaDoorDrawFill2
import Derived.Deep.RegionHeld3
namespace Go.Proofs.YtcaidhmolnnikaaDoor
open Go.RowKit
set_option linter.unusedVariables false
set_option linter.unusedSimpArgs false
theorem boxGrownNe {w w' : World} {q : Nat} {x y : Value} {t : TypeId} {row : Option Nat} (h : Box w q x y t) (hg : w.grownBy w' row) (hr : ∀ k, row = some k → k ≠ q) : Box w' q x y t := by
  unfold Box at *; rw [hg.block q (lt_of_heapA h) (fun e => hr q e.symm rfl)]; exact h
theorem boxSet0 {w : World} {q : Nat} {x y : Value} {t : TypeId} (h : Box w q x y t) (x' : Value) : Box (w.setCell ⟨q, 0, none⟩ x') q x' y t := by
  have := heap_setCell_same w q 0 _ _ x' h
  unfold Box; simpa using this
theorem Piece.grownC {B C : Nat} {w w' : World} {u : Value} {m : List Int} {row : Option Nat} (h : Piece B C w u m) (hg : w.grownBy w' row) (hn : ∀ g, row = some g → C ≤ g) : Piece B C w' u m := by
  obtain ⟨a, c, rfl, hle, h⟩ := h
  refine ⟨a, c, rfl, hle, ?_⟩
  rcases h with rfl | ⟨g, off, cur, t, rfl, h1, h2, hh, r⟩
  · exact .inl rfl
  · exact .inr ⟨g, off, cur, t, rfl, h1, h2, by rw [hg.block g (lt_of_heapA hh) (fun e => by have := hn g e.symm; omega)]; exact hh, r⟩
theorem NewInts.lt {B : Nat} {w : World} {v : Value} {l : List Int} (h : NewInts B w v l) {g : Nat} (hg : v.ownBlock = some g) : g < w.heap.size := by
  obtain ⟨h1, h2⟩ := h
  rcases h2 with ⟨rfl, _⟩ | ⟨g', cap, cur, rfl, hB, hh, _⟩
  · simp [Value.ownBlock] at hg
  · simp [Value.ownBlock] at hg
    subst hg
    exact lt_of_heapA hh
theorem NewInts.butNe {B q p n c : Nat} {w w' : World} {l : List Int} (h : NewInts B w (.slice (some ⟨p, 0, none⟩) n c) l) (hb : But q w w') (hne : p ≠ q) : NewInts B w' (.slice (some ⟨p, 0, none⟩) n c) l := by
  obtain ⟨h1, h2⟩ := h
  refine ⟨h1, ?_⟩
  rcases h2 with ⟨e, h2⟩ | ⟨k, cap, cur, e, hk, hh, r⟩
  · cases e
  · cases e
    exact .inr ⟨_, _, cur, rfl, hk, by rw [hb.block _ (Array.getElem?_eq_some_iff.1 hh).1 hne]; exact hh, r⟩
/-- A number of a piece is written. -/
theorem piece_set {B C k off n c : Nat} {w : World} {l : List Int} (h : Piece B C w (.slice (some ⟨k, off, none⟩) n c) l) (i : Nat) (z : Int) : Piece B C (w.setCell ⟨k, off + i, none⟩ (.int .i64 z)) (.slice (some ⟨k, off, none⟩) n c) (l.set i z) := by
  obtain ⟨a, c', e, hle, h⟩ := h
  cases e
  refine ⟨some ⟨k, off, none⟩, c, by simp, by simpa using hle, ?_⟩
  rcases h with rfl | ⟨g, o, cur, t, e, h1, h2, hh, r⟩
  · exact .inl (by simp)
  · cases e
    refine .inr ⟨k, off, _, t, rfl, h1, h2, heap_setCell_same w k (off + i) _ _ _ hh, fun j hj => ?_⟩
    have hj' : j < l.length := by simpa using hj
    have := r j hj'
    have hsz : off + j < cur.size := (Array.getElem?_eq_some_iff.1 this).1
    by_cases hij : i = j
    · subst hij
      simp [Array.getElem?_setIfInBounds, hsz, List.getD, hj']
    · rw [Array.getElem?_setIfInBounds, if_neg (by omega), this]
      simp [List.getD, List.getElem?_set, hij]
theorem piece_cell {B C k n c : Nat} {w : World} {l : List Int} (h : Piece B C w (.slice (some ⟨k, 0, none⟩) n c) l) {i : Nat} (hi : i < l.length) : w.cell? ⟨k, i, none⟩ = some (.int .i64 (l.getD i 0)) := by
  obtain ⟨a, c', e, hle, h⟩ := h
  cases e
  rcases h with rfl | ⟨g, o, cur, t, e, h1, h2, hh, r⟩
  · simp at hi
  · cases e
    have := r i hi
    rw [Nat.zero_add] at this
    simp only [World.cell?, hh]
    simpa using this
theorem piece_free {B C k n c : Nat} {w : World} {l : List Int} (h : Piece B C w (.slice (some ⟨k, 0, none⟩) n c) l) {i : Nat} (hi : i < l.length) : w.frozen? ⟨k, i, none⟩ = false := by
  obtain ⟨a, c', e, hle, h⟩ := h
  cases e
  rcases h with rfl | ⟨g, o, cur, t, e, h1, h2, hh, r⟩
  · simp at hi
  · cases e
    exact free_at hh i
/-- What the store of the answer leaves. -/
theorem draw_end {B g : Nat} {w W : World} {x y : Value} {s d : List Int} {x0 y0 : Value} (hR : W.heap[w.heap.size]? = some (.cells #[x0, y0] 27 (0, 0))) (hg : g < w.heap.size)
    (px : Piece (w.heap.size + 1) W.heap.size W x s) (py : Piece (w.heap.size + 1) W.heap.size W y d) (ha : Apart x y) (hb : But g w W) (hd : DrawOk B g W) :
    ((W.setCell ⟨w.heap.size, 0, none⟩ x).setCell ⟨w.heap.size, 1, none⟩ y).heap[w.heap.size]? = some (.cells #[x, y] 27 (0, 0)) ∧
    Arr w.heap.size ((W.setCell ⟨w.heap.size, 0, none⟩ x).setCell ⟨w.heap.size, 1, none⟩ y).heap.size ((W.setCell ⟨w.heap.size, 0, none⟩ x).setCell ⟨w.heap.size, 1, none⟩ y) (.agg #[x, y]) s d ∧
    But g w ((W.setCell ⟨w.heap.size, 0, none⟩ x).setCell ⟨w.heap.size, 1, none⟩ y) ∧ DrawOk B g ((W.setCell ⟨w.heap.size, 0, none⟩ x).setCell ⟨w.heap.size, 1, none⟩ y) := by
  have C1 : But w.heap.size W ((W.setCell ⟨w.heap.size, 0, none⟩ x).setCell ⟨w.heap.size, 1, none⟩ y) := ((But.refl _ _).setCell 0 _).setCell 1 _
  refine ⟨arr_stored hR, ⟨x, y, rfl, ?_, ?_, ha⟩, (hb.setNew (Nat.le_refl _) 0 _).setNew (Nat.le_refl _) 1 _, hd.but C1 hg⟩
  · exact (px.but C1 (.inl (by omega))).mono (by omega) C1.size
  · exact (py.but C1 (.inl (by omega))).mono (by omega) C1.size
/-- What l3Draw knows where its switch has ended. -/
structure Drawn (B g : Nat) (w W : World) (q : Nat) (x y : Value) (s d : List Int) : Prop where
  r : W.heap[w.heap.size]? = some (.cells #[.slice none 0 0, .slice none 0 0] 27 (0, 0))
  box : Box W q x y 27
  hg : g < w.heap.size
  px : Piece (w.heap.size + 1) W.heap.size W x s
  py : Piece (w.heap.size + 1) W.heap.size W y d
  ap : Apart x y
  ls : s.length ≤ 4
  ld : d.length ≤ 301
  but : But g w W
  ok : DrawOk B g W
set_option maxRecDepth 20000 in
set_option maxHeartbeats 4000000 in
/-- l3Draw. -/
theorem draw_draw {B g : Nat} {w : World} (hd : DrawOk B g w) :
    Calls Tryd.prog 37 #[.pointer (some ⟨g, 0, none⟩)] w fun e w' => ∃ v s d, e = .returned v ∧ Arr w.heap.size w'.heap.size w' v s d ∧ s.length ≤ 4 ∧ d.length ≤ 301 ∧ But g w w' ∧ DrawOk B g w' := by
  have hi := info_int
  obtain ⟨i0, hq, z1, z2, z3⟩ : ∃ i0, Tryd.prog.info? 3 = some i0 ∧ i0.zero = some (.int .i64 0) ∧ i0.size = 1 ∧ i0.bytes = 8 := by
    cases hq : Tryd.prog.info? 3 with
    | none => rw [hq] at hi; cases hi
    | some i => rw [hq] at hi; simp at hi; exact ⟨i, rfl, hi.1, hi.2.1, hi.2.2⟩
  clear hi
  have hmk0 : ∀ w, (Instr.makeSlice 22 (.int .i64 300) (.int .i64 300)).run Tryd.prog w = .ok (.slice (some ⟨w.heap.size, 0, none⟩) 300 300) (w.alloc (.cells (vals (List.replicate 300 0)) 3)) := make_ints 300 (by omega)
  have hmk1 : ∀ w, (Instr.makeSlice 22 (.int .i64 301) (.int .i64 301)).run Tryd.prog w = .ok (.slice (some ⟨w.heap.size, 0, none⟩) 301 301) (w.alloc (.cells (vals (List.replicate 301 0)) 3)) := make_ints 301 (by omega)
  generalize hR0 : List.replicate 300 (0 : Int) = R0 at hmk0
  generalize hR1 : List.replicate 301 (0 : Int) = R1 at hmk1
  have LR0 : Hid (R0.length = 300) := by show _ = _; rw [← hR0]; simp
  have LR1 : Hid (R1.length = 301) := by show _ = _; rw [← hR1]; simp
  clear hR0 hR1
  have hg := hd.lt
  have HD : Hid (DrawOk B g (w.alloc (.cells #[.slice none 0 0, .slice none 0 0] 27))) := hd.alloc _
  have HR0 : Hid ((w.alloc (.cells #[.slice none 0 0, .slice none 0 0] 27)).heap[w.heap.size]? = some (.cells #[.slice none 0 0, .slice none 0 0] 27 (0, 0))) := heap_alloc_new w _
  have HB0 : Hid (But g w (w.alloc (.cells #[.slice none 0 0, .slice none 0 0] 27))) := (But.refl g w).alloc _
  clear hd
  go_enter Tryd.func37, Tryd.ntmps37
  go_wp2_with fail
  refine (rightA_draw HD.out).mono ?_
  rintro e w1 ⟨x, y, s, d, M, rfl, ⟨hM, hML⟩, hP, hN, hls, hld, hb, hd'⟩
  simp at hM
  have HM0 : w.heap.size + 1 < M := by omega
  obtain ⟨xa, xc, hx, _⟩ := hP.ints
  obtain ⟨ya, yc, hy, _⟩ := hN.ints
  subst hx hy
  have HR1 : Hid (w1.heap[w.heap.size]? = some (.cells #[.slice none 0 0, .slice none 0 0] 27 (0, 0))) := (hb.block w.heap.size (by simp) (by omega)).trans HR0.out
  have HB1 : Hid (But g w w1) := HB0.out.trans hb
  have HD1 : Hid (DrawOk B g w1) := hd'
  have HP1 : Hid (Piece (w.heap.size + 1) M w1 (.slice xa s.length xc) s) := hP.mono (by simp) (Nat.le_refl _)
  have HN1 : Hid (NewInts M w1 (.slice ya d.length yc) d) := hN
  have S1 : w.heap.size < w1.heap.size := lt_of_heapA HR1.out
  clear hb hd' hP hN hM
  go_wp2_with fail
  generalize hW : World.alloc w1 (.cells #[.slice xa s.length xc, .slice ya d.length yc] 27) = W0
  have BW : Hid (Below w1.heap.size w1 W0) := by rw [← hW]; exact bAlloc (Below.refl _ _) _
  have X0 : Hid (Box W0 w1.heap.size (.slice xa s.length xc) (.slice ya d.length yc) 27) := by rw [← hW]; exact box_new w1 _ _ _
  have DW : Hid (DrawOk B g W0) := by rw [← hW]; exact HD1.out.alloc _
  clear hW
  refine (below_small DW.out 20 (by decide) (by decide)).mono ?_
  rintro e w2 ⟨n, n1, n2, rfl, hb, hd'⟩
  have HB12 : Hid (But g w1 w2) := (But.of BW.out).trans hb
  have HB2 : Hid (But g w w2) := HB1.out.trans HB12.out
  have HD2 : Hid (DrawOk B g w2) := hd'
  have hX2 : Box w2 w1.heap.size (.slice xa s.length xc) (.slice ya d.length yc) 27 := boxBut X0.out hb (by omega)
  have HX2 : Hid (Box w2 w1.heap.size (.slice xa s.length xc) (.slice ya d.length yc) 27) := hX2
  have hR2 : w2.heap[w.heap.size]? = some (.cells #[.slice none 0 0, .slice none 0 0] 27 (0, 0)) := (HB12.out.block w.heap.size S1 (by omega)).trans HR1.out
  have HR2 : Hid (w2.heap[w.heap.size]? = some (.cells #[.slice none 0 0, .slice none 0 0] 27 (0, 0))) := hR2
  have HP2 : Hid (Piece (w.heap.size + 1) M w2 (.slice xa s.length xc) s) := HP1.out.but HB12.out (.inl (by omega))
  have HN2 : Hid (NewInts M w2 (.slice ya d.length yc) d) := HN1.out.but HB12.out (by omega)
  have HY2 : Hid (Piece M w1.heap.size w2 (.slice ya d.length yc) d) := HN1.out.piece.but HB12.out (.inl (by omega))
  have L2 := hX2.lt
  have c0 := hX2.c0
  have c1 := hX2.c1
  have e0 : w2.frozen? ⟨w1.heap.size, 0, none⟩ = false := free_at hX2 0
  have e1 : w2.frozen? ⟨w1.heap.size, 1, none⟩ = false := free_at hX2 1
  have k0 : w2.cell? ⟨w.heap.size, 0, none⟩ = some (.slice none 0 0) := cell_at hR2 rfl
  have k1 : w2.cell? ⟨w.heap.size, 1, none⟩ = some (.slice none 0 0) := cell_at hR2 rfl
  have f0 : w2.frozen? ⟨w.heap.size, 0, none⟩ = false := free_at hR2 0
  have f1 : w2.frozen? ⟨w.heap.size, 1, none⟩ = false := free_at hR2 1
  have hne : w1.heap.size ≠ w.heap.size := by omega
  clear hb hd' hX2 hR2
  by_cases m0 : n = 0
  · subst m0
    clear c0 e0 e1 k0 k1 f0 f1
    go_wp2_with (at_builtin; refine wpList_append_lies _ rfl _ _ 22 rfl M 3 i0 (.int .i64 0) 1 8 Tryd.underlying22 hq z1 z2 z3 rfl (by decide) (.slice ya d.length yc) d.length (d.map (Value.int .i64)) rfl (ownsRow_keep HN2.out (bAlloc (Below.refl _ _) _)) ⟨w2.heap.size, 0, none⟩ 1 1 [.int .i64 1] rfl rfl (World.news_of_block (cs := #[.int .i64 1]) (heap_alloc_new w2 _)) (by simp [Value.oneCell']) (by decide) ?c1 ?c2 ?c3 (w2.heap.size + 1) (by simp) ?_)
    case c1 => unfold maxLen; omega
    case c2 => omega
    case c3 => simp; omega
    intro g4 cap4 w3 hown hgrow hat hlt4
    have rw0 : ∀ k, (Value.slice ya d.length yc).ownBlock = some k → M ≤ k ∧ k < w1.heap.size := fun k e => ⟨HN1.out.row k e, HN1.out.lt e⟩
    have hX3 : Box w3 w1.heap.size (.slice xa s.length xc) (.slice ya d.length yc) 27 := boxGrownNe (HX2.out.keep (bAlloc (Below.refl _ _) _)) hgrow (fun k e => by have := rw0 k e; omega)
    have hR3 : w3.heap[w.heap.size]? = some (.cells #[.slice none 0 0, .slice none 0 0] 27 (0, 0)) := (hgrow.block w.heap.size (by simp; omega) (fun e => by have := rw0 _ e.symm; omega)).trans ((Below.heap_alloc _ _ _ (by omega)).trans HR2.out)
    have c0 := hX3.c0
    have c1 := hX3.c1
    have e0 : w3.frozen? ⟨w1.heap.size, 0, none⟩ = false := free_at hX3 0
    have e1 : w3.frozen? ⟨w1.heap.size, 1, none⟩ = false := free_at hX3 1
    have k0 : w3.cell? ⟨w.heap.size, 0, none⟩ = some (.slice none 0 0) := cell_at hR3 rfl
    have k1 : w3.cell? ⟨w.heap.size, 1, none⟩ = some (.slice none 0 0) := cell_at hR3 rfl
    have f0 : w3.frozen? ⟨w.heap.size, 0, none⟩ = false := free_at hR3 0
    have f1 : w3.frozen? ⟨w.heap.size, 1, none⟩ = false := free_at hR3 1
    have E1 : Hid (Drawn B g w (w3.setCell ⟨w1.heap.size, 1, none⟩ (.slice (some ⟨g4, 0, none⟩) (d.length + 1) cap4)) w1.heap.size (.slice xa s.length xc) (.slice (some ⟨g4, 0, none⟩) (d.length + 1) cap4) s (d ++ [1])) := by
      have C : But w1.heap.size w3 (w3.setCell ⟨w1.heap.size, 1, none⟩ (.slice (some ⟨g4, 0, none⟩) (d.length + 1) cap4)) := (But.refl _ _).setCell 1 _
      have N4 : NewInts M w3 (.slice (some ⟨g4, 0, none⟩) (d.length + 1) cap4) (d ++ [1]) := by show World.ownsRow _ _ _ _ _ _ _; simpa using hown
      have hne4 : g4 ≠ w1.heap.size := by
        rcases hat with h | h
        · have := rw0 _ h; omega
        · omega
      have p2 := (N4.butNe C hne4).piece
      have p1 : Piece (w.heap.size + 1) M _ (.slice xa s.length xc) s := ((HP2.out.keep (bAlloc (Below.refl _ _) _)).grownC hgrow (fun k e => (rw0 k e).1)).but C (.inr hML)
      have z4 := hgrow.size
      have z5 := C.size
      simp at z4
      exact ⟨(C.block w.heap.size (by omega) (by omega)).trans hR3, boxSet1 hX3 _, hg, p1.mono (by omega) (by omega), p2.mono (by omega) (Nat.le_refl _), p1.apart p2 (.inl (Nat.le_refl _)), hls, by simp; omega, ((HB2.out.alloc _).grown hgrow (fun k e => by have := rw0 k e; omega)).setNew (by omega) 1 _, ((HD2.out.alloc _).grown hgrow (fun k e => by have := rw0 k e; omega)).but C (by omega)⟩
    clear hown hgrow hat hlt4 rw0 hX3 hR3
    go_wp2_with fail
    obtain ⟨a1, a2, a3, a4⟩ := draw_end E1.out.r E1.out.hg E1.out.px E1.out.py E1.out.ap E1.out.but E1.out.ok
    exact bodyPost_ret (v := .agg #[_, _]) (results_arr rfl _ _ w.heap.size _ _ rfl a1) rfl ⟨_, _, _, rfl, a2, E1.out.ls, E1.out.ld, a3, a4⟩
  by_cases m1 : n = 1
  · subst m1
    clear c0 c1 e0 e1 k0 k1 f0 f1
    go_wp2_with fail
    refine (shape_draw HD2.out).mono ?_
    rintro e w3 ⟨v, l, rfl, ⟨hl, _⟩, hN, hb, hd'⟩
    obtain ⟨va, vc, hv, _⟩ := hN.ints
    subst hv
    have hX3 : Box w3 w1.heap.size (.slice xa s.length xc) (.slice ya d.length yc) 27 := boxBut HX2.out hb (by omega)
    have hR3 : w3.heap[w.heap.size]? = some (.cells #[.slice none 0 0, .slice none 0 0] 27 (0, 0)) := (hb.block w.heap.size (by omega) (by omega)).trans HR2.out
    have c0 := hX3.c0
    have c1 := hX3.c1
    have e0 : w3.frozen? ⟨w1.heap.size, 0, none⟩ = false := free_at hX3 0
    have e1 : w3.frozen? ⟨w1.heap.size, 1, none⟩ = false := free_at hX3 1
    have k0 : w3.cell? ⟨w.heap.size, 0, none⟩ = some (.slice none 0 0) := cell_at hR3 rfl
    have k1 : w3.cell? ⟨w.heap.size, 1, none⟩ = some (.slice none 0 0) := cell_at hR3 rfl
    have f0 : w3.frozen? ⟨w.heap.size, 0, none⟩ = false := free_at hR3 0
    have f1 : w3.frozen? ⟨w.heap.size, 1, none⟩ = false := free_at hR3 1
    have E1 : Hid (Drawn B g w (w3.setCell ⟨w1.heap.size, 0, none⟩ (.slice va l.length vc)) w1.heap.size (.slice va l.length vc) (.slice ya d.length yc) l d) := by
      have C : But w1.heap.size w3 (w3.setCell ⟨w1.heap.size, 0, none⟩ (.slice va l.length vc)) := (But.refl _ _).setCell 0 _
      have p1 : Piece w2.heap.size w3.heap.size _ (.slice va l.length vc) l := hN.piece.but C (.inl (by omega))
      have p2 : Piece M w1.heap.size _ (.slice ya d.length yc) d := (HY2.out.but hb (.inl (by omega))).but C (.inr (by omega))
      have z3 := hb.size
      have z4 := C.size
      exact ⟨(C.block w.heap.size (by omega) (by omega)).trans hR3, boxSet0 hX3 _, hg, p1.mono (by omega) z4, p2.mono (by omega) (by omega), p1.apart p2 (.inr (by omega)), hl, by omega, (HB2.out.trans hb).setNew (by omega) 0 _, hd'.but C (by omega)⟩
    clear hb hd' hX3 hR3 hN
    go_wp2_with fail
    obtain ⟨a1, a2, a3, a4⟩ := draw_end E1.out.r E1.out.hg E1.out.px E1.out.py E1.out.ap E1.out.but E1.out.ok
    exact bodyPost_ret (v := .agg #[_, _]) (results_arr rfl _ _ w.heap.size _ _ rfl a1) rfl ⟨_, _, _, rfl, a2, E1.out.ls, E1.out.ld, a3, a4⟩
  by_cases m2 : n = 2
  · subst m2
    by_cases hd0 : d.length = 0
    · have E0 : Drawn B g w w2 w1.heap.size (.slice xa s.length xc) (.slice ya d.length yc) s d :=
        ⟨HR2.out, HX2.out, hg, HP2.out.mono (Nat.le_refl _) (by omega), HY2.out.mono (by omega) (by omega), HP2.out.apart HY2.out (.inl (by omega)), hls, by omega, HB2.out, HD2.out⟩
      rw [hd0] at E0
      have E1 : Hid (Drawn B g w w2 w1.heap.size (.slice xa s.length xc) (.slice ya 0 yc) s d) := E0
      clear E0
      go_wp2_with fail
      obtain ⟨a1, a2, a3, a4⟩ := draw_end E1.out.r E1.out.hg E1.out.px E1.out.py E1.out.ap E1.out.but E1.out.ok
      exact bodyPost_ret (v := .agg #[_, _]) (results_arr rfl _ _ w.heap.size _ _ rfl a1) rfl ⟨_, _, _, rfl, a2, E1.out.ls, E1.out.ld, a3, a4⟩
    · obtain ⟨p, rfl, hp1, hp2⟩ : ∃ p, ya = some ⟨p, 0, none⟩ ∧ M ≤ p ∧ p < w1.heap.size := by
        obtain ⟨_, h2⟩ := HN1.out
        rcases h2 with ⟨e, h0⟩ | ⟨k, cap, cur, e, hB, hh, _⟩
        · exact absurd h0 hd0
        · cases e; exact ⟨k, rfl, hB, lt_of_heapA hh⟩
      have hpq : ¬ p = w1.heap.size := by omega
      have HDr : Hid (DrawOk B g w2.drew) := HD2.out.keep ((Below.refl B w2).drew) rfl
      have hdp : (0 : Int) < (d.length : Int) := by omega
      go_wp2_with fail
      clear e0 e1 k0 k1 f0 f1
      go_region_held3 (fun w' => w'.cell? ⟨w1.heap.size, 1, none⟩ = some (.slice (some ⟨p, 0, none⟩) d.length yc))
        (first | exact c1 | exact q3 | exact q4 | exact q5 | go_keep)
        (first
          | (go_at_call 59; refine (below_any (B := B) (g := g) HDr.out (d.length : Int) hdp).mono ?_; rintro r w3 ⟨x, x1, x2, rfl, hb3, hd3⟩; obtain ⟨j, rfl⟩ := Int.eq_ofNat_of_zero_le x1; have hj : j < d.length := (by omega); have B3 : Hid (But g w2 w3) := But.trans ((But.refl g w2).drewN 1) hb3; have D3 : Hid (DrawOk B g w3) := hd3; have X3 : Hid (Box w3 w1.heap.size (.slice xa s.length xc) (.slice (some ⟨p, 0, none⟩) d.length yc) 27) := boxBut HX2.out B3.out (by omega); have q3 := X3.out.c1; clear hb3 hd3)
          | (go_at_call 70; refine (raw_spec (B := B) (g := g) D3.out).mono ?_; rintro r w4 ⟨z, rfl, hb4, hd4⟩; have B4 : Hid (But g w2 w4) := B3.out.trans hb4; have D4 : Hid (DrawOk B g w4) := hd4; have X4 : Hid (Box w4 w1.heap.size (.slice xa s.length xc) (.slice (some ⟨p, 0, none⟩) d.length yc) 27) := boxBut HX2.out B4.out (by omega); have q4 := X4.out.c1; have P4 : Hid (Piece M w1.heap.size w4 (.slice (some ⟨p, 0, none⟩) d.length yc) d) := HY2.out.but B4.out (.inl (by omega)); have sc := piece_cell P4.out hj; have sf := piece_free P4.out hj; clear hb4 hd4))
      have C : But p w4 (w4.setCell ⟨p, j, none⟩ (.int .i64 z)) := (But.refl _ _).setCell j _
      have z4 := B4.out.size
      have z5 := C.size
      have hX5 := boxBut X4.out C (by omega)
      have hR5 : (w4.setCell ⟨p, j, none⟩ (.int .i64 z)).heap[w.heap.size]? = some (.cells #[.slice none 0 0, .slice none 0 0] 27 (0, 0)) := (C.block w.heap.size (by omega) (by omega)).trans ((B4.out.block w.heap.size (by omega) (by omega)).trans HR2.out)
      have E1 : Hid (Drawn B g w (w4.setCell ⟨p, j, none⟩ (.int .i64 z)) w1.heap.size (.slice xa s.length xc) (.slice (some ⟨p, 0, none⟩) d.length yc) s (d.set j z)) := by
        have p1 : Piece (w.heap.size + 1) M _ (.slice xa s.length xc) s := (HP2.out.but B4.out (.inl (by omega))).but C (.inr hp1)
        have p2 : Piece M w1.heap.size (w4.setCell ⟨p, j, none⟩ (.int .i64 z)) (.slice (some ⟨p, 0, none⟩) d.length yc) (d.set j z) := by
          have := piece_set P4.out j z
          rwa [Nat.zero_add] at this
        exact ⟨hR5, hX5, hg, p1.mono (by omega) (by omega), p2.mono (by omega) (by omega), p1.apart p2 (.inl (Nat.le_refl _)), hls, by simp; omega, (HB2.out.trans B4.out).setNew (by omega) j _, D4.out.but C (by omega)⟩
      generalize w4.setCell ⟨p, j, none⟩ (.int .i64 z) = W5 at *
      have v0 := hX5.c0
      have v1 := hX5.c1
      have k0 : W5.cell? ⟨w.heap.size, 0, none⟩ = some (.slice none 0 0) := cell_at hR5 rfl
      have k1 : W5.cell? ⟨w.heap.size, 1, none⟩ = some (.slice none 0 0) := cell_at hR5 rfl
      have f0 : W5.frozen? ⟨w.heap.size, 0, none⟩ = false := free_at hR5 0
      have f1 : W5.frozen? ⟨w.heap.size, 1, none⟩ = false := free_at hR5 1
      clear C hX5 hR5 sc sf q3 q4 c0 c1
      go_wp2_with fail
      obtain ⟨a1, a2, a3, a4⟩ := draw_end E1.out.r E1.out.hg E1.out.px E1.out.py E1.out.ap E1.out.but E1.out.ok
      exact bodyPost_ret (v := .agg #[_, _]) (results_arr rfl _ _ w.heap.size _ _ rfl a1) rfl ⟨_, _, _, rfl, a2, E1.out.ls, E1.out.ld, a3, a4⟩
  by_cases m3 : n = 3
  · subst m3
    clear c0 c1 e0 e1 k0 k1 f0 f1
    have H300 : Hid (OwnInts (w2.alloc (.cells #[.int .i64 300] 3)) w2.heap.size [300]) := heap_alloc_new w2 _
    go_wp2_with fail
    refine (below_small (HD2.out.alloc _) 2 (by decide) (by decide)).mono ?_
    rintro e w3 ⟨b, b1, b2, rfl, hb, hd'⟩
    have z3 := hb.size
    simp at z3
    have hX3 : Box w3 w1.heap.size (.slice xa s.length xc) (.slice ya d.length yc) 27 := boxBut (HX2.out.keep (bAlloc (Below.refl _ _) _)) hb (by omega)
    have hR3 : w3.heap[w.heap.size]? = some (.cells #[.slice none 0 0, .slice none 0 0] 27 (0, 0)) := (hb.block w.heap.size (by simp; omega) (by omega)).trans ((Below.heap_alloc _ _ _ (by omega)).trans HR2.out)
    have P3 : Hid (Piece w2.heap.size (w2.heap.size + 1) w3 (.slice (some ⟨w2.heap.size, 0, none⟩) 1 1) [300]) := (OwnInts.piece (l := [300]) H300.out (Nat.le_refl _) (Nat.lt_succ_self _) 1).but hb (.inl (by omega))
    have HB3 : Hid (But g w w3) := (HB2.out.alloc _).trans hb
    have HD3 : Hid (DrawOk B g w3) := hd'
    clear hb hd'
    have FIN : Hid (∀ (n : Nat) (R : List Int), R.length = n → n ≤ 301 → Drawn B g w (((w3.alloc (.cells (vals R) 3)).setCell ⟨w1.heap.size, 0, none⟩ (.slice (some ⟨w2.heap.size, 0, none⟩) 1 1)).setCell ⟨w1.heap.size, 1, none⟩ (.slice (some ⟨w3.heap.size, 0, none⟩) n n)) w1.heap.size (.slice (some ⟨w2.heap.size, 0, none⟩) 1 1) (.slice (some ⟨w3.heap.size, 0, none⟩) n n) [300] R) := by
      intro n R hRn hn
      subst hRn
      have C : But w1.heap.size (w3.alloc (.cells (vals R) 3)) (((w3.alloc (.cells (vals R) 3)).setCell ⟨w1.heap.size, 0, none⟩ (.slice (some ⟨w2.heap.size, 0, none⟩) 1 1)).setCell ⟨w1.heap.size, 1, none⟩ (.slice (some ⟨w3.heap.size, 0, none⟩) R.length R.length)) := ((But.refl _ _).setCell 0 _).setCell 1 _
      have p1 := (P3.out.keep (bAlloc (Below.refl _ _) (.cells (vals R) 3))).but C (.inl (by omega))
      have p2 := ((newInts_alloc w3 R (Nat.le_refl _) (by omega)).butNe C (by omega)).piece
      have z5 := C.size
      have z6 : w3.heap.size + 1 ≤ (w3.alloc (.cells (vals R) 3)).heap.size := by simp
      exact ⟨(C.block w.heap.size (by simp; omega) (by omega)).trans ((Below.heap_alloc _ _ _ (by omega)).trans hR3), boxSet1 (boxSet0 (hX3.keep (bAlloc (Below.refl _ _) _)) _) _, hg, p1.mono (by omega) (by omega), p2.mono (by omega) (Nat.le_refl _), p1.apart p2 (.inl (by omega)), by simp, hn, ((HB3.out.alloc _).setNew (by omega) 0 _).setNew (by omega) 1 _, (HD3.out.alloc _).but C (by omega)⟩
    have c0 : ∀ R, (w3.alloc (.cells (vals R) 3)).cell? ⟨w1.heap.size, 0, none⟩ = some (.slice xa s.length xc) := fun R => (hX3.keep (bAlloc (Below.refl _ _) _)).c0
    have c1 : ∀ R, (w3.alloc (.cells (vals R) 3)).cell? ⟨w1.heap.size, 1, none⟩ = some (.slice ya d.length yc) := fun R => (hX3.keep (bAlloc (Below.refl _ _) _)).c1
    have e0 : ∀ R, (w3.alloc (.cells (vals R) 3)).frozen? ⟨w1.heap.size, 0, none⟩ = false := fun R => free_at (hX3.keep (bAlloc (Below.refl _ _) _)) 0
    have e1 : ∀ R, (w3.alloc (.cells (vals R) 3)).frozen? ⟨w1.heap.size, 1, none⟩ = false := fun R => free_at (hX3.keep (bAlloc (Below.refl _ _) _)) 1
    have hR4 : ∀ R, (w3.alloc (.cells (vals R) 3)).heap[w.heap.size]? = some (.cells #[.slice none 0 0, .slice none 0 0] 27 (0, 0)) := fun R => (Below.heap_alloc _ _ _ (by omega)).trans hR3
    have k0 : ∀ R, (w3.alloc (.cells (vals R) 3)).cell? ⟨w.heap.size, 0, none⟩ = some (.slice none 0 0) := fun R => cell_at (hR4 R) rfl
    have k1 : ∀ R, (w3.alloc (.cells (vals R) 3)).cell? ⟨w.heap.size, 1, none⟩ = some (.slice none 0 0) := fun R => cell_at (hR4 R) rfl
    have f0 : ∀ R, (w3.alloc (.cells (vals R) 3)).frozen? ⟨w.heap.size, 0, none⟩ = false := fun R => free_at (hR4 R) 0
    have f1 : ∀ R, (w3.alloc (.cells (vals R) 3)).frozen? ⟨w.heap.size, 1, none⟩ = false := fun R => free_at (hR4 R) 1
    clear hX3 hR3 hR4
    by_cases y5 : b = 0
    · subst y5
      have E1 := FIN.out 300 R0 LR0.out (by omega)
      have HE : Hid (Drawn B g w _ w1.heap.size _ _ _ _) := E1
      clear E1
      go_wp2_with fail
      obtain ⟨a1, a2, a3, a4⟩ := draw_end HE.out.r HE.out.hg HE.out.px HE.out.py HE.out.ap HE.out.but HE.out.ok
      exact bodyPost_ret (v := .agg #[_, _]) (results_arr rfl _ _ w.heap.size _ _ rfl a1) rfl ⟨_, _, _, rfl, a2, HE.out.ls, HE.out.ld, a3, a4⟩
    · obtain rfl : b = 1 := by omega
      have E1 := FIN.out 301 R1 LR1.out (by omega)
      have HE : Hid (Drawn B g w _ w1.heap.size _ _ _ _) := E1
      clear E1
      go_wp2_with fail
      obtain ⟨a1, a2, a3, a4⟩ := draw_end HE.out.r HE.out.hg HE.out.px HE.out.py HE.out.ap HE.out.but HE.out.ok
      exact bodyPost_ret (v := .agg #[_, _]) (results_arr rfl _ _ w.heap.size _ _ rfl a1) rfl ⟨_, _, _, rfl, a2, HE.out.ls, HE.out.ld, a3, a4⟩
  · have E1 : Hid (Drawn B g w w2 w1.heap.size (.slice xa s.length xc) (.slice ya d.length yc) s d) := 
      ⟨HR2.out, HX2.out, hg, HP2.out.mono (Nat.le_refl _) (by omega), HY2.out.mono (by omega) (by omega), HP2.out.apart HY2.out (.inl (by omega)), hls, by omega, HB2.out, HD2.out⟩
    go_wp2_with fail
    obtain ⟨a1, a2, a3, a4⟩ := draw_end E1.out.r E1.out.hg E1.out.px E1.out.py E1.out.ap E1.out.but E1.out.ok
    exact bodyPost_ret (v := .agg #[_, _]) (results_arr rfl _ _ w.heap.size _ _ rfl a1) rfl ⟨_, _, _, rfl, a2, E1.out.ls, E1.out.ld, a3, a4⟩
end Go.Proofs.YtcaidhmolnnikaaDoor
