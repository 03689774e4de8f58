/-
  The draw of Inner's laws: two signs and two arrays, whatever they are.
-/
import Derived.Test.YtnkacfgbkfkhdaaGreatY38
import Derived.Deep.RegionHeld3
import Derived.Deep.Cut
namespace Go.Proofs.YtnkacfgbkfkhdaaGreat
open Go.RowKit
set_option linter.unusedVariables false
set_option linter.unusedSimpArgs false
/-- Two results in slots, and two arrays in cells behind them. -/
theorem results_tmp2_arr2 {fn : Func} {t t' p q : Tmp} (h : fn.results = #[.tmp t, .tmp t', .cell p 26, .cell q 26]) (tmps : Array Value) (w : World) (g k : Nat) (x y x' y' : Value) (hp : tmps.getD p undef = .pointer (some ⟨g, 0, none⟩)) (hq : tmps.getD q undef = .pointer (some ⟨k, 0, none⟩))
    (hg : w.heap[g]? = some (.cells #[x, y] 26 (0, 0))) (hk : w.heap[k]? = some (.cells #[x', y'] 26 (0, 0))) : (results fn tmps).run Tryz.prog w = .ok (.tuple #[tmps.getD t undef, tmps.getD t' undef, .agg #[x, y], .agg #[x', y']]) w := by
  have e : (asAddr (.pointer (some ⟨g, 0, none⟩))).run Tryz.prog w = .ok ⟨g, 0, none⟩ w := by simp [asAddr]
  have e' : (asAddr (.pointer (some ⟨k, 0, none⟩))).run Tryz.prog w = .ok ⟨k, 0, none⟩ w := by simp [asAddr]
  have l := arr_loaded hg
  have l' := arr_loaded hk
  have hp' : tmps[p]?.getD undef = .pointer (some ⟨g, 0, none⟩) := by simpa using hp
  have hq' : tmps[q]?.getD undef = .pointer (some ⟨k, 0, none⟩) := by simpa using hq
  simp [results, h, hp', hq', e, e', l, l', Sem.run_bind, Result.andThen]
/-- One array lies in its block. -/
structure InA (B g : Nat) (w W : World) (qa : Nat) (x y : Value) (s d : List Int) : Prop where
  ra : Box W w.heap.size (.slice none 0 0) (.slice none 0 0) 26
  rb : Box W (w.heap.size + 1) (.slice none 0 0) (.slice none 0 0) 26
  za : Box W qa x y 26
  a : Arr (g + 1) W.heap.size W (.agg #[x, y]) s d
  hg : w.heap.size + 2 ≤ g
  nea : g < qa
  len : s.length ≤ 4 ∧ d.length ≤ 301
  bl : Below w.heap.size w W
  ok : DrawOk B g W
theorem win2 (W : World) (q : Nat) (x y : Value) : Win q (q + 1) W ((W.setCell ⟨q, 0, none⟩ x).setCell ⟨q, 1, none⟩ y) := (win_setCell _ _ _ _).trans (win_setCell _ _ _ _)
theorem size2 (W : World) (q : Nat) (x y : Value) : ((W.setCell ⟨q, 0, none⟩ x).setCell ⟨q, 1, none⟩ y).heap.size = W.heap.size := by rw [size_setCell, size_setCell]
theorem ok2 {B g : Nat} {W : World} (h : DrawOk B g W) {q : Nat} (hq : g < q) (x y : Value) : DrawOk B g ((W.setCell ⟨q, 0, none⟩ x).setCell ⟨q, 1, none⟩ y) := by
  have h1 := h.1
  refine h.keep (below_setCell (below_setCell (Below.refl _ _) (by omega) _ _) (by omega) _ _) ?_
  rw [heap_setCell_other _ _ _ _ (by show g ≠ q; omega), heap_setCell_other _ _ _ _ (by show g ≠ q; omega)]
section
variable {B g : Nat} {w W W' : World} {qa qb : Nat} {x y x' y' x0 y0 : Value} {s d t f s0 d0 : List Int}
theorem InA.but (h : InA B g w W qa x y s d) (hb : But g W W') (hd : DrawOk B g W') : InA B g w W' qa x y s d := by
  have h2 := h.hg
  have h3 := h.nea
  exact ⟨boxBut h.ra hb (by omega), boxBut h.rb hb (by omega), boxBut h.za hb (by omega), (h.a.but hb (.inl (Nat.lt_succ_self _))).mono (Nat.le_refl _) hb.size, h2, h3, h.len, h.bl.trans (hb.below (by omega) h.bl.size), hd⟩
theorem InA.below (h : InA B g w W qa x y s d) (hb : Below W.heap.size W W') : InA B g w W' qa x y s d := by
  have h3 := h.za.lt
  have h4 := h.nea
  exact h.but (But.of hb) (h.ok.but (But.of (g := W.heap.size) hb) (by omega))
theorem InA.set (h : InA B g w W qa x y s d) {L : Nat} (hA : Arr L W.heap.size W (.agg #[x0, y0]) s0 d0) (hL : qa < L) (hl : s0.length ≤ 4 ∧ d0.length ≤ 301) : InA B g w ((W.setCell ⟨qa, 0, none⟩ x0).setCell ⟨qa, 1, none⟩ y0) qa x0 y0 s0 d0 := by
  have h2 := h.hg
  have h3 := h.nea
  have ww := win2 W qa x0 y0
  have sz := size2 W qa x0 y0
  have h5 := h.bl.size
  exact ⟨h.ra.win ww (.inl (by omega)), h.rb.win ww (.inl (by omega)), arr_stored h.za, (hA.win ww (.inr (by omega))).mono (by omega) (by omega), h2, h3, hl, below_setCell (below_setCell h.bl (by omega) _ _) (by omega) _ _, ok2 h.ok h3 _ _⟩
/-- Both arrays lie in their blocks. -/
structure InB (B g : Nat) (w W : World) (qa qb : Nat) (x y x' y' : Value) (s d t f : List Int) : Prop where
  ra : Box W w.heap.size (.slice none 0 0) (.slice none 0 0) 26
  rb : Box W (w.heap.size + 1) (.slice none 0 0) (.slice none 0 0) 26
  za : Box W qa x y 26
  zb : Box W qb x' y' 26
  a : Arr (g + 1) qb W (.agg #[x, y]) s d
  c : Arr (qa + 1) W.heap.size W (.agg #[x', y']) t f
  hg : w.heap.size + 2 ≤ g
  nea : g < qa
  nab : qa < qb
  len : s.length ≤ 4 ∧ d.length ≤ 301 ∧ t.length ≤ 4 ∧ f.length ≤ 301
  bl : Below w.heap.size w W
  ok : DrawOk B g W
theorem InA.two (h : InA B g w W qa x y s d) {L : Nat} (hA : Arr L W.heap.size W (.agg #[x', y']) t f) (hL : qa < L) (hl : t.length ≤ 4 ∧ f.length ≤ 301) : InB B g w (W.alloc (.cells #[x', y'] 26)) qa W.heap.size x y x' y' s d t f := by
  have hb : Below W.heap.size W (W.alloc (.cells #[x', y'] 26)) := bAlloc (Below.refl _ _) _
  have k := h.below hb
  have sz : (W.alloc (.cells #[x', y'] 26)).heap.size = W.heap.size + 1 := by simp
  exact ⟨k.ra, k.rb, k.za, box_new W _ _ _, h.a.keep hb, (hA.keep hb).mono (by omega) (by omega), h.hg, h.nea, h.za.lt, ⟨h.len.1, h.len.2, hl.1, hl.2⟩, k.bl, k.ok⟩
theorem InB.but (h : InB B g w W qa qb x y x' y' s d t f) (hb : But g W W') (hd : DrawOk B g W') : InB B g w W' qa qb x y x' y' s d t f := by
  have h2 := h.hg
  have h3 := h.nea
  have h4 := h.nab
  exact ⟨boxBut h.ra hb (by omega), boxBut h.rb hb (by omega), boxBut h.za hb (by omega), boxBut h.zb hb (by omega), h.a.but hb (.inl (Nat.lt_succ_self _)), (h.c.but hb (.inl (by omega))).mono (Nat.le_refl _) hb.size, h2, h3, h4, h.len, h.bl.trans (hb.below (by omega) h.bl.size), hd⟩
theorem InB.below (h : InB B g w W qa qb x y x' y' s d t f) (hb : Below W.heap.size W W') : InB B g w W' qa qb x y x' y' s d t f := by
  have h3 := h.za.lt
  have h4 := h.nea
  exact h.but (But.of hb) (h.ok.but (But.of (g := W.heap.size) hb) (by omega))
theorem InB.set (h : InB B g w W qa qb x y x' y' s d t f) {L : Nat} (hA : Arr L W.heap.size W (.agg #[x0, y0]) s0 d0) (hL : qb < L) (hl : s0.length ≤ 4 ∧ d0.length ≤ 301) : InB B g w ((W.setCell ⟨qb, 0, none⟩ x0).setCell ⟨qb, 1, none⟩ y0) qa qb x y x0 y0 s d s0 d0 := by
  have h2 := h.hg
  have h3 := h.nea
  have h4 := h.nab
  have ww := win2 W qb x0 y0
  have sz := size2 W qb x0 y0
  have h5 := h.bl.size
  exact ⟨h.ra.win ww (.inl (by omega)), h.rb.win ww (.inl (by omega)), h.za.win ww (.inl (by omega)), arr_stored h.zb, h.a.win ww (.inl (by omega)), (hA.win ww (.inr (by omega))).mono (by omega) (by omega), h2, h3, h4, ⟨h.len.1, h.len.2.1, hl.1, hl.2⟩, below_setCell (below_setCell h.bl (by omega) _ _) (by omega) _ _, ok2 h.ok (by omega) _ _⟩
/-- Ahead of the end. -/
structure InC (w W : World) (qa qb : Nat) (x y x' y' : Value) (s d t f : List Int) : Prop where
  ra : Box W w.heap.size (.slice none 0 0) (.slice none 0 0) 26
  rb : Box W (w.heap.size + 1) (.slice none 0 0) (.slice none 0 0) 26
  za : Box W qa x y 26
  zb : Box W qb x' y' 26
  a : Arr (w.heap.size + 2) W.heap.size W (.agg #[x, y]) s d
  c : Arr (w.heap.size + 2) W.heap.size W (.agg #[x', y']) t f
  len : s.length ≤ 4 ∧ d.length ≤ 301 ∧ t.length ≤ 4 ∧ f.length ≤ 301
  bl : Below w.heap.size w W
  na : w.heap.size + 1 < qa
  nb : w.heap.size + 1 < qb
theorem InB.fin (h : InB B g w W qa qb x y x' y' s d t f) : InC w W qa qb x y x' y' s d t f := by
  have h2 := h.hg
  have h3 := h.nea
  have h4 := h.zb.lt
  exact ⟨h.ra, h.rb, h.za, h.zb, h.a.mono (by omega) (by omega), h.c.mono (by omega) (Nat.le_refl _), h.len, h.bl, by omega, by have := h.nab; omega⟩
theorem InB.finA (h : InB B g w W qa qb x y x' y' s d t f) {L : Nat} (hA : Arr L W.heap.size W (.agg #[x0, y0]) s0 d0) (hL : qa < L) (hl : s0.length ≤ 4 ∧ d0.length ≤ 301) : InC w ((W.setCell ⟨qa, 0, none⟩ x0).setCell ⟨qa, 1, none⟩ y0) qa qb x0 y0 x' y' s0 d0 t f := by
  have h2 := h.hg
  have h3 := h.nea
  have h4 := h.nab
  have ww := win2 W qa x0 y0
  have sz := size2 W qa x0 y0
  have h5 := h.bl.size
  exact ⟨h.ra.win ww (.inl (by omega)), h.rb.win ww (.inl (by omega)), arr_stored h.za, h.zb.win ww (.inr (by omega)), (hA.win ww (.inr (by omega))).mono (by omega) (by omega), (h.c.win ww (.inr (by omega))).mono (by omega) (by omega), ⟨hl.1, hl.2, h.len.2.2.1, h.len.2.2.2⟩, below_setCell (below_setCell h.bl (by omega) _ _) (by omega) _ _, by omega, by omega⟩
end
set_option maxRecDepth 20000 in
set_option maxHeartbeats 80000000 in
/-- DrawInner. -/
theorem drawInner_spec {w : World} {a : Option Addr} {len cap : Nat} (hs : Src w.heap.size w a len) (hb20 : len ≤ 1048576) :
    Calls Tryz.prog 5 #[.slice a len cap] w fun e w' => ∃ p q v u s d t f, e = .returned (.tuple #[.int .i64 p, .int .i64 q, v, u]) ∧ Arr w.heap.size w'.heap.size w' v s d ∧ Arr w.heap.size w'.heap.size w' u t f ∧ (s.length ≤ 4 ∧ d.length ≤ 301 ∧ t.length ≤ 4 ∧ f.length ≤ 301) ∧ Below w.heap.size w w' := by
  obtain ⟨W0, hW0⟩ : ∃ x, x = (w.alloc (.cells #[.slice none 0 0, .slice none 0 0] 26)).alloc (.cells #[.slice none 0 0, .slice none 0 0] 26) := ⟨_, rfl⟩
  have HB0 : Hid (Below w.heap.size w W0) := by rw [hW0]; exact bAlloc (bAlloc (Below.refl _ _) _) _
  have HS : Hid (Src W0.heap.size W0 a len) := srcKeep hs HB0.out
  have RA0 : Hid (Box W0 w.heap.size (.slice none 0 0) (.slice none 0 0) 26) := by rw [hW0]; exact heap_alloc2_old w _ _
  have RB0 : Hid (Box W0 (w.heap.size + 1) (.slice none 0 0) (.slice none 0 0) 26) := by rw [hW0]; exact heap_alloc2_new w _ _
  have SW0 : W0.heap.size = w.heap.size + 2 := by rw [hW0]; simp
  clear hs
  go_enter Tryz.func5, Tryz.ntmps5
  go_wp2_with fail
  rw [← hW0]
  refine (new_spec HS.out hb20).mono ?_
  rintro e wa ⟨g, rfl, hb, hd⟩
  have HBa : Hid (Below w.heap.size w wa) := bTrans HB0.out hb
  have RAa : Hid (Box wa w.heap.size (.slice none 0 0) (.slice none 0 0) 26) := RA0.out.keep hb
  have RBa : Hid (Box wa (w.heap.size + 1) (.slice none 0 0) (.slice none 0 0) 26) := RB0.out.keep hb
  have HDa : Hid (DrawOk W0.heap.size g wa) := hd
  have hg0 : w.heap.size + 2 ≤ g := by have := hd.1; omega
  clear hb hd hW0 RA0 RB0 HB0
  go_wp2_with fail
  refine (sign_spec HDa.out).mono ?_
  rintro e w1 ⟨pf, rfl, hb, hd⟩
  have HB1 : Hid (Below w.heap.size w w1) := HBa.out.trans (hb.below (by omega) HBa.out.size)
  have RA1 : Hid (Box w1 w.heap.size (.slice none 0 0) (.slice none 0 0) 26) := boxBut RAa.out hb (by omega)
  have RB1 : Hid (Box w1 (w.heap.size + 1) (.slice none 0 0) (.slice none 0 0) 26) := boxBut RBa.out hb (by omega)
  have HD1 : Hid (DrawOk W0.heap.size g w1) := hd
  clear hb hd RAa RBa HBa HDa
  go_wp2_with fail
  refine (sign_spec HD1.out).mono ?_
  rintro e w2 ⟨pg, rfl, hb, hd⟩
  have HB2 : Hid (Below w.heap.size w w2) := HB1.out.trans (hb.below (by omega) HB1.out.size)
  have RA2 : Hid (Box w2 w.heap.size (.slice none 0 0) (.slice none 0 0) 26) := boxBut RA1.out hb (by omega)
  have RB2 : Hid (Box w2 (w.heap.size + 1) (.slice none 0 0) (.slice none 0 0) 26) := boxBut RB1.out hb (by omega)
  have HD2 : Hid (DrawOk W0.heap.size g w2) := hd
  clear hb hd RA1 RB1 HB1 HD1
  go_wp2_with fail
  refine (below_small HD2.out 4 (by decide) (by decide)).mono ?_
  rintro e w3 ⟨n, n0, n4, rfl, hb, hd⟩
  have HB3 : Hid (Below w.heap.size w w3) := HB2.out.trans (hb.below (by omega) HB2.out.size)
  have RA3 : Hid (Box w3 w.heap.size (.slice none 0 0) (.slice none 0 0) 26) := boxBut RA2.out hb (by omega)
  have RB3 : Hid (Box w3 (w.heap.size + 1) (.slice none 0 0) (.slice none 0 0) 26) := boxBut RB2.out hb (by omega)
  have HD3 : Hid (DrawOk W0.heap.size g w3) := hd
  clear hb hd RA2 RB2 HB2 HD2
  go_wp2_with fail
  generalize hW : w3.alloc (.cells #[.int .i64 n] 3) = W4
  have HD4 : Hid (DrawOk W0.heap.size g W4) := by rw [← hW]; exact HD3.out.alloc _
  have b4 : Below w3.heap.size w3 W4 := by rw [← hW]; exact bAlloc (Below.refl _ _) _
  have RA4 : Hid (Box W4 w.heap.size (.slice none 0 0) (.slice none 0 0) 26) := RA3.out.keep b4
  have RB4 : Hid (Box W4 (w.heap.size + 1) (.slice none 0 0) (.slice none 0 0) 26) := RB3.out.keep b4
  have HB4 : Hid (Below w.heap.size w W4) := bTrans HB3.out b4
  have hg3 := HD3.out.lt
  have hg4 := HD4.out.lt
  have NP : Hid (Piece (g + 1) W4.heap.size W4 (.slice (some ⟨w3.heap.size, 0, none⟩) 1 1) [n]) := by
    rw [← hW]
    exact OwnInts.piece (ownInts_new w3 [n]) (by omega) (by simp) _
  clear hW b4 RA3 RB3 HB3 HD3
  refine (fill_draw HD4.out NP.out (by simp)).mono ?_
  rintro r w5 ⟨x', y', d, M, rfl, ⟨hM1, hM2⟩, hp, hn, hl3, hb, hd⟩
  obtain ⟨xa, xc, hx, _⟩ := hp.ints
  obtain ⟨ya, yc, hy, _⟩ := hn.ints
  subst hx hy
  have N5 : Hid (Arr W4.heap.size w5.heap.size w5 (.agg #[.slice xa [n].length xc, .slice ya d.length yc]) [n] d) := ⟨_, _, rfl, hp.mono (Nat.le_refl _) hM2, hn.piece.mono (by omega) (Nat.le_refl _), hp.apart hn.piece (.inl (Nat.le_refl _))⟩
  have RA5 : Hid (Box w5 w.heap.size (.slice none 0 0) (.slice none 0 0) 26) := boxBut RA4.out hb (by omega)
  have RB5 : Hid (Box w5 (w.heap.size + 1) (.slice none 0 0) (.slice none 0 0) 26) := boxBut RB4.out hb (by omega)
  have HB5 : Hid (Below w.heap.size w w5) := HB4.out.trans (hb.below (by omega) HB4.out.size)
  have HD5 : Hid (DrawOk W0.heap.size g w5) := hd
  have S45 : Hid (W4.heap.size ≤ w5.heap.size) := hb.size
  clear hp hn hb hd RA4 RB4 HB4 HD4 NP
  go_wp2_with fail
  have E1 : [n].length = 1 := rfl
  generalize hW : w5.alloc (.cells #[.slice xa [n].length xc, .slice ya d.length yc] 26) = w6
  have ST6 : Hid (InA W0.heap.size g w w6 w5.heap.size (.slice xa [n].length xc) (.slice ya d.length yc) [n] d) := by
    have bb : Below w5.heap.size w5 w6 := by rw [← hW]; exact bAlloc (Below.refl _ _) _
    have h1 := S45.out
    exact ⟨RA5.out.keep bb, RB5.out.keep bb, by rw [← hW]; exact box_new w5 _ _ _, (N5.out.keep bb).mono (by omega) bb.size, hg0, by omega, ⟨by simp, by omega⟩, bTrans HB5.out bb, HD5.out.but (But.of (g := w5.heap.size) bb) (by omega)⟩
  clear hW RA5 RB5 HB5 HD5 N5
  obtain ⟨qa, hqa⟩ : ∃ qa, qa = w5.heap.size := ⟨_, rfl⟩
  rw [← hqa] at ST6 ⊢
  clear hqa S45 E1
  obtain ⟨s, hs⟩ : ∃ s, s = [n] := ⟨_, rfl⟩
  rw [← hs] at ST6
  clear hs
  go_wp2_with fail
  refine (once_spec ST6.out.ok 2 (by decide) (by decide)).mono ?_
  rintro e w7 ⟨bo, rfl, hb, hd⟩
  have ST7 : Hid (InA W0.heap.size g w w7 qa (.slice xa s.length xc) (.slice ya d.length yc) s d) := ST6.out.but hb hd
  clear hb hd ST6
  go_upto_if 25 with fail
  go_cut [] from 26 (fun w' => ∃ (xa : Option Addr) (xc : Nat) (ya : Option Addr) (yc : Nat) (s d : List Int), InA W0.heap.size g w w' qa (.slice xa s.length xc) (.slice ya d.length yc) s d)
  case first =>
    cases bo
    · go_wp2_with fail
      go_meet
      case rel => exact ⟨_, _, _, _, _, _, ST7.out⟩
    · skip
      go_wp2_with fail
      refine (below_small ST7.out.ok 4 (by decide) (by decide)).mono ?_
      rintro e w8 ⟨k, k0, k4, rfl, hb, hd⟩
      have ST8 : Hid (InA W0.heap.size g w w8 qa (.slice xa s.length xc) (.slice ya d.length yc) s d) := ST7.out.but hb hd
      clear hb hd ST7
      go_wp2_with fail
      generalize hW : w8.alloc (.cells #[.int .i64 k, .int .i64 n] 3) = W8
      have ST8' : Hid (InA W0.heap.size g w W8 qa (.slice xa s.length xc) (.slice ya d.length yc) s d) := by rw [← hW]; exact ST8.out.below (bAlloc (Below.refl _ _) _)
      have qlt : Hid (qa < w8.heap.size) := ST8.out.za.lt
      have NP : Hid (Piece (g + 1) W8.heap.size W8 (.slice (some ⟨w8.heap.size, 0, none⟩) 2 2) [k, n]) := by
        have z1 := ST8.out.za.lt
        have z2 := ST8.out.nea
        rw [← hW]
        exact OwnInts.piece (ownInts_new w8 [k, n]) (by omega) (by simp) _
      have LL : Hid (w8.heap.size < W8.heap.size) := by rw [← hW]; show _ < _; simp
      clear hW
      refine (fill_draw ST8'.out.ok NP.out (by simp)).mono ?_
      rintro r w9 ⟨x', y', f', M, rfl, ⟨hM1, hM2⟩, hp, hn, hl3, hb, hd⟩
      obtain ⟨ka, kc, hx, _⟩ := hp.ints
      obtain ⟨la, lc, hy, _⟩ := hn.ints
      subst hx hy
      have ST9 : Hid (InA W0.heap.size g w w9 qa (.slice xa s.length xc) (.slice ya d.length yc) s d) := ST8'.out.but hb hd
      have N9 : Hid (Arr W8.heap.size w9.heap.size w9 (.agg #[.slice ka [k, n].length kc, .slice la f'.length lc]) [k, n] f') := ⟨_, _, rfl, hp.mono (Nat.le_refl _) hM2, hn.piece.mono (by omega) (Nat.le_refl _), hp.apart hn.piece (.inl (Nat.le_refl _))⟩
      have FL : Hid (f'.length ≤ 301) := by show _ ≤ _; omega
      clear hp hn hb hd ST8' NP ST8 hM1 hM2 hl3
      have b0 := ST9.out.za.c0
      have b1 := ST9.out.za.c1
      have g0 : w9.frozen? ⟨qa, 0, none⟩ = false := free_at ST9.out.za 0
      have g1 : w9.frozen? ⟨qa, 1, none⟩ = false := free_at ST9.out.za 1
      go_wp2_with fail
      clear b0 b1 g0 g1
      generalize hW : (w9.setCell ⟨qa, 0, none⟩ (.slice ka [k, n].length kc)).setCell ⟨qa, 1, none⟩ (.slice la f'.length lc) = w16
      have ST16 : Hid (InA W0.heap.size g w w16 qa (.slice ka [k, n].length kc) (.slice la f'.length lc) [k, n] f') := by rw [← hW]; exact ST9.out.set N9.out (by have := qlt.out; have := LL.out; omega) ⟨by simp, FL.out⟩
      clear hW ST9 N9 qlt LL FL
      obtain ⟨xa, hxa⟩ : ∃ xa, xa = ka := ⟨_, rfl⟩
      obtain ⟨xc, hxc⟩ : ∃ xc, xc = kc := ⟨_, rfl⟩
      obtain ⟨ya, hya⟩ : ∃ ya, ya = la := ⟨_, rfl⟩
      obtain ⟨yc, hyc⟩ : ∃ yc, yc = lc := ⟨_, rfl⟩
      obtain ⟨s, hs⟩ : ∃ s, s = [k, n] := ⟨_, rfl⟩
      obtain ⟨d, hd⟩ : ∃ d, d = f' := ⟨_, rfl⟩
      rw [← hxa, ← hxc, ← hya, ← hyc, ← hs, ← hd] at ST16
      clear hxa hxc hya hyc hs hd
      go_meet
      case rel => exact ⟨_, _, _, _, _, _, ST16.out⟩
  obtain ⟨w17, hwc⟩ : ∃ x, x = wc := ⟨_, rfl⟩
  subst hwc
  clear ST7
  obtain ⟨xa, xc, ya, yc, s, d, st⟩ := hcut
  have ST17 : Hid (InA W0.heap.size g w w17 qa (.slice xa s.length xc) (.slice ya d.length yc) s d) := st
  clear st
  go_wp2_with fail
  generalize hW : w17.alloc (.cells #[.int .i64 n] 3) = W17
  have ST17' : Hid (InA W0.heap.size g w W17 qa (.slice xa s.length xc) (.slice ya d.length yc) s d) := by rw [← hW]; exact ST17.out.below (bAlloc (Below.refl _ _) _)
  have qlt : Hid (qa < w17.heap.size) := ST17.out.za.lt
  have NP : Hid (Piece (g + 1) W17.heap.size W17 (.slice (some ⟨w17.heap.size, 0, none⟩) 1 1) [n]) := by
    have z1 := ST17.out.za.lt
    have z2 := ST17.out.nea
    rw [← hW]
    exact OwnInts.piece (ownInts_new w17 [n]) (by omega) (by simp) _
  have LL : Hid (w17.heap.size < W17.heap.size) := by rw [← hW]; show _ < _; simp
  clear hW
  refine (fill_draw ST17'.out.ok NP.out (by simp)).mono ?_
  rintro r w10 ⟨x', y', f', M, rfl, ⟨hM1, hM2⟩, hp, hn, hl3, hb, hd⟩
  obtain ⟨ka, kc, hx, _⟩ := hp.ints
  obtain ⟨la, lc, hy, _⟩ := hn.ints
  subst hx hy
  have ST10 : Hid (InA W0.heap.size g w w10 qa (.slice xa s.length xc) (.slice ya d.length yc) s d) := ST17'.out.but hb hd
  have N10 : Hid (Arr W17.heap.size w10.heap.size w10 (.agg #[.slice ka [n].length kc, .slice la f'.length lc]) [n] f') := ⟨_, _, rfl, hp.mono (Nat.le_refl _) hM2, hn.piece.mono (by omega) (Nat.le_refl _), hp.apart hn.piece (.inl (Nat.le_refl _))⟩
  have FL : Hid (f'.length ≤ 301) := by show _ ≤ _; omega
  clear hp hn hb hd ST17' NP ST17 hM1 hM2 hl3
  go_wp2_with fail
  have E1 : [n].length = 1 := rfl
  generalize hW : w10.alloc (.cells #[.slice ka [n].length kc, .slice la f'.length lc] 26) = w11
  have ST11 : Hid (InB W0.heap.size g w w11 qa w10.heap.size (.slice xa s.length xc) (.slice ya d.length yc) (.slice ka [n].length kc) (.slice la f'.length lc) s d [n] f') := by rw [← hW]; exact ST10.out.two N10.out (by have := qlt.out; have := LL.out; omega) ⟨by simp, FL.out⟩
  clear hW ST10 N10 qlt LL FL E1
  obtain ⟨qb, hqb⟩ : ∃ qb, qb = w10.heap.size := ⟨_, rfl⟩
  rw [← hqb] at ST11 ⊢
  clear hqb
  obtain ⟨ua, hua⟩ : ∃ ua, ua = ka := ⟨_, rfl⟩
  obtain ⟨uc, huc⟩ : ∃ uc, uc = kc := ⟨_, rfl⟩
  obtain ⟨va, hva⟩ : ∃ va, va = la := ⟨_, rfl⟩
  obtain ⟨vc, hvc⟩ : ∃ vc, vc = lc := ⟨_, rfl⟩
  obtain ⟨t, ht⟩ : ∃ t, t = [n] := ⟨_, rfl⟩
  obtain ⟨f, hf⟩ : ∃ f, f = f' := ⟨_, rfl⟩
  rw [← hua, ← huc, ← hva, ← hvc, ← ht, ← hf] at ST11
  clear hua huc hva hvc ht hf
  go_wp2_with fail
  refine (once_spec ST11.out.ok 2 (by decide) (by decide)).mono ?_
  rintro e w12 ⟨bo, rfl, hb, hd⟩
  have ST12 : Hid (InB W0.heap.size g w w12 qa qb (.slice xa s.length xc) (.slice ya d.length yc) (.slice ua t.length uc) (.slice va f.length vc) s d t f) := ST11.out.but hb hd
  clear hb hd ST11
  go_upto_if 37 with fail
  go_cut [] from 38 (fun w' => ∃ (ua : Option Addr) (uc : Nat) (va : Option Addr) (vc : Nat) (t f : List Int), InB W0.heap.size g w w' qa qb (.slice xa s.length xc) (.slice ya d.length yc) (.slice ua t.length uc) (.slice va f.length vc) s d t f)
  case first =>
    cases bo
    · go_wp2_with fail
      go_meet
      case rel => exact ⟨_, _, _, _, _, _, ST12.out⟩
    · skip
      go_wp2_with fail
      refine (below_small ST12.out.ok 4 (by decide) (by decide)).mono ?_
      rintro e w13 ⟨m, m0, m4, rfl, hb, hd⟩
      have ST13 : Hid (InB W0.heap.size g w w13 qa qb (.slice xa s.length xc) (.slice ya d.length yc) (.slice ua t.length uc) (.slice va f.length vc) s d t f) := ST12.out.but hb hd
      clear hb hd ST12
      have qbl : Hid (qb < w13.heap.size) := ST13.out.zb.lt
      go_wp2_with fail
      generalize hW : w13.alloc (.cells #[.int .i64 n, .int .i64 m] 3) = W13
      have ST13' : Hid (InB W0.heap.size g w W13 qa qb (.slice xa s.length xc) (.slice ya d.length yc) (.slice ua t.length uc) (.slice va f.length vc) s d t f) := by rw [← hW]; exact ST13.out.below (bAlloc (Below.refl _ _) _)
      have qlt : Hid (qa < w13.heap.size) := ST13.out.za.lt
      have NP : Hid (Piece (g + 1) W13.heap.size W13 (.slice (some ⟨w13.heap.size, 0, none⟩) 2 2) [n, m]) := by
        have z1 := ST13.out.za.lt
        have z2 := ST13.out.nea
        rw [← hW]
        exact OwnInts.piece (ownInts_new w13 [n, m]) (by omega) (by simp) _
      have LL : Hid (w13.heap.size < W13.heap.size) := by rw [← hW]; show _ < _; simp
      clear hW
      refine (fill_draw ST13'.out.ok NP.out (by simp)).mono ?_
      rintro r w14 ⟨x', y', f', M, rfl, ⟨hM1, hM2⟩, hp, hn, hl3, hb, hd⟩
      obtain ⟨ka, kc, hx, _⟩ := hp.ints
      obtain ⟨la, lc, hy, _⟩ := hn.ints
      subst hx hy
      have ST14 : Hid (InB W0.heap.size g w w14 qa qb (.slice xa s.length xc) (.slice ya d.length yc) (.slice ua t.length uc) (.slice va f.length vc) s d t f) := ST13'.out.but hb hd
      have N14 : Hid (Arr W13.heap.size w14.heap.size w14 (.agg #[.slice ka [n, m].length kc, .slice la f'.length lc]) [n, m] f') := ⟨_, _, rfl, hp.mono (Nat.le_refl _) hM2, hn.piece.mono (by omega) (Nat.le_refl _), hp.apart hn.piece (.inl (Nat.le_refl _))⟩
      have FL : Hid (f'.length ≤ 301) := by show _ ≤ _; omega
      clear hp hn hb hd ST13' NP ST13 hM1 hM2 hl3
      have b0 := ST14.out.zb.c0
      have b1 := ST14.out.zb.c1
      have g0 : w14.frozen? ⟨qb, 0, none⟩ = false := free_at ST14.out.zb 0
      have g1 : w14.frozen? ⟨qb, 1, none⟩ = false := free_at ST14.out.zb 1
      go_wp2_with fail
      clear b0 b1 g0 g1
      generalize hW : (w14.setCell ⟨qb, 0, none⟩ (.slice ka [n, m].length kc)).setCell ⟨qb, 1, none⟩ (.slice la f'.length lc) = w15
      have ST15 : Hid (InB W0.heap.size g w w15 qa qb (.slice xa s.length xc) (.slice ya d.length yc) (.slice ka [n, m].length kc) (.slice la f'.length lc) s d [n, m] f') := by rw [← hW]; exact ST14.out.set N14.out (by have := qbl.out; have := LL.out; omega) ⟨by simp, FL.out⟩
      clear hW ST14 N14 qlt qbl LL FL
      obtain ⟨ua, hua⟩ : ∃ ua, ua = ka := ⟨_, rfl⟩
      obtain ⟨uc, huc⟩ : ∃ uc, uc = kc := ⟨_, rfl⟩
      obtain ⟨va, hva⟩ : ∃ va, va = la := ⟨_, rfl⟩
      obtain ⟨vc, hvc⟩ : ∃ vc, vc = lc := ⟨_, rfl⟩
      obtain ⟨t, ht⟩ : ∃ t, t = [n, m] := ⟨_, rfl⟩
      obtain ⟨f, hf⟩ : ∃ f, f = f' := ⟨_, rfl⟩
      rw [← hua, ← huc, ← hva, ← hvc, ← ht, ← hf] at ST15
      clear hua huc hva hvc ht hf
      go_meet
      case rel => exact ⟨_, _, _, _, _, _, ST15.out⟩
  obtain ⟨w18, hwc⟩ : ∃ x, x = wc := ⟨_, rfl⟩
  subst hwc
  clear ST12
  obtain ⟨ua, uc, va, vc, t, f, st⟩ := hcut
  have ST18 : Hid (InB W0.heap.size g w w18 qa qb (.slice xa s.length xc) (.slice ya d.length yc) (.slice ua t.length uc) (.slice va f.length vc) s d t f) := st
  clear st
  go_wp2_with fail
  refine (below_small ST18.out.ok 9 (by decide) (by decide)).mono ?_
  rintro e w20 ⟨z, z0, z9, rfl, hb, hd⟩
  have ST20 : Hid (InB W0.heap.size g w w20 qa qb (.slice xa s.length xc) (.slice ya d.length yc) (.slice ua t.length uc) (.slice va f.length vc) s d t f) := ST18.out.but hb hd
  clear hb hd ST18
  by_cases h0 : z = 0
  · have c0 : (z == 0) = true := by rw [h0]; rfl
    clear h0
    have qlt : Hid (qa < w20.heap.size ∧ qb < w20.heap.size) := ⟨ST20.out.za.lt, ST20.out.zb.lt⟩
    go_wp2_with fail
    refine (draw_draw ST20.out.ok).mono ?_
    rintro e w21 ⟨v', s', d', rfl, hA, hls, hld, hb, hd⟩
    obtain ⟨px, py, rfl, pp, pq, ap⟩ := hA
    obtain ⟨ka, kc, hx, _⟩ := pp.ints
    obtain ⟨la, lc, hy, _⟩ := pq.ints
    subst hx hy
    have N21 : Hid (Arr w20.heap.size w21.heap.size w21 (.agg #[.slice ka s'.length kc, .slice la d'.length lc]) s' d') := ⟨_, _, rfl, pp, pq, ap⟩
    have FL : Hid (s'.length ≤ 4 ∧ d'.length ≤ 301) := ⟨hls, hld⟩
    have ST21 : Hid (InB W0.heap.size g w w21 qa qb (.slice xa s.length xc) (.slice ya d.length yc) (.slice ua t.length uc) (.slice va f.length vc) s d t f) := ST20.out.but hb hd
    clear hb hd pp pq ap ST20 hls hld
    have b0 := ST21.out.za.c0
    have b1 := ST21.out.za.c1
    have g0 : w21.frozen? ⟨qa, 0, none⟩ = false := free_at ST21.out.za 0
    have g1 : w21.frozen? ⟨qa, 1, none⟩ = false := free_at ST21.out.za 1
    go_wp2_with fail
    clear b0 b1 g0 g1
    generalize hW : (w21.setCell ⟨qa, 0, none⟩ (.slice ka s'.length kc)).setCell ⟨qa, 1, none⟩ (.slice la d'.length lc) = w22
    have CC : Hid (InC w w22 qa qb (.slice ka s'.length kc) (.slice la d'.length lc) (.slice ua t.length uc) (.slice va f.length vc) s' d' t f) := by rw [← hW]; exact ST21.out.finA N21.out (by have := qlt.out; omega) FL.out
    clear hW ST21 N21
    have r0 := CC.out.ra.c0
    have r1 := CC.out.ra.c1
    have r2 := CC.out.rb.c0
    have r3 := CC.out.rb.c1
    have q0 := CC.out.za.c0
    have q1 := CC.out.za.c1
    have q2 := CC.out.zb.c0
    have q3 := CC.out.zb.c1
    have f0 : w22.frozen? ⟨w.heap.size, 0, none⟩ = false := free_at CC.out.ra 0
    have f1 : w22.frozen? ⟨w.heap.size, 1, none⟩ = false := free_at CC.out.ra 1
    have f2 : w22.frozen? ⟨w.heap.size + 1, 0, none⟩ = false := free_at CC.out.rb 0
    have f3 : w22.frozen? ⟨w.heap.size + 1, 1, none⟩ = false := free_at CC.out.rb 1
    have na := CC.out.na
    have nb := CC.out.nb
    have n1 : qa ≠ w.heap.size := by omega
    have n2 : qa ≠ w.heap.size + 1 := by omega
    have n3 : qb ≠ w.heap.size := by omega
    have n4 : qb ≠ w.heap.size + 1 := by omega
    have FE := two_end CC.out.ra CC.out.rb CC.out.a CC.out.c CC.out.bl
    have FX : Hid (_ ∧ _ ∧ _ ∧ _ ∧ _) := FE
    clear FE
    go_wp2_with fail
    have KA : Hid (Box w22 qa (.slice ka s'.length kc) (.slice la d'.length lc) 26) := CC.out.za
    have KB : Hid (Box w22 qb (.slice ua t.length uc) (.slice va f.length vc) 26) := CC.out.zb
    go_region_held3 (fun w' => w'.cell? ⟨qa, 0, none⟩ = some (.slice ka s'.length kc) ∧ w'.cell? ⟨qa, 1, none⟩ = some (.slice la d'.length lc) ∧ w'.cell? ⟨qb, 0, none⟩ = some (.slice ua t.length uc) ∧ w'.cell? ⟨qb, 1, none⟩ = some (.slice va f.length vc))
      ((refine ⟨(show Box _ qa (.slice ka s'.length kc) (.slice la d'.length lc) 26 from ?_).c0, (show Box _ qa (.slice ka s'.length kc) (.slice la d'.length lc) 26 from ?_).c1, (show Box _ qb (.slice ua t.length uc) (.slice va f.length vc) 26 from ?_).c0, (show Box _ qb (.slice ua t.length uc) (.slice va f.length vc) 26 from ?_).c1⟩ <;> (repeat first | with_reducible exact KA.out | with_reducible exact KB.out | with_reducible refine Box.keep ?_ ((Below.refl _ _).drew) | with_reducible refine Box.win ?_ (win_setCell _ _ _ _) (.inr (by omega)))))
      (fail)
    all_goals go_wp2
    all_goals
      refine bodyPost_ret (results_tmp2_arr2 rfl _ _ w.heap.size (w.heap.size + 1) _ _ _ _ rfl rfl FX.out.1 FX.out.2.1) rfl ?_
      exact ⟨_, _, _, _, _, _, _, _, rfl, FX.out.2.2.1, FX.out.2.2.2.1, CC.out.len, FX.out.2.2.2.2.drew⟩
  · have c0 : (z == 0) = false := by simpa using h0
    by_cases h1 : z = 1
    · have c1 : (z == 1) = true := by rw [h1]; rfl
      clear h0 h1
      have qlt : Hid (qa < w20.heap.size ∧ qb < w20.heap.size) := ⟨ST20.out.za.lt, ST20.out.zb.lt⟩
      go_wp2_with fail
      refine (draw_draw ST20.out.ok).mono ?_
      rintro e w21 ⟨v', s', d', rfl, hA, hls, hld, hb, hd⟩
      obtain ⟨px, py, rfl, pp, pq, ap⟩ := hA
      obtain ⟨ka, kc, hx, _⟩ := pp.ints
      obtain ⟨la, lc, hy, _⟩ := pq.ints
      subst hx hy
      have N21 : Hid (Arr w20.heap.size w21.heap.size w21 (.agg #[.slice ka s'.length kc, .slice la d'.length lc]) s' d') := ⟨_, _, rfl, pp, pq, ap⟩
      have FL : Hid (s'.length ≤ 4 ∧ d'.length ≤ 301) := ⟨hls, hld⟩
      have ST21 : Hid (InB W0.heap.size g w w21 qa qb (.slice xa s.length xc) (.slice ya d.length yc) (.slice ua t.length uc) (.slice va f.length vc) s d t f) := ST20.out.but hb hd
      clear hb hd pp pq ap ST20 hls hld
      have b0 := ST21.out.zb.c0
      have b1 := ST21.out.zb.c1
      have g0 : w21.frozen? ⟨qb, 0, none⟩ = false := free_at ST21.out.zb 0
      have g1 : w21.frozen? ⟨qb, 1, none⟩ = false := free_at ST21.out.zb 1
      go_wp2_with fail
      clear b0 b1 g0 g1
      generalize hW : (w21.setCell ⟨qb, 0, none⟩ (.slice ka s'.length kc)).setCell ⟨qb, 1, none⟩ (.slice la d'.length lc) = w22
      have CC : Hid (InC w w22 qa qb (.slice xa s.length xc) (.slice ya d.length yc) (.slice ka s'.length kc) (.slice la d'.length lc) s d s' d') := by rw [← hW]; exact (ST21.out.set N21.out (by have := qlt.out; omega) FL.out).fin
      clear hW ST21 N21
      have r0 := CC.out.ra.c0
      have r1 := CC.out.ra.c1
      have r2 := CC.out.rb.c0
      have r3 := CC.out.rb.c1
      have q0 := CC.out.za.c0
      have q1 := CC.out.za.c1
      have q2 := CC.out.zb.c0
      have q3 := CC.out.zb.c1
      have f0 : w22.frozen? ⟨w.heap.size, 0, none⟩ = false := free_at CC.out.ra 0
      have f1 : w22.frozen? ⟨w.heap.size, 1, none⟩ = false := free_at CC.out.ra 1
      have f2 : w22.frozen? ⟨w.heap.size + 1, 0, none⟩ = false := free_at CC.out.rb 0
      have f3 : w22.frozen? ⟨w.heap.size + 1, 1, none⟩ = false := free_at CC.out.rb 1
      have na := CC.out.na
      have nb := CC.out.nb
      have n1 : qa ≠ w.heap.size := by omega
      have n2 : qa ≠ w.heap.size + 1 := by omega
      have n3 : qb ≠ w.heap.size := by omega
      have n4 : qb ≠ w.heap.size + 1 := by omega
      have FE := two_end CC.out.ra CC.out.rb CC.out.a CC.out.c CC.out.bl
      have FX : Hid (_ ∧ _ ∧ _ ∧ _ ∧ _) := FE
      clear FE
      go_wp2_with fail
      have KA : Hid (Box w22 qa (.slice xa s.length xc) (.slice ya d.length yc) 26) := CC.out.za
      have KB : Hid (Box w22 qb (.slice ka s'.length kc) (.slice la d'.length lc) 26) := CC.out.zb
      go_region_held3 (fun w' => w'.cell? ⟨qa, 0, none⟩ = some (.slice xa s.length xc) ∧ w'.cell? ⟨qa, 1, none⟩ = some (.slice ya d.length yc) ∧ w'.cell? ⟨qb, 0, none⟩ = some (.slice ka s'.length kc) ∧ w'.cell? ⟨qb, 1, none⟩ = some (.slice la d'.length lc))
        ((refine ⟨(show Box _ qa (.slice xa s.length xc) (.slice ya d.length yc) 26 from ?_).c0, (show Box _ qa (.slice xa s.length xc) (.slice ya d.length yc) 26 from ?_).c1, (show Box _ qb (.slice ka s'.length kc) (.slice la d'.length lc) 26 from ?_).c0, (show Box _ qb (.slice ka s'.length kc) (.slice la d'.length lc) 26 from ?_).c1⟩ <;> (repeat first | with_reducible exact KA.out | with_reducible exact KB.out | with_reducible refine Box.keep ?_ ((Below.refl _ _).drew) | with_reducible refine Box.win ?_ (win_setCell _ _ _ _) (.inr (by omega)))))
        (fail)
      all_goals go_wp2
      all_goals
        refine bodyPost_ret (results_tmp2_arr2 rfl _ _ w.heap.size (w.heap.size + 1) _ _ _ _ rfl rfl FX.out.1 FX.out.2.1) rfl ?_
        exact ⟨_, _, _, _, _, _, _, _, rfl, FX.out.2.2.1, FX.out.2.2.2.1, CC.out.len, FX.out.2.2.2.2.drew⟩
    · have c1 : (z == 1) = false := by simpa using h1
      clear h0 h1
      have CC : Hid (InC w w20 qa qb (.slice xa s.length xc) (.slice ya d.length yc) (.slice ua t.length uc) (.slice va f.length vc) s d t f) := ST20.out.fin
      have r0 := CC.out.ra.c0
      have r1 := CC.out.ra.c1
      have r2 := CC.out.rb.c0
      have r3 := CC.out.rb.c1
      have q0 := CC.out.za.c0
      have q1 := CC.out.za.c1
      have q2 := CC.out.zb.c0
      have q3 := CC.out.zb.c1
      have f0 : w20.frozen? ⟨w.heap.size, 0, none⟩ = false := free_at CC.out.ra 0
      have f1 : w20.frozen? ⟨w.heap.size, 1, none⟩ = false := free_at CC.out.ra 1
      have f2 : w20.frozen? ⟨w.heap.size + 1, 0, none⟩ = false := free_at CC.out.rb 0
      have f3 : w20.frozen? ⟨w.heap.size + 1, 1, none⟩ = false := free_at CC.out.rb 1
      have na := CC.out.na
      have nb := CC.out.nb
      have n1 : qa ≠ w.heap.size := by omega
      have n2 : qa ≠ w.heap.size + 1 := by omega
      have n3 : qb ≠ w.heap.size := by omega
      have n4 : qb ≠ w.heap.size + 1 := by omega
      have FE := two_end CC.out.ra CC.out.rb CC.out.a CC.out.c CC.out.bl
      have FX : Hid (_ ∧ _ ∧ _ ∧ _ ∧ _) := FE
      clear FE
      go_wp2_with fail
      have KA : Hid (Box w20 qa (.slice xa s.length xc) (.slice ya d.length yc) 26) := CC.out.za
      have KB : Hid (Box w20 qb (.slice ua t.length uc) (.slice va f.length vc) 26) := CC.out.zb
      go_region_held3 (fun w' => w'.cell? ⟨qa, 0, none⟩ = some (.slice xa s.length xc) ∧ w'.cell? ⟨qa, 1, none⟩ = some (.slice ya d.length yc) ∧ w'.cell? ⟨qb, 0, none⟩ = some (.slice ua t.length uc) ∧ w'.cell? ⟨qb, 1, none⟩ = some (.slice va f.length vc))
        ((refine ⟨(show Box _ qa (.slice xa s.length xc) (.slice ya d.length yc) 26 from ?_).c0, (show Box _ qa (.slice xa s.length xc) (.slice ya d.length yc) 26 from ?_).c1, (show Box _ qb (.slice ua t.length uc) (.slice va f.length vc) 26 from ?_).c0, (show Box _ qb (.slice ua t.length uc) (.slice va f.length vc) 26 from ?_).c1⟩ <;> (repeat first | with_reducible exact KA.out | with_reducible exact KB.out | with_reducible refine Box.keep ?_ ((Below.refl _ _).drew) | with_reducible refine Box.win ?_ (win_setCell _ _ _ _) (.inr (by omega)))))
        (fail)
      all_goals go_wp2
      all_goals
        refine bodyPost_ret (results_tmp2_arr2 rfl _ _ w.heap.size (w.heap.size + 1) _ _ _ _ rfl rfl FX.out.1 FX.out.2.1) rfl ?_
        exact ⟨_, _, _, _, _, _, _, _, rfl, FX.out.2.2.1, FX.out.2.2.2.1, CC.out.len, FX.out.2.2.2.2.drew⟩
end Go.Proofs.YtnkacfgbkfkhdaaGreat
