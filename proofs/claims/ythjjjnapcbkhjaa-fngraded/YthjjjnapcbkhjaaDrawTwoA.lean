/-
  Walks: the specification's l3DrawTwo.
-/
import Derived.Test.YthjjjnapcbkhjaaDrawFill3
import Derived.Test.YthjjjnapcbkhjaaSpecCopy
import Derived.Test.YthjjjnapcbkhjaaSpecPlace
namespace Go.Proofs.Ythjjjnapcbkhjaa
open Go.RowKit
set_option linter.unusedVariables false
set_option linter.unusedSimpArgs false
/-- Two arrays in two cells. -/
theorem results_arr2 {fn : Func} {p q : Tmp} (h : fn.results = #[.cell p 26, .cell q 26]) (tmps : Array Value) (w : World) (g k : Nat) (x y x' y' : Value) (hp : tmps.getD p undef = .pointer (some ⟨g, 0, none⟩)) (hq : tmps.getD q undef = .pointer (some ⟨k, 0, none⟩))
    (hg : w.heap[g]? = some (.cells #[x, y] 26 (0, 0))) (hk : w.heap[k]? = some (.cells #[x', y'] 26 (0, 0))) : (results fn tmps).run Try.prog w = .ok (.tuple #[.agg #[x, y], .agg #[x', y']]) w := by
  have e : (asAddr (.pointer (some ⟨g, 0, none⟩))).run Try.prog w = .ok ⟨g, 0, none⟩ w := by simp [asAddr]
  have e' : (asAddr (.pointer (some ⟨k, 0, none⟩))).run Try.prog w = .ok ⟨k, 0, none⟩ w := by simp [asAddr]
  have l := arr_loaded hg
  have l' := arr_loaded hk
  have hp' : tmps[p]?.getD undef = .pointer (some ⟨g, 0, none⟩) := by simpa using hp
  have hq' : tmps[q]?.getD undef = .pointer (some ⟨k, 0, none⟩) := by simpa using hq
  simp [results, h, hp', hq', e, e', l, l', Sem.run_bind, Result.andThen]
theorem two_end {w W : World} {x y x' y' : Value} {s d t f : List Int} (ra : Box W w.heap.size (.slice none 0 0) (.slice none 0 0) 26) (rb : Box W (w.heap.size + 1) (.slice none 0 0) (.slice none 0 0) 26) (A : Arr (w.heap.size + 2) W.heap.size W (.agg #[x, y]) s d) (B : Arr (w.heap.size + 2) W.heap.size W (.agg #[x', y']) t f) (bl : Below w.heap.size w W) :
    ((((W.setCell ⟨w.heap.size, 0, none⟩ x).setCell ⟨w.heap.size, 1, none⟩ y).setCell ⟨w.heap.size + 1, 0, none⟩ x').setCell ⟨w.heap.size + 1, 1, none⟩ y').heap[w.heap.size]? = some (.cells #[x, y] 26 (0, 0)) ∧
    ((((W.setCell ⟨w.heap.size, 0, none⟩ x).setCell ⟨w.heap.size, 1, none⟩ y).setCell ⟨w.heap.size + 1, 0, none⟩ x').setCell ⟨w.heap.size + 1, 1, none⟩ y').heap[w.heap.size + 1]? = some (.cells #[x', y'] 26 (0, 0)) ∧
    Arr w.heap.size ((((W.setCell ⟨w.heap.size, 0, none⟩ x).setCell ⟨w.heap.size, 1, none⟩ y).setCell ⟨w.heap.size + 1, 0, none⟩ x').setCell ⟨w.heap.size + 1, 1, none⟩ y').heap.size ((((W.setCell ⟨w.heap.size, 0, none⟩ x).setCell ⟨w.heap.size, 1, none⟩ y).setCell ⟨w.heap.size + 1, 0, none⟩ x').setCell ⟨w.heap.size + 1, 1, none⟩ y') (.agg #[x, y]) s d ∧
    Arr w.heap.size ((((W.setCell ⟨w.heap.size, 0, none⟩ x).setCell ⟨w.heap.size, 1, none⟩ y).setCell ⟨w.heap.size + 1, 0, none⟩ x').setCell ⟨w.heap.size + 1, 1, none⟩ y').heap.size ((((W.setCell ⟨w.heap.size, 0, none⟩ x).setCell ⟨w.heap.size, 1, none⟩ y).setCell ⟨w.heap.size + 1, 0, none⟩ x').setCell ⟨w.heap.size + 1, 1, none⟩ y') (.agg #[x', y']) t f ∧
    Below w.heap.size w ((((W.setCell ⟨w.heap.size, 0, none⟩ x).setCell ⟨w.heap.size, 1, none⟩ y).setCell ⟨w.heap.size + 1, 0, none⟩ x').setCell ⟨w.heap.size + 1, 1, none⟩ y') := by
  have a1 : Box ((W.setCell ⟨w.heap.size, 0, none⟩ x).setCell ⟨w.heap.size, 1, none⟩ y) w.heap.size x y 26 := arr_stored ra
  have b1 : Box ((W.setCell ⟨w.heap.size, 0, none⟩ x).setCell ⟨w.heap.size, 1, none⟩ y) (w.heap.size + 1) (.slice none 0 0) (.slice none 0 0) 26 := (rb.win (win_setCell _ _ _ _) (.inr (Nat.le_refl _))).win (win_setCell _ _ _ _) (.inr (Nat.le_refl _))
  exact ⟨(a1.win (win_setCell _ _ _ _) (.inl (Nat.lt_succ_self _))).win (win_setCell _ _ _ _) (.inl (Nat.lt_succ_self _)), arr_stored b1, ((((A.setCell (by omega) _ _).setCell (by omega) _ _).setCell (by omega) _ _).setCell (by omega) _ _).mono (by omega) (by simp [size_setCell]), ((((B.setCell (by omega) _ _).setCell (by omega) _ _).setCell (by omega) _ _).setCell (by omega) _ _).mono (by omega) (by simp [size_setCell]),
    below_setCell (below_setCell (below_setCell (below_setCell bl (Nat.le_refl _) _ _) (Nat.le_refl _) _ _) (by omega) _ _) (by omega) _ _⟩
theorem Arr.but {B C G : Nat} {w w' : World} {v : Value} {s d : List Int} (h : Arr B C w v s d) (hb : But G w w') (hd : G < B ∨ C ≤ G) : Arr B C w' v s d := by
  obtain ⟨x, y, rfl, h1, h2, h3⟩ := h
  exact ⟨x, y, rfl, h1.but hb hd, h2.but hb hd, h3⟩
set_option maxRecDepth 20000 in
set_option maxHeartbeats 4000000 in
/-- l3DrawTwo. -/
theorem drawTwoA_spec {w : World} {a : Option Addr} {len cap : Nat} (hs : Src w.heap.size w a len) (hb20 : len ≤ 1048576) :
    Calls Try.prog 81 #[.slice a len cap] w fun e w' => ∃ v u s d t f, e = .returned (.tuple #[v, u]) ∧ Arr w.heap.size w'.heap.size w' v s d ∧ Arr w.heap.size w'.heap.size w' u t f ∧ (s.length ≤ 4 ∧ d.length ≤ 301 ∧ t.length ≤ 4 ∧ f.length ≤ 301) ∧ Below w.heap.size w w' := by
  obtain ⟨W0, hW0⟩ : ∃ x, x = (w.alloc (.cells #[.slice none 0 0, .slice none 0 0] 26)).alloc (.cells #[.slice none 0 0, .slice none 0 0] 26) := ⟨_, rfl⟩
  have HB0 : Hid (Below w.heap.size w W0) := by rw [hW0]; exact bAlloc (bAlloc (Below.refl _ _) _) _
  have HS : Hid (Src W0.heap.size W0 a len) := srcKeep hs HB0.out
  have RA0 : Hid (Box W0 w.heap.size (.slice none 0 0) (.slice none 0 0) 26) := by rw [hW0]; exact heap_alloc2_old w _ _
  have RB0 : Hid (Box W0 (w.heap.size + 1) (.slice none 0 0) (.slice none 0 0) 26) := by rw [hW0]; exact heap_alloc2_new w _ _
  have SW0 : W0.heap.size = w.heap.size + 2 := by rw [hW0]; simp
  clear hs
  go_enter Try.func81, Try.ntmps81
  go_wp2_with fail
  rw [← hW0]
  refine (new_spec HS.out hb20).mono ?_
  rintro e w1 ⟨g, rfl, hb, hd⟩
  have HB1 : Hid (Below w.heap.size w w1) := bTrans HB0.out hb
  have RA1 : Hid (Box w1 w.heap.size (.slice none 0 0) (.slice none 0 0) 26) := RA0.out.keep hb
  have RB1 : Hid (Box w1 (w.heap.size + 1) (.slice none 0 0) (.slice none 0 0) 26) := RB0.out.keep hb
  have HD1 : Hid (DrawOk W0.heap.size g w1) := hd
  have hg0 : w.heap.size + 2 ≤ g := by have := hd.1; omega
  have hg1 := hd.lt
  clear hb hd hW0 RA0 RB0 HB0
  go_wp2_with fail
  refine (draw_draw HD1.out).mono ?_
  rintro e w2 ⟨v, s, d, rfl, hA, hls, hld, hb, hd⟩
  obtain ⟨px, py, rfl, pp, pq, ap⟩ := hA
  obtain ⟨xa, xc, hx, _⟩ := pp.ints
  obtain ⟨ya, yc, hy, _⟩ := pq.ints
  subst hx hy
  have B2 : Hid (But g w1 w2) := hb
  have A2 : Hid (Arr w1.heap.size w2.heap.size w2 (.agg #[.slice xa s.length xc, .slice ya d.length yc]) s d) := ⟨_, _, rfl, pp, pq, ap⟩
  have HD2 : Hid (DrawOk W0.heap.size g w2) := hd
  have S2 : Hid (w1.heap.size ≤ w2.heap.size) := hb.size
  clear hb hd pp pq ap
  go_wp2_with fail
  generalize hW : w2.alloc (.cells #[.slice xa s.length xc, .slice ya d.length yc] 26) = W3
  have ZA : Hid (Box W3 w2.heap.size (.slice xa s.length xc) (.slice ya d.length yc) 26) := by rw [← hW]; exact box_new w2 _ _ _
  have BW3 : Hid (Below w2.heap.size w2 W3) := by rw [← hW]; exact bAlloc (Below.refl _ _) _
  have HD3 : Hid (DrawOk W0.heap.size g W3) := by rw [← hW]; exact HD2.out.alloc _
  clear hW
  refine (draw_draw HD3.out).mono ?_
  rintro e w4 ⟨v', t, f, rfl, hA, hlt, hlf, hb, hd⟩
  obtain ⟨px, py, rfl, pp, pq, ap⟩ := hA
  obtain ⟨ua, uc, hx, _⟩ := pp.ints
  obtain ⟨va, vc, hy, _⟩ := pq.ints
  subst hx hy
  have SS2 := S2.out
  have S3 : Hid (w2.heap.size < W3.heap.size) := ZA.out.lt
  have SS3 := S3.out
  have A4 : Hid (Arr w1.heap.size w2.heap.size w4 (.agg #[.slice xa s.length xc, .slice ya d.length yc]) s d) := (A2.out.keep BW3.out).but hb (.inl hg1)
  have C4 : Hid (Arr W3.heap.size w4.heap.size w4 (.agg #[.slice ua t.length uc, .slice va f.length vc]) t f) := ⟨_, _, rfl, pp, pq, ap⟩
  have ZA4 : Hid (Box w4 w2.heap.size (.slice xa s.length xc) (.slice ya d.length yc) 26) := boxBut ZA.out hb (by omega)
  have RA4 : Hid (Box w4 w.heap.size (.slice none 0 0) (.slice none 0 0) 26) := boxBut ((boxBut RA1.out B2.out (by omega)).keep BW3.out) hb (by omega)
  have RB4 : Hid (Box w4 (w.heap.size + 1) (.slice none 0 0) (.slice none 0 0) 26) := boxBut ((boxBut RB1.out B2.out (by omega)).keep BW3.out) hb (by omega)
  have HB4 : Hid (Below w.heap.size w w4) := (bTrans (HB1.out.trans (B2.out.below (by omega) HB1.out.size)) BW3.out).trans (hb.below (by omega) (by have := HB1.out.size; omega))
  have HD4 : Hid (DrawOk W0.heap.size g w4) := hd
  have S4 : Hid (W3.heap.size ≤ w4.heap.size) := hb.size
  have SS4 := S4.out
  clear hb hd pp pq ap
  go_wp2_with fail
  generalize hW : w4.alloc (.cells #[.slice ua t.length uc, .slice va f.length vc] 26) = W5
  have BW5 : Hid (Below w4.heap.size w4 W5) := by rw [← hW]; exact bAlloc (Below.refl _ _) _
  have ZB5 : Hid (Box W5 w4.heap.size (.slice ua t.length uc) (.slice va f.length vc) 26) := by rw [← hW]; exact box_new w4 _ _ _
  have HD5 : Hid (DrawOk W0.heap.size g W5) := by rw [← hW]; exact HD4.out.alloc _
  have S5 : Hid (w4.heap.size < W5.heap.size) := ZB5.out.lt
  have SS5 := S5.out
  clear hW
  refine (below_small HD5.out 4 (by decide) (by decide)).mono ?_
  rintro e w6 ⟨z, z0, z4, rfl, hb, hd⟩
  have A6 : Hid (Arr w1.heap.size w2.heap.size w6 (.agg #[.slice xa s.length xc, .slice ya d.length yc]) s d) := (A4.out.keep BW5.out).but hb (.inl hg1)
  have C6 : Hid (Arr W3.heap.size w4.heap.size w6 (.agg #[.slice ua t.length uc, .slice va f.length vc]) t f) := (C4.out.keep BW5.out).but hb (.inl (by omega))
  have ZA6 : Hid (Box w6 w2.heap.size (.slice xa s.length xc) (.slice ya d.length yc) 26) := boxBut (ZA4.out.keep BW5.out) hb (by omega)
  have ZB6 : Hid (Box w6 w4.heap.size (.slice ua t.length uc) (.slice va f.length vc) 26) := boxBut ZB5.out hb (by omega)
  have RA6 : Hid (Box w6 w.heap.size (.slice none 0 0) (.slice none 0 0) 26) := boxBut (RA4.out.keep BW5.out) hb (by omega)
  have RB6 : Hid (Box w6 (w.heap.size + 1) (.slice none 0 0) (.slice none 0 0) 26) := boxBut (RB4.out.keep BW5.out) hb (by omega)
  have HB6 : Hid (Below w.heap.size w w6) := (bTrans HB4.out BW5.out).trans (hb.below (by omega) (by have := HB4.out.size; omega))
  have HD6 : Hid (DrawOk W0.heap.size g w6) := hd
  have S6 : Hid (W5.heap.size ≤ w6.heap.size) := hb.size
  have SS6 := S6.out
  have AF : Hid (Arr (w.heap.size + 2) w6.heap.size w6 (.agg #[.slice xa s.length xc, .slice ya d.length yc]) s d) := A6.out.mono (by omega) (by omega)
  have CF : Hid (Arr (w.heap.size + 2) w6.heap.size w6 (.agg #[.slice ua t.length uc, .slice va f.length vc]) t f) := C6.out.mono (by omega) (by omega)
  have LS : Hid (s.length ≤ 1048576 ∧ d.length ≤ 1048576) := ⟨by omega, by omega⟩
  clear hb hd
  by_cases h0 : z = 0
  · subst h0
    have a0 := ZA6.out.c0
    have a1 := ZA6.out.c1
    go_wp2_with fail
    refine (copy_spec A6.out.arrI LS.out.1 LS.out.2).mono ?_
    rintro r w7 ⟨v7, rfl, ha, hb⟩
    obtain ⟨ka, kc, la, lc, rfl, _, _, _, _⟩ := ha.arrI
    have N7 : Hid (Arr w6.heap.size w7.heap.size w7 (.agg #[.slice ka s.length kc, .slice la d.length lc]) s d) := ha
    have ZB7 : Hid (Box w7 w4.heap.size (.slice ua t.length uc) (.slice va f.length vc) 26) := ZB6.out.keep hb
    have K7 : Hid (Below w6.heap.size w6 w7) := hb
    have S7 : Hid (w6.heap.size ≤ w7.heap.size) := hb.size
    have SS7 := S7.out
    clear ha hb a0 a1
    have b0 := ZB7.out.c0
    have b1 := ZB7.out.c1
    have g0 : w7.frozen? ⟨w4.heap.size, 0, none⟩ = false := free_at ZB7.out 0
    have g1 : w7.frozen? ⟨w4.heap.size, 1, none⟩ = false := free_at ZB7.out 1
    go_wp2_with fail
    clear b0 b1 g0 g1
    generalize hW : (w7.setCell ⟨w4.heap.size, 0, none⟩ (.slice ka s.length kc)).setCell ⟨w4.heap.size, 1, none⟩ (.slice la d.length lc) = W8
    have WW : Hid (Win w4.heap.size (w4.heap.size + 1) w7 W8) := by rw [← hW]; exact (win_setCell _ _ _ _).trans (win_setCell _ _ _ _)
    have ZB8 : Hid (Box W8 w4.heap.size (.slice ka s.length kc) (.slice la d.length lc) 26) := by rw [← hW]; exact arr_stored (ZB7.out)
    have SW8 : Hid (W8.heap.size = w7.heap.size) := by rw [← hW]; show _ = _; simp [size_setCell]
    have RA8 : Hid (Box W8 w.heap.size (.slice none 0 0) (.slice none 0 0) 26) := (RA6.out.keep K7.out).win WW.out (.inl (by omega))
    have RB8 : Hid (Box W8 (w.heap.size + 1) (.slice none 0 0) (.slice none 0 0) 26) := (RB6.out.keep K7.out).win WW.out (.inl (by omega))
    have ZA8 : Hid (Box W8 w2.heap.size (.slice xa s.length xc) (.slice ya d.length yc) 26) := (ZA6.out.keep K7.out).win WW.out (.inl (by omega))
    have A8 : Hid (Arr (w.heap.size + 2) W8.heap.size W8 (.agg #[.slice xa s.length xc, .slice ya d.length yc]) s d) := ((A6.out.keep K7.out).win WW.out (.inl (by omega))).mono (by omega) (by have := SW8.out; omega)
    have C8 : Hid (Arr (w.heap.size + 2) W8.heap.size W8 (.agg #[.slice ka s.length kc, .slice la d.length lc]) s d) := ((N7.out).win WW.out (.inr (by omega))).mono (by omega) (by have := SW8.out; omega)
    have HB8 : Hid (Below w.heap.size w W8) := (bTrans HB6.out K7.out).trans (WW.out.below (by omega) (by have := (bTrans HB6.out K7.out).size; omega))
    clear hW
    have r0 := (RA8.out).c0
    have r1 := (RA8.out).c1
    have r2 := (RB8.out).c0
    have r3 := (RB8.out).c1
    have q0 := (ZA8.out).c0
    have q1 := (ZA8.out).c1
    have q2 := (ZB8.out).c0
    have q3 := (ZB8.out).c1
    have f0 : W8.frozen? ⟨w.heap.size, 0, none⟩ = false := free_at (RA8.out) 0
    have f1 : W8.frozen? ⟨w.heap.size, 1, none⟩ = false := free_at (RA8.out) 1
    have f2 : W8.frozen? ⟨w.heap.size + 1, 0, none⟩ = false := free_at (RB8.out) 0
    have f3 : W8.frozen? ⟨w.heap.size + 1, 1, none⟩ = false := free_at (RB8.out) 1
    have FE := two_end (RA8.out) (RB8.out) (A8.out) (C8.out) (HB8.out)
    have FX : Hid (_ ∧ _ ∧ _ ∧ _ ∧ _) := FE
    clear FE
    go_wp2
    go_region
    all_goals go_wp2
    all_goals
      refine bodyPost_ret (results_arr2 rfl _ _ w.heap.size (w.heap.size + 1) _ _ _ _ rfl rfl FX.out.1 FX.out.2.1) rfl ?_
      exact ⟨_, _, _, _, _, _, rfl, FX.out.2.2.1, FX.out.2.2.2.1, ⟨hls, hld, hls, hld⟩, FX.out.2.2.2.2.drew⟩
  · have n0 : (z == 0) = false := by simpa using h0
    by_cases h1 : z = 1
    · subst h1
      have a0 := ZA6.out.c0
      have a1 := ZA6.out.c1
      obtain ⟨_, _, ea, pa, _, _⟩ := A6.out
      cases ea
      have SI : Hid (Piece w1.heap.size w2.heap.size w6 (.slice xa s.length xc) s) := pa
      obtain ⟨xa', xc', ee, ia⟩ := pa.ints
      cases ee
      have IA : Hid (Ints w6 xa s) := ia
      clear pa ia
      go_wp2_with fail
      refine (ok_spec _ IA.out).mono ?_
      rintro r w' ⟨rfl, hw⟩
      subst w'
      cases hk : decide (0 ≤ sizeV s)
      · go_wp2_with fail
        clear a0 a1
        have r0 := (RA6.out).c0
        have r1 := (RA6.out).c1
        have r2 := (RB6.out).c0
        have r3 := (RB6.out).c1
        have q0 := (ZA6.out).c0
        have q1 := (ZA6.out).c1
        have q2 := (ZB6.out).c0
        have q3 := (ZB6.out).c1
        have f0 : w6.frozen? ⟨w.heap.size, 0, none⟩ = false := free_at (RA6.out) 0
        have f1 : w6.frozen? ⟨w.heap.size, 1, none⟩ = false := free_at (RA6.out) 1
        have f2 : w6.frozen? ⟨w.heap.size + 1, 0, none⟩ = false := free_at (RB6.out) 0
        have f3 : w6.frozen? ⟨w.heap.size + 1, 1, none⟩ = false := free_at (RB6.out) 1
        have FE := two_end (RA6.out) (RB6.out) (AF.out) (CF.out) (HB6.out)
        have FX : Hid (_ ∧ _ ∧ _ ∧ _ ∧ _) := FE
        clear FE
        go_wp2
        go_region
        all_goals go_wp2
        all_goals
          refine bodyPost_ret (results_arr2 rfl _ _ w.heap.size (w.heap.size + 1) _ _ _ _ rfl rfl FX.out.1 FX.out.2.1) rfl ?_
          exact ⟨_, _, _, _, _, _, rfl, FX.out.2.2.1, FX.out.2.2.2.1, ⟨hls, hld, hlt, hlf⟩, FX.out.2.2.2.2.drew⟩
      · go_wp2_with fail
        refine (fill_draw HD6.out (SI.out.mono (by omega) (by omega)) hls).mono ?_
        rintro r w7 ⟨kx, ky, m, MM, rfl, ⟨m1, m2⟩, kp, kn, hml, hb, hd⟩
        obtain ⟨ka, kc, rfl, _⟩ := kp.ints
        obtain ⟨la, lc, rfl, _⟩ := kn.ints
        have kq := kn.piece
        have N7 : Hid (Arr w6.heap.size w7.heap.size w7 (.agg #[.slice ka s.length kc, .slice la m.length lc]) s m) := ⟨_, _, rfl, kp.mono (Nat.le_refl _) m2, kq.mono m1 (Nat.le_refl _), kp.apart kq (.inl (Nat.le_refl _))⟩
        have ZB7 : Hid (Box w7 w4.heap.size (.slice ua t.length uc) (.slice va f.length vc) 26) := boxBut ZB6.out hb (by omega)
        have ZA7 : Hid (Box w7 w2.heap.size (.slice xa s.length xc) (.slice ya d.length yc) 26) := boxBut ZA6.out hb (by omega)
        have RA7 : Hid (Box w7 w.heap.size (.slice none 0 0) (.slice none 0 0) 26) := boxBut RA6.out hb (by omega)
        have RB7 : Hid (Box w7 (w.heap.size + 1) (.slice none 0 0) (.slice none 0 0) 26) := boxBut RB6.out hb (by omega)
        have A7 : Hid (Arr w1.heap.size w2.heap.size w7 (.agg #[.slice xa s.length xc, .slice ya d.length yc]) s d) := A6.out.but hb (.inl hg1)
        have HB7 : Hid (Below w.heap.size w w7) := HB6.out.trans (hb.below (by omega) HB6.out.size)
        have SS7 := hb.size
        have ML : m.length ≤ 301 := by omega
        clear kp kn kq hb hd a0 a1
        have b0 := ZB7.out.c0
        have b1 := ZB7.out.c1
        have g0 : w7.frozen? ⟨w4.heap.size, 0, none⟩ = false := free_at ZB7.out 0
        have g1 : w7.frozen? ⟨w4.heap.size, 1, none⟩ = false := free_at ZB7.out 1
        go_wp2_with fail
        clear b0 b1 g0 g1
        generalize hW : (w7.setCell ⟨w4.heap.size, 0, none⟩ (.slice ka s.length kc)).setCell ⟨w4.heap.size, 1, none⟩ (.slice la m.length lc) = W8
        have WW : Hid (Win w4.heap.size (w4.heap.size + 1) w7 W8) := by rw [← hW]; exact (win_setCell _ _ _ _).trans (win_setCell _ _ _ _)
        have ZB8 : Hid (Box W8 w4.heap.size (.slice ka s.length kc) (.slice la m.length lc) 26) := by rw [← hW]; exact arr_stored (ZB7.out)
        have SW8 : Hid (W8.heap.size = w7.heap.size) := by rw [← hW]; show _ = _; simp [size_setCell]
        have RA8 : Hid (Box W8 w.heap.size (.slice none 0 0) (.slice none 0 0) 26) := (RA7.out).win WW.out (.inl (by omega))
        have RB8 : Hid (Box W8 (w.heap.size + 1) (.slice none 0 0) (.slice none 0 0) 26) := (RB7.out).win WW.out (.inl (by omega))
        have ZA8 : Hid (Box W8 w2.heap.size (.slice xa s.length xc) (.slice ya d.length yc) 26) := (ZA7.out).win WW.out (.inl (by omega))
        have A8 : Hid (Arr (w.heap.size + 2) W8.heap.size W8 (.agg #[.slice xa s.length xc, .slice ya d.length yc]) s d) := ((A7.out).win WW.out (.inl (by omega))).mono (by omega) (by have := SW8.out; omega)
        have C8 : Hid (Arr (w.heap.size + 2) W8.heap.size W8 (.agg #[.slice ka s.length kc, .slice la m.length lc]) s m) := ((N7.out).win WW.out (.inr (by omega))).mono (by omega) (by have := SW8.out; omega)
        have HB8 : Hid (Below w.heap.size w W8) := (HB7.out).trans (WW.out.below (by omega) (by have := (HB7.out).size; omega))
        clear hW
        have r0 := (RA8.out).c0
        have r1 := (RA8.out).c1
        have r2 := (RB8.out).c0
        have r3 := (RB8.out).c1
        have q0 := (ZA8.out).c0
        have q1 := (ZA8.out).c1
        have q2 := (ZB8.out).c0
        have q3 := (ZB8.out).c1
        have f0 : W8.frozen? ⟨w.heap.size, 0, none⟩ = false := free_at (RA8.out) 0
        have f1 : W8.frozen? ⟨w.heap.size, 1, none⟩ = false := free_at (RA8.out) 1
        have f2 : W8.frozen? ⟨w.heap.size + 1, 0, none⟩ = false := free_at (RB8.out) 0
        have f3 : W8.frozen? ⟨w.heap.size + 1, 1, none⟩ = false := free_at (RB8.out) 1
        have FE := two_end (RA8.out) (RB8.out) (A8.out) (C8.out) (HB8.out)
        have FX : Hid (_ ∧ _ ∧ _ ∧ _ ∧ _) := FE
        clear FE
        go_wp2
        go_region
        all_goals go_wp2
        all_goals
          refine bodyPost_ret (results_arr2 rfl _ _ w.heap.size (w.heap.size + 1) _ _ _ _ rfl rfl FX.out.1 FX.out.2.1) rfl ?_
          exact ⟨_, _, _, _, _, _, rfl, FX.out.2.2.1, FX.out.2.2.2.1, ⟨hls, hld, hls, ML⟩, FX.out.2.2.2.2.drew⟩
    · have n1 : (z == 1) = false := by simpa using h1
      go_wp2_with fail
      have r0 := (RA6.out).c0
      have r1 := (RA6.out).c1
      have r2 := (RB6.out).c0
      have r3 := (RB6.out).c1
      have q0 := (ZA6.out).c0
      have q1 := (ZA6.out).c1
      have q2 := (ZB6.out).c0
      have q3 := (ZB6.out).c1
      have f0 : w6.frozen? ⟨w.heap.size, 0, none⟩ = false := free_at (RA6.out) 0
      have f1 : w6.frozen? ⟨w.heap.size, 1, none⟩ = false := free_at (RA6.out) 1
      have f2 : w6.frozen? ⟨w.heap.size + 1, 0, none⟩ = false := free_at (RB6.out) 0
      have f3 : w6.frozen? ⟨w.heap.size + 1, 1, none⟩ = false := free_at (RB6.out) 1
      have FE := two_end (RA6.out) (RB6.out) (AF.out) (CF.out) (HB6.out)
      have FX : Hid (_ ∧ _ ∧ _ ∧ _ ∧ _) := FE
      clear FE
      go_wp2
      go_region
      all_goals go_wp2
      all_goals
        refine bodyPost_ret (results_arr2 rfl _ _ w.heap.size (w.heap.size + 1) _ _ _ _ rfl rfl FX.out.1 FX.out.2.1) rfl ?_
        exact ⟨_, _, _, _, _, _, rfl, FX.out.2.2.1, FX.out.2.2.2.1, ⟨hls, hld, hlt, hlf⟩, FX.out.2.2.2.2.drew⟩
end Go.Proofs.Ythjjjnapcbkhjaa
