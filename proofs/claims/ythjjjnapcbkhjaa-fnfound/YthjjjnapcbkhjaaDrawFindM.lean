/-
  The draw of Find's laws: two arrays, whatever they are.
-/
import Derived.Test.YthjjjnapcbkhjaaTwo10M
namespace Go.Proofs.Ythjjjnapcbkhjaa
open Go.RowKit
set_option linter.unusedVariables false
set_option linter.unusedSimpArgs false
set_option maxRecDepth 20000 in
set_option maxHeartbeats 4000000 in
/-- DrawFind. -/
theorem drawFind_spec {w : World} {a : Option Addr} {len cap : Nat} (hs : Src w.heap.size w a len) (hb20 : len ≤ 1048576) :
    Calls Try.prog 23 #[.slice a len cap] w fun e w' => ∃ v u s d t f, e = .returned (.tuple #[v, u]) ∧ Arr w.heap.size w'.heap.size w' v s d ∧ Arr w.heap.size w'.heap.size w' u t f ∧ (s.length ≤ 4 ∧ d.length ≤ 301 ∧ t.length ≤ 4 ∧ f.length ≤ 301) ∧ Below w.heap.size w w' := by
  obtain ⟨W0, hW0⟩ : ∃ x, x = (w.alloc (.cells #[.slice none 0 0, .slice none 0 0] 26)).alloc (.cells #[.slice none 0 0, .slice none 0 0] 26) := ⟨_, rfl⟩
  have HB0 : Hid (Below w.heap.size w W0) := by rw [hW0]; exact bAlloc (bAlloc (Below.refl _ _) _) _
  have HS : Hid (Src W0.heap.size W0 a len) := srcKeep hs HB0.out
  have RA0 : Hid (Box W0 w.heap.size (.slice none 0 0) (.slice none 0 0) 26) := by rw [hW0]; exact heap_alloc2_old w _ _
  have RB0 : Hid (Box W0 (w.heap.size + 1) (.slice none 0 0) (.slice none 0 0) 26) := by rw [hW0]; exact heap_alloc2_new w _ _
  have SW0 : W0.heap.size = w.heap.size + 2 := by rw [hW0]; simp
  clear hs
  go_enter Try.func23, Try.ntmps23
  go_wp2_with fail
  rw [← hW0]
  refine (new_spec HS.out hb20).mono ?_
  rintro e w1 ⟨g, rfl, hb, hd⟩
  have HB1 : Hid (Below w.heap.size w w1) := bTrans HB0.out hb
  have RA1 : Hid (Box w1 w.heap.size (.slice none 0 0) (.slice none 0 0) 26) := RA0.out.keep hb
  have RB1 : Hid (Box w1 (w.heap.size + 1) (.slice none 0 0) (.slice none 0 0) 26) := RB0.out.keep hb
  have HD1 : Hid (DrawOk W0.heap.size g w1) := hd
  have hg0 : w.heap.size + 2 ≤ g := by have := hd.1; omega
  have hg1 := hd.lt
  clear hb hd hW0 RA0 RB0 HB0
  go_wp2_with fail
  refine (draw_draw HD1.out).mono ?_
  rintro e w2 ⟨v, s, d, rfl, hA, hls, hld, hb, hd⟩
  obtain ⟨xa, xc, ya, yc, rfl, _, _, _, _⟩ := hA.arrI
  have A2 : Hid (Arr w1.heap.size w2.heap.size w2 (.agg #[.slice xa s.length xc, .slice ya d.length yc]) s d) := hA
  have HB12 : Hid (But g w1 w2) := hb
  have HD2 : Hid (DrawOk W0.heap.size g w2) := hd
  have S2 := hb.size
  clear hA hb hd
  go_wp2_with fail
  generalize hW : w2.alloc (.cells #[.slice xa s.length xc, .slice ya d.length yc] 26) = W3
  have ST3 : Hid (TwoSt W0.heap.size g w W3 w2.heap.size (.slice xa s.length xc) (.slice ya d.length yc) s d) := by
    have BW : Below w2.heap.size w2 W3 := by rw [← hW]; exact bAlloc (Below.refl _ _) _
    have S4 := BW.size
    have z3 := HB12.out.size
    have z4 := HB1.out.size
    refine ⟨(boxBut RA1.out HB12.out (by omega)).keep BW, (boxBut RB1.out HB12.out (by omega)).keep BW, by rw [← hW]; exact box_new w2 _ _ _, (A2.out.keep BW).mono (by omega) S4, by omega, hg0, by omega, hls, hld, bTrans (HB1.out.trans (HB12.out.below (by omega) HB1.out.size)) BW, by rw [← hW]; exact HD2.out.alloc _⟩
  clear hW A2 HB12 HD2 RA1 RB1 HB1 HD1
  refine (once_spec ST3.out.ok 6 (by decide) (by decide)).mono ?_
  rintro e w4 ⟨b, rfl, hb, hd⟩
  have ST4 : Hid (TwoSt W0.heap.size g w w4 w2.heap.size (.slice xa s.length xc) (.slice ya d.length yc) s d) := ST3.out.but hb hd
  clear hb hd ST3
  cases b
  · go_wp2_with fail
    refine (below_small ST4.out.ok 9 (by decide) (by decide)).mono ?_
    rintro e w5 ⟨x, x0, x9, rfl, hb, hd⟩
    have ST5 : Hid (TwoSt W0.heap.size g w w5 w2.heap.size (.slice xa s.length xc) (.slice ya d.length yc) s d) := ST4.out.but hb hd
    clear hb hd ST4
    go_wp2_with fail
    generalize hW : w5.alloc (.cells #[.int .i64 x] 3) = W6
    have ST6 : Hid (TwoSt W0.heap.size g w W6 w2.heap.size (.slice xa s.length xc) (.slice ya d.length yc) s d) := by rw [← hW]; exact ST5.out.below (bAlloc (Below.refl _ _) _)
    have NP : Hid (Piece (g + 1) W6.heap.size W6 (.slice (some ⟨w5.heap.size, 0, none⟩) 1 1) [x]) := by
      have z1 := ST5.out.z.lt
      have z2 := ST5.out.ne
      rw [← hW]
      exact OwnInts.piece (ownInts_new w5 [x]) (by omega) (by simp) _
    have LQ : Hid (w2.heap.size < W6.heap.size) := ST6.out.z.lt
    clear hW ST5
    refine (fill_draw ST6.out.ok NP.out (by simp)).mono ?_
    rintro r w7 ⟨x', y', f, M, rfl, ⟨hM1, hM2⟩, hp, hn, hl3, hb, hd⟩
    obtain ⟨xa', xc', hx, _⟩ := hp.ints
    obtain ⟨ya', yc', hy, _⟩ := hn.ints
    subst hx hy
    have ST7 : Hid (TwoSt W0.heap.size g w w7 w2.heap.size (.slice xa s.length xc) (.slice ya d.length yc) s d) := ST6.out.but hb hd
    have ST8 : Hid (TwoSt W0.heap.size g w ((w7.setCell ⟨w2.heap.size, 0, none⟩ (.slice xa' [x].length xc')).setCell ⟨w2.heap.size, 1, none⟩ (.slice ya' f.length yc')) w2.heap.size (.slice xa' [x].length xc') (.slice ya' f.length yc') [x] f) := by
      have l1 := LQ.out
      have l2 := ST6.out.ne
      have hA : Arr W6.heap.size w7.heap.size w7 (.agg #[.slice xa' [x].length xc', .slice ya' f.length yc']) [x] f := ⟨_, _, rfl, hp.mono (Nat.le_refl _) hM2, hn.piece.mono (by omega) (Nat.le_refl _), hp.apart hn.piece (.inl (Nat.le_refl _))⟩
      exact ST7.out.put (hA.mono (by omega) (Nat.le_refl _)) (hA.mono (by omega) (Nat.le_refl _)) (by simp) (by omega)
    have b0 := ST7.out.z.c0
    have b1 := ST7.out.z.c1
    have g0 : w7.frozen? ⟨w2.heap.size, 0, none⟩ = false := free_at ST7.out.z 0
    have g1 : w7.frozen? ⟨w2.heap.size, 1, none⟩ = false := free_at ST7.out.z 1
    clear hp hn hb hd ST6 NP
    go_wp2_with fail
    clear b0 b1 g0 g1 ST7
    generalize (w7.setCell ⟨w2.heap.size, 0, none⟩ (.slice xa' [x].length xc')).setCell ⟨w2.heap.size, 1, none⟩ (.slice ya' f.length yc') = W9 at *
    have u0 := ST8.out.drew.z.c0
    have u1 := ST8.out.drew.z.c1
    go_wp2_with fail
    go_region_with (go_at_call 44; refine (draw_draw ST8.out.drew.ok).mono ?_; rintro r wz ⟨vz, t, f2, rfl, hA, hlt, hlf, hb, hd⟩; obtain ⟨ta, tc, fa, fc, rfl, _, _, _, _⟩ := hA.arrI; have SZ : Hid (TwoSt _ g w wz _ _ _ _ _) := ST8.out.drew.but hb hd; have CZ : Hid (Arr W9.drew.heap.size wz.heap.size wz (.agg #[.slice ta t.length tc, .slice fa f2.length fc]) t f2) := hA; clear hA hb hd; have q0 := SZ.out.z.c0; have q1 := SZ.out.z.c1; have r0 := SZ.out.ra.c0; have r1 := SZ.out.ra.c1; have r2 := SZ.out.rb.c0; have r3 := SZ.out.rb.c1; have f0 : wz.frozen? ⟨w.heap.size, 0, none⟩ = false := free_at SZ.out.ra 0; have f1 : wz.frozen? ⟨w.heap.size, 1, none⟩ = false := free_at SZ.out.ra 1; have f2 : wz.frozen? ⟨w.heap.size + 1, 0, none⟩ = false := free_at SZ.out.rb 0; have f3 : wz.frozen? ⟨w.heap.size + 1, 1, none⟩ = false := free_at SZ.out.rb 1)
    all_goals go_wp2_with fail
    all_goals
      have z1 := SZ.out.hg
      have z2 := ST8.out.drew.ok.lt
      obtain ⟨e1, e2, e3, e4, e5⟩ := two_end SZ.out.ra SZ.out.rb (SZ.out.a.mono (by omega) (Nat.le_refl _)) (CZ.out.mono (by omega) (Nat.le_refl _)) SZ.out.bl
      refine bodyPost_ret (results_arr2 rfl _ _ w.heap.size (w.heap.size + 1) _ _ _ _ rfl rfl e1 e2) rfl ?_
      exact ⟨_, _, _, _, _, _, rfl, e3, e4, ⟨SZ.out.ls, SZ.out.ld, hlt, hlf⟩, e5⟩
  · have u0 := ST4.out.drew.z.c0
    have u1 := ST4.out.drew.z.c1
    go_wp2_with fail
    go_region_with (go_at_call 44; refine (draw_draw ST4.out.drew.ok).mono ?_; rintro r wz ⟨vz, t, f, rfl, hA, hlt, hlf, hb, hd⟩; obtain ⟨ta, tc, fa, fc, rfl, _, _, _, _⟩ := hA.arrI; have SZ : Hid (TwoSt _ g w wz _ _ _ _ _) := ST4.out.drew.but hb hd; have CZ : Hid (Arr w4.drew.heap.size wz.heap.size wz (.agg #[.slice ta t.length tc, .slice fa f.length fc]) t f) := hA; clear hA hb hd; have q0 := SZ.out.z.c0; have q1 := SZ.out.z.c1; have r0 := SZ.out.ra.c0; have r1 := SZ.out.ra.c1; have r2 := SZ.out.rb.c0; have r3 := SZ.out.rb.c1; have f0 : wz.frozen? ⟨w.heap.size, 0, none⟩ = false := free_at SZ.out.ra 0; have f1 : wz.frozen? ⟨w.heap.size, 1, none⟩ = false := free_at SZ.out.ra 1; have f2 : wz.frozen? ⟨w.heap.size + 1, 0, none⟩ = false := free_at SZ.out.rb 0; have f3 : wz.frozen? ⟨w.heap.size + 1, 1, none⟩ = false := free_at SZ.out.rb 1)
    all_goals go_wp2_with fail
    all_goals
      have z1 := SZ.out.hg
      have z2 := ST4.out.drew.ok.lt
      obtain ⟨e1, e2, e3, e4, e5⟩ := two_end SZ.out.ra SZ.out.rb (SZ.out.a.mono (by omega) (Nat.le_refl _)) (CZ.out.mono (by omega) (Nat.le_refl _)) SZ.out.bl
      refine bodyPost_ret (results_arr2 rfl _ _ w.heap.size (w.heap.size + 1) _ _ _ _ rfl rfl e1 e2) rfl ?_
      exact ⟨_, _, _, _, _, _, rfl, e3, e4, ⟨SZ.out.ls, SZ.out.ld, hlt, hlf⟩, e5⟩
end Go.Proofs.Ythjjjnapcbkhjaa
