/-
  The draw of Reshape's law: two arrays, whatever they are.
-/
import Derived.Test.YtlbmbjgbihljhacTwo10
namespace Go.Proofs.Ytlbmbjgbihljhac
open Go.RowKit
set_option linter.unusedVariables false
set_option linter.unusedSimpArgs false
set_option maxRecDepth 20000 in
set_option maxHeartbeats 4000000 in
/-- DrawReshape. -/
theorem drawReshape_spec {w : World} {a : Option Addr} {len cap : Nat} (hs : Src w.heap.size w a len) (hb20 : len ≤ 1048576) :
    Calls Try.prog 23 #[.slice a len cap] w fun e w' => ∃ v u s d t f, e = .returned (.tuple #[v, u]) ∧ Arr w.heap.size w'.heap.size w' v s d ∧ Arr w.heap.size w'.heap.size w' u t f ∧ (s.length ≤ 4 ∧ d.length ≤ 301 ∧ t.length ≤ 4 ∧ f.length ≤ 301) ∧ Below w.heap.size w w' := by
  obtain ⟨W0, hW0⟩ : ∃ x, x = (w.alloc (.cells #[.slice none 0 0, .slice none 0 0] 26)).alloc (.cells #[.slice none 0 0, .slice none 0 0] 26) := ⟨_, rfl⟩
  have HB0 : Hid (Below w.heap.size w W0) := by rw [hW0]; exact bAlloc (bAlloc (Below.refl _ _) _) _
  have HS : Hid (Src W0.heap.size W0 a len) := srcKeep hs HB0.out
  have RA0 : Hid (Box W0 w.heap.size (.slice none 0 0) (.slice none 0 0) 26) := by rw [hW0]; exact heap_alloc2_old w _ _
  have RB0 : Hid (Box W0 (w.heap.size + 1) (.slice none 0 0) (.slice none 0 0) 26) := by rw [hW0]; exact heap_alloc2_new w _ _
  have SW0 : W0.heap.size = w.heap.size + 2 := by rw [hW0]; simp
  clear hs
  go_enter Try.func23, Try.ntmps23
  go_wp2_with fail
  rw [← hW0]
  refine (new_spec HS.out hb20).mono ?_
  rintro e w1 ⟨g, rfl, hb, hd⟩
  have HB1 : Hid (Below w.heap.size w w1) := bTrans HB0.out hb
  have RA1 : Hid (Box w1 w.heap.size (.slice none 0 0) (.slice none 0 0) 26) := RA0.out.keep hb
  have RB1 : Hid (Box w1 (w.heap.size + 1) (.slice none 0 0) (.slice none 0 0) 26) := RB0.out.keep hb
  have HD1 : Hid (DrawOk W0.heap.size g w1) := hd
  have hg0 : w.heap.size + 2 ≤ g := by have := hd.1; omega
  have hg1 := hd.lt
  clear hb hd hW0 RA0 RB0 HB0
  go_wp2_with fail
  refine (right_spec HD1.out).mono ?_
  rintro e w2 ⟨v, l, rfl, ⟨hl, _⟩, hN, hb, hd⟩
  obtain ⟨va, vc, hv, hi⟩ := hN.ints
  subst hv
  have II : Hid (Ints w2 va l) := hi
  have HB2 : Hid (But g w1 w2) := hb
  have HD2 : Hid (DrawOk W0.heap.size g w2) := hd
  have S2 := hb.size
  clear hN hi hb hd
  go_wp2_with fail
  refine (vector_spec vc II.out (by omega)).mono ?_
  rintro e w3 ⟨v, rfl, hA, hb⟩
  obtain ⟨xa, xc, ya, yc, rfl, _, _, _, _⟩ := hA.arrI
  have A3 : Hid (Arr w2.heap.size w3.heap.size w3 (.agg #[.slice xa [(l.length : Int)].length xc, .slice ya l.length yc]) [(l.length : Int)] l) := hA
  have HB3 : Hid (Below w2.heap.size w2 w3) := hb
  have S3 := hb.size
  have HB13 : Hid (But g w1 w3) := HB2.out.trans (But.of hb)
  have HD3 : Hid (DrawOk W0.heap.size g w3) := HD2.out.but (But.of (g := w2.heap.size) hb) (by omega)
  clear hA hb
  go_wp2_with fail
  generalize hW : w3.alloc (.cells #[.slice xa [(l.length : Int)].length xc, .slice ya l.length yc] 26) = W3
  have BW3 : Hid (Below w3.heap.size w3 W3) := by rw [← hW]; exact bAlloc (Below.refl _ _) _
  have ST3 : Hid (TwoSt W0.heap.size g w W3 w3.heap.size (.slice xa [(l.length : Int)].length xc) (.slice ya l.length yc) [(l.length : Int)] l) := by
    have S4 := BW3.out.size
    refine ⟨(boxBut RA1.out HB13.out (by omega)).keep BW3.out, (boxBut RB1.out HB13.out (by omega)).keep BW3.out, by rw [← hW]; exact box_new w3 _ _ _, (A3.out.keep BW3.out).mono (by omega) S4, by have := HB1.out.size; omega, hg0, by omega, by simp, by omega, bTrans (HB1.out.trans (HB13.out.below (by omega) HB1.out.size)) BW3.out, by rw [← hW]; exact HD3.out.alloc _⟩
  clear hW A3 HB3 HB13 HD3 RA1 RB1 HB1 HD1 HB2 HD2 II BW3
  refine (below_small ST3.out.ok 12 (by decide) (by decide)).mono ?_
  rintro e w4 ⟨z, z0, z12, rfl, hb, hd⟩
  have ST4 : Hid (TwoSt W0.heap.size g w w4 w3.heap.size (.slice xa [(l.length : Int)].length xc) (.slice ya l.length yc) [(l.length : Int)] l) := ST3.out.but hb hd
  clear hb hd ST3
  by_cases m0 : z = 0
  · subst m0
    go_wp2_with fail
    refine (draw_draw ST4.out.ok).mono ?_
    rintro e w5 ⟨v, s, d, rfl, hA, hls, hld, hb, hd⟩
    obtain ⟨xa', xc', ya', yc', rfl, _, _, _, _⟩ := hA.arrI
    have ST5 : Hid (TwoSt W0.heap.size g w w5 w3.heap.size (.slice xa [(l.length : Int)].length xc) (.slice ya l.length yc) [(l.length : Int)] l) := ST4.out.but hb hd
    have ST6 : Hid (TwoSt W0.heap.size g w ((w5.setCell ⟨w3.heap.size, 0, none⟩ (.slice xa' s.length xc')).setCell ⟨w3.heap.size, 1, none⟩ (.slice ya' d.length yc')) w3.heap.size (.slice xa' s.length xc') (.slice ya' d.length yc') s d) := ST5.out.put (hA.mono (by have := ST4.out.ok.lt; omega) (Nat.le_refl _)) (hA.mono (by have := ST4.out.z.lt; omega) (Nat.le_refl _)) hls hld
    have b0 := ST5.out.z.c0
    have b1 := ST5.out.z.c1
    have g0 : w5.frozen? ⟨w3.heap.size, 0, none⟩ = false := free_at ST5.out.z 0
    have g1 : w5.frozen? ⟨w3.heap.size, 1, none⟩ = false := free_at ST5.out.z 1
    clear hA hb hd ST4
    go_wp2_with fail
    clear b0 b1 g0 g1 ST5
    generalize (w5.setCell ⟨w3.heap.size, 0, none⟩ (.slice xa' s.length xc')).setCell ⟨w3.heap.size, 1, none⟩ (.slice ya' d.length yc') = W6 at *
    have u0 := ST6.out.drew.z.c0
    have u1 := ST6.out.drew.z.c1
    go_wp2_with fail
    go_region_with (go_at_call 58; refine (draw_draw ST6.out.drew.ok).mono ?_; rintro r wz ⟨vz, t, f, rfl, hA, hlt, hlf, hb, hd⟩; obtain ⟨ta, tc, fa, fc, rfl, _, _, _, _⟩ := hA.arrI; have SZ : Hid (TwoSt _ g w wz _ _ _ _ _) := ST6.out.drew.but hb hd; have CZ : Hid (Arr W6.drew.heap.size wz.heap.size wz (.agg #[.slice ta t.length tc, .slice fa f.length fc]) t f) := hA; clear hA hb hd; have q0 := SZ.out.z.c0; have q1 := SZ.out.z.c1; have r0 := SZ.out.ra.c0; have r1 := SZ.out.ra.c1; have r2 := SZ.out.rb.c0; have r3 := SZ.out.rb.c1; have f0 : wz.frozen? ⟨w.heap.size, 0, none⟩ = false := free_at SZ.out.ra 0; have f1 : wz.frozen? ⟨w.heap.size, 1, none⟩ = false := free_at SZ.out.ra 1; have f2 : wz.frozen? ⟨w.heap.size + 1, 0, none⟩ = false := free_at SZ.out.rb 0; have f3 : wz.frozen? ⟨w.heap.size + 1, 1, none⟩ = false := free_at SZ.out.rb 1)
    all_goals go_wp2_with fail
    all_goals
      have z1 := SZ.out.hg
      have z2 := ST6.out.drew.ok.lt
      obtain ⟨e1, e2, e3, e4, e5⟩ := two_end SZ.out.ra SZ.out.rb (SZ.out.a.mono (by omega) (Nat.le_refl _)) (CZ.out.mono (by omega) (Nat.le_refl _)) SZ.out.bl
      refine bodyPost_ret (results_arr2 rfl _ _ w.heap.size (w.heap.size + 1) _ _ _ _ rfl rfl e1 e2) rfl ?_
      exact ⟨_, _, _, _, _, _, rfl, e3, e4, ⟨SZ.out.ls, SZ.out.ld, hlt, hlf⟩, e5⟩
  by_cases m1 : z = 1
  · subst m1
    go_wp2_with fail
    refine (shape_draw ST4.out.ok).mono ?_
    rintro e w5 ⟨v, m, rfl, ⟨hm, _⟩, hN, hb, hd⟩
    obtain ⟨ma, mc, hv, hi⟩ := hN.ints
    subst hv
    have II : Hid (Ints w5 ma m) := hi
    have ST5 : Hid (TwoSt W0.heap.size g w w5 w3.heap.size (.slice xa [(l.length : Int)].length xc) (.slice ya l.length yc) [(l.length : Int)] l) := ST4.out.but hb hd
    have S5 : Hid (w4.heap.size ≤ w5.heap.size) := hb.size
    clear hN hi hb hd
    go_wp2_with fail
    refine (vector_spec mc II.out (by omega)).mono ?_
    rintro e w7 ⟨v, rfl, hA, hb⟩
    obtain ⟨xa', xc', ya', yc', rfl, _, _, _, _⟩ := hA.arrI
    have ST7 : Hid (TwoSt W0.heap.size g w w7 w3.heap.size (.slice xa [(l.length : Int)].length xc) (.slice ya l.length yc) [(l.length : Int)] l) := ST5.out.below hb
    have ST6 : Hid (TwoSt W0.heap.size g w ((w7.setCell ⟨w3.heap.size, 0, none⟩ (.slice xa' [(m.length : Int)].length xc')).setCell ⟨w3.heap.size, 1, none⟩ (.slice ya' m.length yc')) w3.heap.size (.slice xa' [(m.length : Int)].length xc') (.slice ya' m.length yc') [(m.length : Int)] m) := ST7.out.put (hA.mono (by have := ST5.out.ok.lt; omega) (Nat.le_refl _)) (hA.mono (by have := ST5.out.z.lt; omega) (Nat.le_refl _)) (by simp) (by omega)
    have b0 := ST7.out.z.c0
    have b1 := ST7.out.z.c1
    have g0 : w7.frozen? ⟨w3.heap.size, 0, none⟩ = false := free_at ST7.out.z 0
    have g1 : w7.frozen? ⟨w3.heap.size, 1, none⟩ = false := free_at ST7.out.z 1
    clear hA hb ST5 ST4
    go_wp2_with fail
    clear b0 b1 g0 g1 ST7
    generalize (w7.setCell ⟨w3.heap.size, 0, none⟩ (.slice xa' [(m.length : Int)].length xc')).setCell ⟨w3.heap.size, 1, none⟩ (.slice ya' m.length yc') = W6 at *
    have u0 := ST6.out.drew.z.c0
    have u1 := ST6.out.drew.z.c1
    go_wp2_with fail
    go_region_with (go_at_call 58; refine (draw_draw ST6.out.drew.ok).mono ?_; rintro r wz ⟨vz, t, f, rfl, hA, hlt, hlf, hb, hd⟩; obtain ⟨ta, tc, fa, fc, rfl, _, _, _, _⟩ := hA.arrI; have SZ : Hid (TwoSt _ g w wz _ _ _ _ _) := ST6.out.drew.but hb hd; have CZ : Hid (Arr W6.drew.heap.size wz.heap.size wz (.agg #[.slice ta t.length tc, .slice fa f.length fc]) t f) := hA; clear hA hb hd; have q0 := SZ.out.z.c0; have q1 := SZ.out.z.c1; have r0 := SZ.out.ra.c0; have r1 := SZ.out.ra.c1; have r2 := SZ.out.rb.c0; have r3 := SZ.out.rb.c1; have f0 : wz.frozen? ⟨w.heap.size, 0, none⟩ = false := free_at SZ.out.ra 0; have f1 : wz.frozen? ⟨w.heap.size, 1, none⟩ = false := free_at SZ.out.ra 1; have f2 : wz.frozen? ⟨w.heap.size + 1, 0, none⟩ = false := free_at SZ.out.rb 0; have f3 : wz.frozen? ⟨w.heap.size + 1, 1, none⟩ = false := free_at SZ.out.rb 1)
    all_goals go_wp2_with fail
    all_goals
      have z1 := SZ.out.hg
      have z2 := ST6.out.drew.ok.lt
      obtain ⟨e1, e2, e3, e4, e5⟩ := two_end SZ.out.ra SZ.out.rb (SZ.out.a.mono (by omega) (Nat.le_refl _)) (CZ.out.mono (by omega) (Nat.le_refl _)) SZ.out.bl
      refine bodyPost_ret (results_arr2 rfl _ _ w.heap.size (w.heap.size + 1) _ _ _ _ rfl rfl e1 e2) rfl ?_
      exact ⟨_, _, _, _, _, _, rfl, e3, e4, ⟨SZ.out.ls, SZ.out.ld, hlt, hlf⟩, e5⟩
  by_cases m2 : z = 2
  · subst m2
    go_wp2_with fail
    refine (below_small ST4.out.ok 9 (by decide) (by decide)).mono ?_
    rintro e w5 ⟨x, x0, x9, rfl, hb, hd⟩
    have ST5 : Hid (TwoSt W0.heap.size g w w5 w3.heap.size (.slice xa [(l.length : Int)].length xc) (.slice ya l.length yc) [(l.length : Int)] l) := ST4.out.but hb hd
    clear hb hd
    go_wp2_with fail
    refine (scalar_spec _ _).mono ?_
    rintro e w7 ⟨v, rfl, hA, hb⟩
    obtain ⟨xa', xc', ya', yc', rfl, _, _, _, _⟩ := hA.arrI
    have ST7 : Hid (TwoSt W0.heap.size g w w7 w3.heap.size (.slice xa [(l.length : Int)].length xc) (.slice ya l.length yc) [(l.length : Int)] l) := ST5.out.below hb
    have ST6 : Hid (TwoSt W0.heap.size g w ((w7.setCell ⟨w3.heap.size, 0, none⟩ (.slice xa' ([] : List Int).length xc')).setCell ⟨w3.heap.size, 1, none⟩ (.slice ya' [x].length yc')) w3.heap.size (.slice xa' ([] : List Int).length xc') (.slice ya' [x].length yc') [] [x]) := ST7.out.put (hA.mono (by have := ST5.out.ok.lt; omega) (Nat.le_refl _)) (hA.mono (by have := ST5.out.z.lt; omega) (Nat.le_refl _)) (by simp) (by simp)
    have b0 := ST7.out.z.c0
    have b1 := ST7.out.z.c1
    have g0 : w7.frozen? ⟨w3.heap.size, 0, none⟩ = false := free_at ST7.out.z 0
    have g1 : w7.frozen? ⟨w3.heap.size, 1, none⟩ = false := free_at ST7.out.z 1
    clear hA hb ST5 ST4
    go_wp2_with fail
    clear b0 b1 g0 g1 ST7
    generalize (w7.setCell ⟨w3.heap.size, 0, none⟩ (.slice xa' ([] : List Int).length xc')).setCell ⟨w3.heap.size, 1, none⟩ (.slice ya' [x].length yc') = W6 at *
    have u0 := ST6.out.drew.z.c0
    have u1 := ST6.out.drew.z.c1
    go_wp2_with fail
    go_region_with (go_at_call 58; refine (draw_draw ST6.out.drew.ok).mono ?_; rintro r wz ⟨vz, t, f, rfl, hA, hlt, hlf, hb, hd⟩; obtain ⟨ta, tc, fa, fc, rfl, _, _, _, _⟩ := hA.arrI; have SZ : Hid (TwoSt _ g w wz _ _ _ _ _) := ST6.out.drew.but hb hd; have CZ : Hid (Arr W6.drew.heap.size wz.heap.size wz (.agg #[.slice ta t.length tc, .slice fa f.length fc]) t f) := hA; clear hA hb hd; have q0 := SZ.out.z.c0; have q1 := SZ.out.z.c1; have r0 := SZ.out.ra.c0; have r1 := SZ.out.ra.c1; have r2 := SZ.out.rb.c0; have r3 := SZ.out.rb.c1; have f0 : wz.frozen? ⟨w.heap.size, 0, none⟩ = false := free_at SZ.out.ra 0; have f1 : wz.frozen? ⟨w.heap.size, 1, none⟩ = false := free_at SZ.out.ra 1; have f2 : wz.frozen? ⟨w.heap.size + 1, 0, none⟩ = false := free_at SZ.out.rb 0; have f3 : wz.frozen? ⟨w.heap.size + 1, 1, none⟩ = false := free_at SZ.out.rb 1)
    all_goals go_wp2_with fail
    all_goals
      have z1 := SZ.out.hg
      have z2 := ST6.out.drew.ok.lt
      obtain ⟨e1, e2, e3, e4, e5⟩ := two_end SZ.out.ra SZ.out.rb (SZ.out.a.mono (by omega) (Nat.le_refl _)) (CZ.out.mono (by omega) (Nat.le_refl _)) SZ.out.bl
      refine bodyPost_ret (results_arr2 rfl _ _ w.heap.size (w.heap.size + 1) _ _ _ _ rfl rfl e1 e2) rfl ?_
      exact ⟨_, _, _, _, _, _, rfl, e3, e4, ⟨SZ.out.ls, SZ.out.ld, hlt, hlf⟩, e5⟩
  have u0 := ST4.out.drew.z.c0
  have u1 := ST4.out.drew.z.c1
  go_wp2_with fail
  go_region_with (go_at_call 58; refine (draw_draw ST4.out.drew.ok).mono ?_; rintro r wz ⟨vz, t, f, rfl, hA, hlt, hlf, hb, hd⟩; obtain ⟨ta, tc, fa, fc, rfl, _, _, _, _⟩ := hA.arrI; have SZ : Hid (TwoSt _ g w wz _ _ _ _ _) := ST4.out.drew.but hb hd; have CZ : Hid (Arr w4.drew.heap.size wz.heap.size wz (.agg #[.slice ta t.length tc, .slice fa f.length fc]) t f) := hA; clear hA hb hd; have q0 := SZ.out.z.c0; have q1 := SZ.out.z.c1; have r0 := SZ.out.ra.c0; have r1 := SZ.out.ra.c1; have r2 := SZ.out.rb.c0; have r3 := SZ.out.rb.c1; have f0 : wz.frozen? ⟨w.heap.size, 0, none⟩ = false := free_at SZ.out.ra 0; have f1 : wz.frozen? ⟨w.heap.size, 1, none⟩ = false := free_at SZ.out.ra 1; have f2 : wz.frozen? ⟨w.heap.size + 1, 0, none⟩ = false := free_at SZ.out.rb 0; have f3 : wz.frozen? ⟨w.heap.size + 1, 1, none⟩ = false := free_at SZ.out.rb 1)
  all_goals go_wp2_with fail
  all_goals
    have z1 := SZ.out.hg
    have z2 := ST4.out.drew.ok.lt
    obtain ⟨e1, e2, e3, e4, e5⟩ := two_end SZ.out.ra SZ.out.rb (SZ.out.a.mono (by omega) (Nat.le_refl _)) (CZ.out.mono (by omega) (Nat.le_refl _)) SZ.out.bl
    refine bodyPost_ret (results_arr2 rfl _ _ w.heap.size (w.heap.size + 1) _ _ _ _ rfl rfl e1 e2) rfl ?_
    exact ⟨_, _, _, _, _, _, rfl, e3, e4, ⟨SZ.out.ls, SZ.out.ld, hlt, hlf⟩, e5⟩
end Go.Proofs.Ytlbmbjgbihljhac
