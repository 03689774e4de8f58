/-
  The draw of Rotate's, Take's and Drop's laws: two arrays, whatever they are.
-/
import Derived.Test.YtlbmbjgbihljhadTwo10
namespace Go.Proofs.Ytlbmbjgbihljhad
open Go.RowKit
set_option linter.unusedVariables false
set_option linter.unusedSimpArgs false
set_option maxRecDepth 20000 in
set_option maxHeartbeats 4000000 in
/-- l5DrawBy. -/
theorem drawBy_spec {w : World} {a : Option Addr} {len cap : Nat} (hs : Src w.heap.size w a len) (hb20 : len ≤ 1048576) :
    Calls Try.prog 38 #[.slice a len cap] w fun e w' => ∃ v u s d t f, e = .returned (.tuple #[v, u]) ∧ Arr w.heap.size w'.heap.size w' v s d ∧ Arr w.heap.size w'.heap.size w' u t f ∧ (s.length ≤ 4 ∧ d.length ≤ 301 ∧ t.length ≤ 4 ∧ f.length ≤ 301) ∧ Below w.heap.size w w' := by
  obtain ⟨W0, hW0⟩ : ∃ x, x = (w.alloc (.cells #[.slice none 0 0, .slice none 0 0] 26)).alloc (.cells #[.slice none 0 0, .slice none 0 0] 26) := ⟨_, rfl⟩
  have HB0 : Hid (Below w.heap.size w W0) := by rw [hW0]; exact bAlloc (bAlloc (Below.refl _ _) _) _
  have HS : Hid (Src W0.heap.size W0 a len) := srcKeep hs HB0.out
  have RA0 : Hid (Box W0 w.heap.size (.slice none 0 0) (.slice none 0 0) 26) := by rw [hW0]; exact heap_alloc2_old w _ _
  have RB0 : Hid (Box W0 (w.heap.size + 1) (.slice none 0 0) (.slice none 0 0) 26) := by rw [hW0]; exact heap_alloc2_new w _ _
  have SW0 : W0.heap.size = w.heap.size + 2 := by rw [hW0]; simp
  clear hs
  go_enter Try.func38, Try.ntmps38
  go_wp2_with fail
  rw [← hW0]
  refine (new_spec HS.out hb20).mono ?_
  rintro e w1 ⟨g, rfl, hb, hd⟩
  have HB1 : Hid (Below w.heap.size w w1) := bTrans HB0.out hb
  have RA1 : Hid (Box w1 w.heap.size (.slice none 0 0) (.slice none 0 0) 26) := RA0.out.keep hb
  have RB1 : Hid (Box w1 (w.heap.size + 1) (.slice none 0 0) (.slice none 0 0) 26) := RB0.out.keep hb
  have HD1 : Hid (DrawOk W0.heap.size g w1) := hd
  have hg0 : w.heap.size + 2 ≤ g := by have := hd.1; omega
  have hg1 := hd.lt
  clear hb hd hW0 RA0 RB0 HB0
  go_wp2_with fail
  refine (below_small HD1.out 12 (by decide) (by decide)).mono ?_
  rintro e w2 ⟨z, z0, z12, rfl, hb, hd⟩
  have HB2 : Hid (But g w1 w2) := hb
  have HD2 : Hid (DrawOk W0.heap.size g w2) := hd
  clear hb hd
  go_wp2_with fail
  refine (once_spec HD2.out 15 (by decide) (by decide)).mono ?_
  rintro e w3 ⟨b, rfl, hb, hd⟩
  have HB3 : Hid (But g w1 w3) := HB2.out.trans hb
  have HD3 : Hid (DrawOk W0.heap.size g w3) := hd
  have hg3 := hd.lt
  clear hb hd HB2 HD2
  cases b
  · go_wp2_with fail
    refine (drawN_draw HD3.out _).mono ?_
    rintro e w5 ⟨v, s, d, rfl, hA, hls, hld, hb, hd⟩
    obtain ⟨xa, xc, ya, yc, rfl, _, _, _, _⟩ := hA.arrI
    have A5 : Hid (Arr w3.heap.size w5.heap.size w5 (.agg #[.slice xa s.length xc, .slice ya d.length yc]) s d) := hA
    have HB15 : Hid (But g w1 w5) := HB3.out.trans hb
    have HD5 : Hid (DrawOk W0.heap.size g w5) := hd
    have G5 : Hid (g < w3.heap.size) := HD3.out.lt
    have S5 : Hid (w3.heap.size ≤ w5.heap.size) := hb.size
    clear hA hb hd
    go_wp2_with fail
    generalize hW : w5.alloc (.cells #[.slice xa s.length xc, .slice ya d.length yc] 26) = W6
    have ST6 : Hid (TwoSt W0.heap.size g w W6 w5.heap.size (.slice xa s.length xc) (.slice ya d.length yc) s d) := by
      have BW6 : Below w5.heap.size w5 W6 := by rw [← hW]; exact bAlloc (Below.refl _ _) _
      have S4 := BW6.size
      have z1 := G5.out
      have z2 := S5.out
      have z3 := HB15.out.size
      have z4 := HB1.out.size
      refine ⟨(boxBut RA1.out HB15.out (by omega)).keep BW6, (boxBut RB1.out HB15.out (by omega)).keep BW6, by rw [← hW]; exact box_new w5 _ _ _, (A5.out.keep BW6).mono (by omega) S4, by omega, hg0, by omega, hls, hld, bTrans (HB1.out.trans (HB15.out.below (by omega) HB1.out.size)) BW6, by rw [← hW]; exact HD5.out.alloc _⟩
    clear hW A5 HB15 HD5
    have u0 := ST6.out.drew.z.c0
    have u1 := ST6.out.drew.z.c1
    go_wp2_with fail
    go_region_with (go_at_call 52; refine (draw_draw ST6.out.drew.ok).mono ?_; rintro r wz ⟨vz, t, f, rfl, hA, hlt, hlf, hb, hd⟩; obtain ⟨ta, tc, fa, fc, rfl, _, _, _, _⟩ := hA.arrI; have SZ : Hid (TwoSt _ g w wz _ _ _ _ _) := ST6.out.drew.but hb hd; have CZ : Hid (Arr W6.drew.heap.size wz.heap.size wz (.agg #[.slice ta t.length tc, .slice fa f.length fc]) t f) := hA; clear hA hb hd; have q0 := SZ.out.z.c0; have q1 := SZ.out.z.c1; have r0 := SZ.out.ra.c0; have r1 := SZ.out.ra.c1; have r2 := SZ.out.rb.c0; have r3 := SZ.out.rb.c1; have f0 : wz.frozen? ⟨w.heap.size, 0, none⟩ = false := free_at SZ.out.ra 0; have f1 : wz.frozen? ⟨w.heap.size, 1, none⟩ = false := free_at SZ.out.ra 1; have f2 : wz.frozen? ⟨w.heap.size + 1, 0, none⟩ = false := free_at SZ.out.rb 0; have f3 : wz.frozen? ⟨w.heap.size + 1, 1, none⟩ = false := free_at SZ.out.rb 1)
    all_goals go_wp2_with fail
    all_goals
      have z1 := SZ.out.hg
      have z2 := ST6.out.drew.ok.lt
      obtain ⟨e1, e2, e3, e4, e5⟩ := two_end SZ.out.ra SZ.out.rb (SZ.out.a.mono (by omega) (Nat.le_refl _)) (CZ.out.mono (by omega) (Nat.le_refl _)) SZ.out.bl
      refine bodyPost_ret (results_arr2 rfl _ _ w.heap.size (w.heap.size + 1) _ _ _ _ rfl rfl e1 e2) rfl ?_
      exact ⟨_, _, _, _, _, _, rfl, e3, e4, ⟨SZ.out.ls, SZ.out.ld, hlt, hlf⟩, e5⟩
  · go_wp2_with fail
    refine (pick_spec (B := W0.heap.size) (g := g) (gl := w3.heap.size) (HD3.out.alloc _) 4 4 (by decide) (by decide) (by omega) (by simp) (nums_alloc w3 [1000000000000, (-1000000000000 : Int), 300, 301] _) rfl).mono ?_
    rintro e w4 ⟨x, rfl, hb, hd, hm⟩
    have HB4 : Hid (But g w1 w4) := (HB3.out.alloc _).trans hb
    have HD4 : Hid (DrawOk W0.heap.size g w4) := hd
    clear hb hd hm
    go_wp2_with fail
    refine (drawN_draw HD4.out _).mono ?_
    rintro e w5 ⟨v, s, d, rfl, hA, hls, hld, hb, hd⟩
    obtain ⟨xa, xc, ya, yc, rfl, _, _, _, _⟩ := hA.arrI
    have A5 : Hid (Arr w4.heap.size w5.heap.size w5 (.agg #[.slice xa s.length xc, .slice ya d.length yc]) s d) := hA
    have HB15 : Hid (But g w1 w5) := HB4.out.trans hb
    have HD5 : Hid (DrawOk W0.heap.size g w5) := hd
    have G5 : Hid (g < w4.heap.size) := HD4.out.lt
    have S5 : Hid (w4.heap.size ≤ w5.heap.size) := hb.size
    clear hA hb hd
    go_wp2_with fail
    generalize hW : w5.alloc (.cells #[.slice xa s.length xc, .slice ya d.length yc] 26) = W6
    have ST6 : Hid (TwoSt W0.heap.size g w W6 w5.heap.size (.slice xa s.length xc) (.slice ya d.length yc) s d) := by
      have BW6 : Below w5.heap.size w5 W6 := by rw [← hW]; exact bAlloc (Below.refl _ _) _
      have S4 := BW6.size
      have z1 := G5.out
      have z2 := S5.out
      have z3 := HB15.out.size
      have z4 := HB1.out.size
      refine ⟨(boxBut RA1.out HB15.out (by omega)).keep BW6, (boxBut RB1.out HB15.out (by omega)).keep BW6, by rw [← hW]; exact box_new w5 _ _ _, (A5.out.keep BW6).mono (by omega) S4, by omega, hg0, by omega, hls, hld, bTrans (HB1.out.trans (HB15.out.below (by omega) HB1.out.size)) BW6, by rw [← hW]; exact HD5.out.alloc _⟩
    clear hW A5 HB15 HD5
    have u0 := ST6.out.drew.z.c0
    have u1 := ST6.out.drew.z.c1
    go_wp2_with fail
    go_region_with (go_at_call 52; refine (draw_draw ST6.out.drew.ok).mono ?_; rintro r wz ⟨vz, t, f, rfl, hA, hlt, hlf, hb, hd⟩; obtain ⟨ta, tc, fa, fc, rfl, _, _, _, _⟩ := hA.arrI; have SZ : Hid (TwoSt _ g w wz _ _ _ _ _) := ST6.out.drew.but hb hd; have CZ : Hid (Arr W6.drew.heap.size wz.heap.size wz (.agg #[.slice ta t.length tc, .slice fa f.length fc]) t f) := hA; clear hA hb hd; have q0 := SZ.out.z.c0; have q1 := SZ.out.z.c1; have r0 := SZ.out.ra.c0; have r1 := SZ.out.ra.c1; have r2 := SZ.out.rb.c0; have r3 := SZ.out.rb.c1; have f0 : wz.frozen? ⟨w.heap.size, 0, none⟩ = false := free_at SZ.out.ra 0; have f1 : wz.frozen? ⟨w.heap.size, 1, none⟩ = false := free_at SZ.out.ra 1; have f2 : wz.frozen? ⟨w.heap.size + 1, 0, none⟩ = false := free_at SZ.out.rb 0; have f3 : wz.frozen? ⟨w.heap.size + 1, 1, none⟩ = false := free_at SZ.out.rb 1)
    all_goals go_wp2_with fail
    all_goals
      have z1 := SZ.out.hg
      have z2 := ST6.out.drew.ok.lt
      obtain ⟨e1, e2, e3, e4, e5⟩ := two_end SZ.out.ra SZ.out.rb (SZ.out.a.mono (by omega) (Nat.le_refl _)) (CZ.out.mono (by omega) (Nat.le_refl _)) SZ.out.bl
      refine bodyPost_ret (results_arr2 rfl _ _ w.heap.size (w.heap.size + 1) _ _ _ _ rfl rfl e1 e2) rfl ?_
      exact ⟨_, _, _, _, _, _, rfl, e3, e4, ⟨SZ.out.ls, SZ.out.ld, hlt, hlf⟩, e5⟩
set_option maxRecDepth 20000 in
set_option maxHeartbeats 4000000 in
theorem drawTake_spec {w : World} {a : Option Addr} {len cap : Nat} (hs : Src w.heap.size w a len) (hb20 : len ≤ 1048576) :
    Calls Try.prog 10 #[.slice a len cap] w fun e w' => ∃ v u s d t f, e = .returned (.tuple #[v, u]) ∧ Arr w.heap.size w'.heap.size w' v s d ∧ Arr w.heap.size w'.heap.size w' u t f ∧ (s.length ≤ 4 ∧ d.length ≤ 301 ∧ t.length ≤ 4 ∧ f.length ≤ 301) ∧ Below w.heap.size w w' := by
  obtain ⟨W0, hW0⟩ : ∃ x, x = (w.alloc (.cells #[.slice none 0 0, .slice none 0 0] 26)).alloc (.cells #[.slice none 0 0, .slice none 0 0] 26) := ⟨_, rfl⟩
  have HB0 : Hid (Below w.heap.size w W0) := by rw [hW0]; exact bAlloc (bAlloc (Below.refl _ _) _) _
  have HS : Hid (Src W0.heap.size W0 a len) := srcKeep hs HB0.out
  have RA0 : Hid (Box W0 w.heap.size (.slice none 0 0) (.slice none 0 0) 26) := by rw [hW0]; exact heap_alloc2_old w _ _
  have RB0 : Hid (Box W0 (w.heap.size + 1) (.slice none 0 0) (.slice none 0 0) 26) := by rw [hW0]; exact heap_alloc2_new w _ _
  have SW0 : W0.heap.size = w.heap.size + 2 := by rw [hW0]; simp
  clear hs
  go_enter Try.func10, Try.ntmps10
  go_wp2_with fail
  rw [← hW0]
  refine (drawBy_spec HS.out hb20).mono ?_
  rintro e w1 ⟨v, u, s, d, t, f, rfl, hA, hA', ⟨hls, hld, hlt, hlf⟩, hb⟩
  obtain ⟨xa, xc, ya, yc, rfl, _, _, _, _⟩ := hA.arrI
  obtain ⟨ua, uc, va, vc, rfl, _, _, _, _⟩ := hA'.arrI
  have A1 : Hid (Arr W0.heap.size w1.heap.size w1 (.agg #[.slice xa s.length xc, .slice ya d.length yc]) s d) := hA
  have C1 : Hid (Arr W0.heap.size w1.heap.size w1 (.agg #[.slice ua t.length uc, .slice va f.length vc]) t f) := hA'
  have HB1 : Hid (Below W0.heap.size W0 w1) := hb
  have S1 : Hid (W0.heap.size ≤ w1.heap.size) := hb.size
  clear hA hA' hb hW0
  go_wp2_with fail
  generalize hW : (w1.alloc (.cells #[.slice xa s.length xc, .slice ya d.length yc] 26)).alloc (.cells #[.slice ua t.length uc, .slice va f.length vc] 26) = W2
  have BW : Hid (Below w1.heap.size w1 W2) := by rw [← hW]; exact bAlloc (bAlloc (Below.refl _ _) _) _
  have QA : Hid (Box W2 w1.heap.size (.slice xa s.length xc) (.slice ya d.length yc) 26) := by rw [← hW]; exact heap_alloc2_old w1 _ _
  have QC : Hid (Box W2 (w1.heap.size + 1) (.slice ua t.length uc) (.slice va f.length vc) 26) := by rw [← hW]; exact heap_alloc2_new w1 _ _
  have RA : Hid (Box W2 w.heap.size (.slice none 0 0) (.slice none 0 0) 26) := (RA0.out.keep HB1.out).keep BW.out
  have RB : Hid (Box W2 (w.heap.size + 1) (.slice none 0 0) (.slice none 0 0) 26) := (RB0.out.keep HB1.out).keep BW.out
  have FX : Hid (_ ∧ _ ∧ _ ∧ _ ∧ _) := two_end RA.out RB.out ((A1.out.keep BW.out).mono (by omega) BW.out.size) ((C1.out.keep BW.out).mono (by omega) BW.out.size) (bTrans (bTrans HB0.out HB1.out) BW.out)
  have SS1 := S1.out
  clear hW BW A1 C1 HB1 HB0 RA0 RB0 S1
  have r0 := RA.out.c0
  have r1 := RA.out.c1
  have r2 := RB.out.c0
  have r3 := RB.out.c1
  have q0 := QA.out.c0
  have q1 := QA.out.c1
  have q2 := QC.out.c0
  have q3 := QC.out.c1
  have f0 : W2.frozen? ⟨w.heap.size, 0, none⟩ = false := free_at RA.out 0
  have f1 : W2.frozen? ⟨w.heap.size, 1, none⟩ = false := free_at RA.out 1
  have f2 : W2.frozen? ⟨w.heap.size + 1, 0, none⟩ = false := free_at RB.out 0
  have f3 : W2.frozen? ⟨w.heap.size + 1, 1, none⟩ = false := free_at RB.out 1
  go_region
  all_goals go_wp2
  all_goals
    refine bodyPost_ret (results_arr2 rfl _ _ w.heap.size (w.heap.size + 1) _ _ _ _ rfl rfl FX.out.1 FX.out.2.1) rfl ?_
    exact ⟨_, _, _, _, _, _, rfl, FX.out.2.2.1, FX.out.2.2.2.1, ⟨hls, hld, hlt, hlf⟩, FX.out.2.2.2.2.drew⟩
set_option maxRecDepth 20000 in
set_option maxHeartbeats 4000000 in
theorem drawRotate_spec {w : World} {a : Option Addr} {len cap : Nat} (hs : Src w.heap.size w a len) (hb20 : len ≤ 1048576) :
    Calls Try.prog 24 #[.slice a len cap] w fun e w' => ∃ v u s d t f, e = .returned (.tuple #[v, u]) ∧ Arr w.heap.size w'.heap.size w' v s d ∧ Arr w.heap.size w'.heap.size w' u t f ∧ (s.length ≤ 4 ∧ d.length ≤ 301 ∧ t.length ≤ 4 ∧ f.length ≤ 301) ∧ Below w.heap.size w w' := by
  obtain ⟨W0, hW0⟩ : ∃ x, x = (w.alloc (.cells #[.slice none 0 0, .slice none 0 0] 26)).alloc (.cells #[.slice none 0 0, .slice none 0 0] 26) := ⟨_, rfl⟩
  have HB0 : Hid (Below w.heap.size w W0) := by rw [hW0]; exact bAlloc (bAlloc (Below.refl _ _) _) _
  have HS : Hid (Src W0.heap.size W0 a len) := srcKeep hs HB0.out
  have RA0 : Hid (Box W0 w.heap.size (.slice none 0 0) (.slice none 0 0) 26) := by rw [hW0]; exact heap_alloc2_old w _ _
  have RB0 : Hid (Box W0 (w.heap.size + 1) (.slice none 0 0) (.slice none 0 0) 26) := by rw [hW0]; exact heap_alloc2_new w _ _
  have SW0 : W0.heap.size = w.heap.size + 2 := by rw [hW0]; simp
  clear hs
  go_enter Try.func24, Try.ntmps24
  go_wp2_with fail
  rw [← hW0]
  refine (drawBy_spec HS.out hb20).mono ?_
  rintro e w1 ⟨v, u, s, d, t, f, rfl, hA, hA', ⟨hls, hld, hlt, hlf⟩, hb⟩
  obtain ⟨xa, xc, ya, yc, rfl, _, _, _, _⟩ := hA.arrI
  obtain ⟨ua, uc, va, vc, rfl, _, _, _, _⟩ := hA'.arrI
  have A1 : Hid (Arr W0.heap.size w1.heap.size w1 (.agg #[.slice xa s.length xc, .slice ya d.length yc]) s d) := hA
  have C1 : Hid (Arr W0.heap.size w1.heap.size w1 (.agg #[.slice ua t.length uc, .slice va f.length vc]) t f) := hA'
  have HB1 : Hid (Below W0.heap.size W0 w1) := hb
  have S1 : Hid (W0.heap.size ≤ w1.heap.size) := hb.size
  clear hA hA' hb hW0
  go_wp2_with fail
  generalize hW : (w1.alloc (.cells #[.slice xa s.length xc, .slice ya d.length yc] 26)).alloc (.cells #[.slice ua t.length uc, .slice va f.length vc] 26) = W2
  have BW : Hid (Below w1.heap.size w1 W2) := by rw [← hW]; exact bAlloc (bAlloc (Below.refl _ _) _) _
  have QA : Hid (Box W2 w1.heap.size (.slice xa s.length xc) (.slice ya d.length yc) 26) := by rw [← hW]; exact heap_alloc2_old w1 _ _
  have QC : Hid (Box W2 (w1.heap.size + 1) (.slice ua t.length uc) (.slice va f.length vc) 26) := by rw [← hW]; exact heap_alloc2_new w1 _ _
  have RA : Hid (Box W2 w.heap.size (.slice none 0 0) (.slice none 0 0) 26) := (RA0.out.keep HB1.out).keep BW.out
  have RB : Hid (Box W2 (w.heap.size + 1) (.slice none 0 0) (.slice none 0 0) 26) := (RB0.out.keep HB1.out).keep BW.out
  have FX : Hid (_ ∧ _ ∧ _ ∧ _ ∧ _) := two_end RA.out RB.out ((A1.out.keep BW.out).mono (by omega) BW.out.size) ((C1.out.keep BW.out).mono (by omega) BW.out.size) (bTrans (bTrans HB0.out HB1.out) BW.out)
  have SS1 := S1.out
  clear hW BW A1 C1 HB1 HB0 RA0 RB0 S1
  have r0 := RA.out.c0
  have r1 := RA.out.c1
  have r2 := RB.out.c0
  have r3 := RB.out.c1
  have q0 := QA.out.c0
  have q1 := QA.out.c1
  have q2 := QC.out.c0
  have q3 := QC.out.c1
  have f0 : W2.frozen? ⟨w.heap.size, 0, none⟩ = false := free_at RA.out 0
  have f1 : W2.frozen? ⟨w.heap.size, 1, none⟩ = false := free_at RA.out 1
  have f2 : W2.frozen? ⟨w.heap.size + 1, 0, none⟩ = false := free_at RB.out 0
  have f3 : W2.frozen? ⟨w.heap.size + 1, 1, none⟩ = false := free_at RB.out 1
  go_region
  all_goals go_wp2
  all_goals
    refine bodyPost_ret (results_arr2 rfl _ _ w.heap.size (w.heap.size + 1) _ _ _ _ rfl rfl FX.out.1 FX.out.2.1) rfl ?_
    exact ⟨_, _, _, _, _, _, rfl, FX.out.2.2.1, FX.out.2.2.2.1, ⟨hls, hld, hlt, hlf⟩, FX.out.2.2.2.2.drew⟩
end Go.Proofs.Ytlbmbjgbihljhad
