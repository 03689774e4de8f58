/-
  The draw of Outer's laws: a sign and two arrays, whatever they are.
-/
import Derived.Test.YtcpgdhffemecbaaDrawEach2
import Derived.Test.YtcpgdhffemecbaaTwo14
namespace Go.Proofs.Ytcpgdhffemecbaa
open Go.RowKit
set_option linter.unusedVariables false
set_option linter.unusedSimpArgs false
set_option maxRecDepth 20000 in
set_option maxHeartbeats 4000000 in
/-- DrawOuter. -/
theorem drawOuter_spec {w : World} {a : Option Addr} {len cap : Nat} (hs : Src w.heap.size w a len) (hb20 : len ≤ 1048576) :
    Calls Try.prog 16 #[.slice a len cap] w fun e w' => ∃ x v u s d t f, e = .returned (.tuple #[.int .i64 x, v, u]) ∧ Arr w.heap.size w'.heap.size w' v s d ∧ Arr w.heap.size w'.heap.size w' u t f ∧ (s.length ≤ 4 ∧ d.length ≤ 301 ∧ t.length ≤ 4 ∧ f.length ≤ 301) ∧ Below w.heap.size w w' := by
  obtain ⟨W0, hW0⟩ : ∃ x, x = (w.alloc (.cells #[.slice none 0 0, .slice none 0 0] 26)).alloc (.cells #[.slice none 0 0, .slice none 0 0] 26) := ⟨_, rfl⟩
  have HB0 : Hid (Below w.heap.size w W0) := by rw [hW0]; exact bAlloc (bAlloc (Below.refl _ _) _) _
  have HS : Hid (Src W0.heap.size W0 a len) := srcKeep hs HB0.out
  have RA0 : Hid (Box W0 w.heap.size (.slice none 0 0) (.slice none 0 0) 26) := by rw [hW0]; exact heap_alloc2_old w _ _
  have RB0 : Hid (Box W0 (w.heap.size + 1) (.slice none 0 0) (.slice none 0 0) 26) := by rw [hW0]; exact heap_alloc2_new w _ _
  have SW0 : W0.heap.size = w.heap.size + 2 := by rw [hW0]; simp
  clear hs
  go_enter Try.func16, Try.ntmps16
  go_wp2_with fail
  rw [← hW0]
  refine (new_spec HS.out hb20).mono ?_
  rintro e wa ⟨g, rfl, hb, hd⟩
  have HBa : Hid (Below w.heap.size w wa) := bTrans HB0.out hb
  have RAa : Hid (Box wa w.heap.size (.slice none 0 0) (.slice none 0 0) 26) := RA0.out.keep hb
  have RBa : Hid (Box wa (w.heap.size + 1) (.slice none 0 0) (.slice none 0 0) 26) := RB0.out.keep hb
  have HDa : Hid (DrawOk W0.heap.size g wa) := hd
  have hg0 : w.heap.size + 2 ≤ g := by have := hd.1; omega
  clear hb hd hW0 RA0 RB0 HB0
  go_wp2_with fail
  refine (sign_spec HDa.out).mono ?_
  rintro e w1 ⟨sg, rfl, hb, hd⟩
  have HB1 : Hid (Below w.heap.size w w1) := HBa.out.trans (hb.below (by omega) HBa.out.size)
  have RA1 : Hid (Box w1 w.heap.size (.slice none 0 0) (.slice none 0 0) 26) := boxBut RAa.out hb (by omega)
  have RB1 : Hid (Box w1 (w.heap.size + 1) (.slice none 0 0) (.slice none 0 0) 26) := boxBut RBa.out hb (by omega)
  have HD1 : Hid (DrawOk W0.heap.size g w1) := hd
  have hg1 := hd.lt
  clear hb hd RAa RBa HBa HDa
  go_wp2_with fail
  refine (draw_draw HD1.out).mono ?_
  rintro e w2 ⟨v, s, d, rfl, hA, hls, hld, hb, hd⟩
  obtain ⟨px, py, rfl, pp, pq, ap⟩ := hA
  obtain ⟨xa, xc, hx, _⟩ := pp.ints
  obtain ⟨ya, yc, hy, _⟩ := pq.ints
  subst hx hy
  have B2 : Hid (But g w1 w2) := hb
  have A2 : Hid (Arr w1.heap.size w2.heap.size w2 (.agg #[.slice xa s.length xc, .slice ya d.length yc]) s d) := ⟨_, _, rfl, pp, pq, ap⟩
  have HD2 : Hid (DrawOk W0.heap.size g w2) := hd
  have S2 : Hid (w1.heap.size ≤ w2.heap.size) := hb.size
  clear hb hd pp pq ap
  go_wp2_with fail
  generalize hW : w2.alloc (.cells #[.slice xa s.length xc, .slice ya d.length yc] 26) = W3
  have ZA : Hid (Box W3 w2.heap.size (.slice xa s.length xc) (.slice ya d.length yc) 26) := by rw [← hW]; exact box_new w2 _ _ _
  have BW3 : Hid (Below w2.heap.size w2 W3) := by rw [← hW]; exact bAlloc (Below.refl _ _) _
  have HD3 : Hid (DrawOk W0.heap.size g W3) := by rw [← hW]; exact HD2.out.alloc _
  clear hW
  refine (draw_draw HD3.out).mono ?_
  rintro e w4 ⟨v', t, f, rfl, hA, hlt, hlf, hb, hd⟩
  obtain ⟨px, py, rfl, pp, pq, ap⟩ := hA
  obtain ⟨ua, uc, hx, _⟩ := pp.ints
  obtain ⟨va, vc, hy, _⟩ := pq.ints
  subst hx hy
  have SS2 := S2.out
  have S3 : Hid (w2.heap.size < W3.heap.size) := ZA.out.lt
  have SS3 := S3.out
  have A4 : Hid (Arr w1.heap.size w2.heap.size w4 (.agg #[.slice xa s.length xc, .slice ya d.length yc]) s d) := (A2.out.keep BW3.out).but hb (.inl hg1)
  have C4 : Hid (Arr W3.heap.size w4.heap.size w4 (.agg #[.slice ua t.length uc, .slice va f.length vc]) t f) := ⟨_, _, rfl, pp, pq, ap⟩
  have ZA4 : Hid (Box w4 w2.heap.size (.slice xa s.length xc) (.slice ya d.length yc) 26) := boxBut ZA.out hb (by omega)
  have RA4 : Hid (Box w4 w.heap.size (.slice none 0 0) (.slice none 0 0) 26) := boxBut ((boxBut RA1.out B2.out (by omega)).keep BW3.out) hb (by omega)
  have RB4 : Hid (Box w4 (w.heap.size + 1) (.slice none 0 0) (.slice none 0 0) 26) := boxBut ((boxBut RB1.out B2.out (by omega)).keep BW3.out) hb (by omega)
  have HB4 : Hid (Below w.heap.size w w4) := (bTrans (HB1.out.trans (B2.out.below (by omega) HB1.out.size)) BW3.out).trans (hb.below (by omega) (by have := HB1.out.size; omega))
  have HD4 : Hid (DrawOk W0.heap.size g w4) := hd
  have S4 : Hid (W3.heap.size ≤ w4.heap.size) := hb.size
  have SS4 := S4.out
  clear hb hd pp pq ap
  go_wp2_with fail
  generalize hW : w4.alloc (.cells #[.slice ua t.length uc, .slice va f.length vc] 26) = W5
  have BW5 : Hid (Below w4.heap.size w4 W5) := by rw [← hW]; exact bAlloc (Below.refl _ _) _
  have ZB5 : Hid (Box W5 w4.heap.size (.slice ua t.length uc) (.slice va f.length vc) 26) := by rw [← hW]; exact box_new w4 _ _ _
  have HD5 : Hid (DrawOk W0.heap.size g W5) := by rw [← hW]; exact HD4.out.alloc _
  have S5 : Hid (w4.heap.size < W5.heap.size) := ZB5.out.lt
  have SS5 := S5.out
  clear hW
  refine (once_spec HD5.out 2 (by decide) (by decide)).mono ?_
  rintro e w6 ⟨bo, rfl, hb, hd⟩
  have A6 : Hid (Arr w1.heap.size w2.heap.size w6 (.agg #[.slice xa s.length xc, .slice ya d.length yc]) s d) := (A4.out.keep BW5.out).but hb (.inl hg1)
  have C6 : Hid (Arr W3.heap.size w4.heap.size w6 (.agg #[.slice ua t.length uc, .slice va f.length vc]) t f) := (C4.out.keep BW5.out).but hb (.inl (by omega))
  have ZA6 : Hid (Box w6 w2.heap.size (.slice xa s.length xc) (.slice ya d.length yc) 26) := boxBut (ZA4.out.keep BW5.out) hb (by omega)
  have ZB6 : Hid (Box w6 w4.heap.size (.slice ua t.length uc) (.slice va f.length vc) 26) := boxBut ZB5.out hb (by omega)
  have RA6 : Hid (Box w6 w.heap.size (.slice none 0 0) (.slice none 0 0) 26) := boxBut (RA4.out.keep BW5.out) hb (by omega)
  have RB6 : Hid (Box w6 (w.heap.size + 1) (.slice none 0 0) (.slice none 0 0) 26) := boxBut (RB4.out.keep BW5.out) hb (by omega)
  have HB6 : Hid (Below w.heap.size w w6) := (bTrans HB4.out BW5.out).trans (hb.below (by omega) (by have := HB4.out.size; omega))
  have HD6 : Hid (DrawOk W0.heap.size g w6) := hd
  have S6 : Hid (W5.heap.size ≤ w6.heap.size) := hb.size
  have SS6 := S6.out
  have AF : Hid (Arr (w.heap.size + 2) w6.heap.size w6 (.agg #[.slice xa s.length xc, .slice ya d.length yc]) s d) := A6.out.mono (by omega) (by omega)
  have CF : Hid (Arr (w.heap.size + 2) w6.heap.size w6 (.agg #[.slice ua t.length uc, .slice va f.length vc]) t f) := C6.out.mono (by omega) (by omega)
  have LS : Hid (s.length ≤ 1048576 ∧ d.length ≤ 1048576) := ⟨by omega, by omega⟩
  clear hb hd
  cases bo
  · go_wp2_with fail
    have r0 := (RA6.out).c0
    have r1 := (RA6.out).c1
    have r2 := (RB6.out).c0
    have r3 := (RB6.out).c1
    have q0 := (ZA6.out).c0
    have q1 := (ZA6.out).c1
    have q2 := (ZB6.out).c0
    have q3 := (ZB6.out).c1
    have f0 : w6.frozen? ⟨w.heap.size, 0, none⟩ = false := free_at (RA6.out) 0
    have f1 : w6.frozen? ⟨w.heap.size, 1, none⟩ = false := free_at (RA6.out) 1
    have f2 : w6.frozen? ⟨w.heap.size + 1, 0, none⟩ = false := free_at (RB6.out) 0
    have f3 : w6.frozen? ⟨w.heap.size + 1, 1, none⟩ = false := free_at (RB6.out) 1
    have FE := two_end (RA6.out) (RB6.out) (AF.out) (CF.out) (HB6.out)
    have FX : Hid (_ ∧ _ ∧ _ ∧ _ ∧ _) := FE
    clear FE
    go_wp2
    go_region
    all_goals go_wp2
    all_goals
      refine bodyPost_ret (results_tmp_arr2 rfl _ _ w.heap.size (w.heap.size + 1) _ _ _ _ rfl rfl FX.out.1 FX.out.2.1) rfl ?_
      exact ⟨_, _, _, _, _, _, _, rfl, FX.out.2.2.1, FX.out.2.2.2.1, ⟨hls, hld, hlt, hlf⟩, FX.out.2.2.2.2.drew⟩
  · have ST6 : Hid (TwoQ W0.heap.size g w w6 w2.heap.size w4.heap.size (.slice xa s.length xc) (.slice ya d.length yc) (.slice ua t.length uc) (.slice va f.length vc) s d t f) :=
      ⟨RA6.out, RB6.out, ZA6.out, ZB6.out, A6.out.mono (by omega) (by omega), C6.out.mono (by omega) (by omega), hg0, by omega, by omega, ⟨hls, hld, hlt, hlf⟩, HB6.out, HD6.out⟩
    clear A2 A4 C4 ZA ZA4 ZB5 RA1 RB1 RA4 RB4 HB1 HB4 HD1 HD2 HD3 HD4 HD5 BW3 BW5 B2 A6 C6 ZA6 ZB6 RA6 RB6 HB6 HD6 AF CF
    go_wp2_with fail
    refine (below_small ST6.out.ok 5 (by decide) (by decide)).mono ?_
    rintro e w7 ⟨z, z0, z5, rfl, hb, hd⟩
    have ST7 : Hid (TwoQ W0.heap.size g w w7 w2.heap.size w4.heap.size (.slice xa s.length xc) (.slice ya d.length yc) (.slice ua t.length uc) (.slice va f.length vc) s d t f) := ST6.out.but hb hd
    clear hb hd ST6
    go_wp2_with fail
    generalize hW : w7.alloc (.cells #[.int .i64 z] 3) = W8
    have ST8 : Hid (TwoQ W0.heap.size g w W8 w2.heap.size w4.heap.size (.slice xa s.length xc) (.slice ya d.length yc) (.slice ua t.length uc) (.slice va f.length vc) s d t f) := by rw [← hW]; exact ST7.out.below (bAlloc (Below.refl _ _) _)
    have NP : Hid (Piece (g + 1) W8.heap.size W8 (.slice (some ⟨w7.heap.size, 0, none⟩) 1 1) [z]) := by
      have z1 := ST7.out.za.lt
      have z2 := ST7.out.nea
      rw [← hW]
      exact OwnInts.piece (ownInts_new w7 [z]) (by omega) (by simp) _
    clear hW ST7
    refine (fill_draw ST8.out.ok NP.out (by simp)).mono ?_
    rintro r w9 ⟨x', y', f', M, rfl, ⟨hM1, hM2⟩, hp, hn, hl3, hb, hd⟩
    obtain ⟨ka, kc, hx, _⟩ := hp.ints
    obtain ⟨la, lc, hy, _⟩ := hn.ints
    subst hx hy
    have ST9 : Hid (TwoQ W0.heap.size g w w9 w2.heap.size w4.heap.size (.slice xa s.length xc) (.slice ya d.length yc) (.slice ua t.length uc) (.slice va f.length vc) s d t f) := ST8.out.but hb hd
    have N9 : Hid (Arr W8.heap.size w9.heap.size w9 (.agg #[.slice ka [z].length kc, .slice la f'.length lc]) [z] f') := ⟨_, _, rfl, hp.mono (Nat.le_refl _) hM2, hn.piece.mono (by omega) (Nat.le_refl _), hp.apart hn.piece (.inl (Nat.le_refl _))⟩
    have L48 : Hid (w4.heap.size < W8.heap.size) := ST8.out.zb.lt
    have S89 : Hid (W8.heap.size ≤ w9.heap.size) := hb.size
    clear hp hn hb hd ST8 NP
    have b0 := ST9.out.zb.c0
    have b1 := ST9.out.zb.c1
    have g0 : w9.frozen? ⟨w4.heap.size, 0, none⟩ = false := free_at ST9.out.zb 0
    have g1 : w9.frozen? ⟨w4.heap.size, 1, none⟩ = false := free_at ST9.out.zb 1
    go_wp2_with fail
    clear b0 b1 g0 g1
    have E1 : [z].length = 1 := rfl
    generalize hW : (w9.setCell ⟨w4.heap.size, 0, none⟩ (.slice ka [z].length kc)).setCell ⟨w4.heap.size, 1, none⟩ (.slice la f'.length lc) = WA
    have L1 := L48.out
    have L2 := S89.out
    have L3 := ST9.out.nea
    have L4 := ST9.out.nab
    have WW : Hid (Win w4.heap.size (w4.heap.size + 1) w9 WA) := by rw [← hW]; exact (win_setCell _ _ _ _).trans (win_setCell _ _ _ _)
    have ZBA : Hid (Box WA w4.heap.size (.slice ka [z].length kc) (.slice la f'.length lc) 26) := by rw [← hW]; exact arr_stored (ST9.out.zb)
    have SWA : Hid (WA.heap.size = w9.heap.size) := by rw [← hW]; show _ = _; simp [size_setCell]
    have RAA : Hid (Box WA w.heap.size (.slice none 0 0) (.slice none 0 0) 26) := (ST9.out.ra).win WW.out (.inl (by omega))
    have RBA : Hid (Box WA (w.heap.size + 1) (.slice none 0 0) (.slice none 0 0) 26) := (ST9.out.rb).win WW.out (.inl (by omega))
    have ZAA : Hid (Box WA w2.heap.size (.slice xa s.length xc) (.slice ya d.length yc) 26) := (ST9.out.za).win WW.out (.inl (by omega))
    have AA : Hid (Arr (w.heap.size + 2) WA.heap.size WA (.agg #[.slice xa s.length xc, .slice ya d.length yc]) s d) := ((ST9.out.a).win WW.out (.inl (by omega))).mono (by omega) (by have := SWA.out; omega)
    have CA : Hid (Arr (w.heap.size + 2) WA.heap.size WA (.agg #[.slice ka [z].length kc, .slice la f'.length lc]) [z] f') := ((N9.out).win WW.out (.inr (by omega))).mono (by omega) (by have := SWA.out; omega)
    have HBA : Hid (Below w.heap.size w WA) := (ST9.out.bl).trans (WW.out.below (by omega) (by have := (ST9.out.bl).size; omega))
    clear hW ST9 N9
    have r0 := (RAA.out).c0
    have r1 := (RAA.out).c1
    have r2 := (RBA.out).c0
    have r3 := (RBA.out).c1
    have q0 := (ZAA.out).c0
    have q1 := (ZAA.out).c1
    have q2 := (ZBA.out).c0
    have q3 := (ZBA.out).c1
    have f0 : WA.frozen? ⟨w.heap.size, 0, none⟩ = false := free_at (RAA.out) 0
    have f1 : WA.frozen? ⟨w.heap.size, 1, none⟩ = false := free_at (RAA.out) 1
    have f2 : WA.frozen? ⟨w.heap.size + 1, 0, none⟩ = false := free_at (RBA.out) 0
    have f3 : WA.frozen? ⟨w.heap.size + 1, 1, none⟩ = false := free_at (RBA.out) 1
    have FE := two_end (RAA.out) (RBA.out) (AA.out) (CA.out) (HBA.out)
    have FX : Hid (_ ∧ _ ∧ _ ∧ _ ∧ _) := FE
    clear FE
    go_wp2
    go_region
    all_goals go_wp2
    all_goals
      refine bodyPost_ret (results_tmp_arr2 rfl _ _ w.heap.size (w.heap.size + 1) _ _ _ _ rfl rfl FX.out.1 FX.out.2.1) rfl ?_
      exact ⟨_, _, _, _, _, _, _, rfl, FX.out.2.2.1, FX.out.2.2.2.1, ⟨hls, hld, by simp, by omega⟩, FX.out.2.2.2.2.drew⟩
end Go.Proofs.Ytcpgdhffemecbaa
