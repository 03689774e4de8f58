/-
  The draw of Join's law: two arrays, whatever they are.
-/
import Derived.Test.YtdobohobhpailaaTwo11Y
namespace Go.Proofs.Ytdobohobhpailaa
open Go.RowKit
set_option linter.unusedVariables false
set_option linter.unusedSimpArgs false
set_option maxRecDepth 20000 in
set_option maxHeartbeats 4000000 in
/-- DrawJoin. -/
theorem drawJoin_spec {w : World} {a : Option Addr} {len cap : Nat} (hs : Src w.heap.size w a len) (hb20 : len ≤ 1048576) :
    Calls Try.prog 5 #[.slice a len cap] w fun e w' => ∃ v u s d t f, e = .returned (.tuple #[v, u]) ∧ Arr w.heap.size w'.heap.size w' v s d ∧ Arr w.heap.size w'.heap.size w' u t f ∧ (s.length ≤ 4 ∧ d.length ≤ 301 ∧ t.length ≤ 4 ∧ f.length ≤ 301) ∧ Below w.heap.size w w' := by
  obtain ⟨W0, hW0⟩ : ∃ x, x = (w.alloc (.cells #[.slice none 0 0, .slice none 0 0] 26)).alloc (.cells #[.slice none 0 0, .slice none 0 0] 26) := ⟨_, rfl⟩
  have HB0 : Hid (Below w.heap.size w W0) := by rw [hW0]; exact bAlloc (bAlloc (Below.refl _ _) _) _
  have HS : Hid (Src W0.heap.size W0 a len) := srcKeep hs HB0.out
  have RA0 : Hid (Box W0 w.heap.size (.slice none 0 0) (.slice none 0 0) 26) := by rw [hW0]; exact heap_alloc2_old w _ _
  have RB0 : Hid (Box W0 (w.heap.size + 1) (.slice none 0 0) (.slice none 0 0) 26) := by rw [hW0]; exact heap_alloc2_new w _ _
  have SW0 : W0.heap.size = w.heap.size + 2 := by rw [hW0]; simp
  clear hs
  go_enter Try.func5, Try.ntmps5
  go_wp2_with fail
  rw [← hW0]
  refine (new_spec HS.out hb20).mono ?_
  rintro e w1 ⟨g, rfl, hb, hd⟩
  have HB1 : Hid (Below w.heap.size w w1) := bTrans HB0.out hb
  have RA1 : Hid (Box w1 w.heap.size (.slice none 0 0) (.slice none 0 0) 26) := RA0.out.keep hb
  have RB1 : Hid (Box w1 (w.heap.size + 1) (.slice none 0 0) (.slice none 0 0) 26) := RB0.out.keep hb
  have HD1 : Hid (DrawOk W0.heap.size g w1) := hd
  have hg0 : w.heap.size + 2 ≤ g := by have := hd.1; omega
  have hg1 := hd.lt
  clear hb hd hW0 RA0 RB0 HB0
  go_wp2_with fail
  refine (draw_draw HD1.out).mono ?_
  rintro e w2 ⟨v, s, d, rfl, hA, hls, hld, hb, hd⟩
  obtain ⟨px, py, rfl, pp, pq, ap⟩ := hA
  obtain ⟨xa, xc, hx, _⟩ := pp.ints
  obtain ⟨ya, yc, hy, _⟩ := pq.ints
  subst hx hy
  have B2 : Hid (But g w1 w2) := hb
  have A2 : Hid (Arr w1.heap.size w2.heap.size w2 (.agg #[.slice xa s.length xc, .slice ya d.length yc]) s d) := ⟨_, _, rfl, pp, pq, ap⟩
  have HD2 : Hid (DrawOk W0.heap.size g w2) := hd
  have S2 : Hid (w1.heap.size ≤ w2.heap.size) := hb.size
  clear hb hd pp pq ap
  go_wp2_with fail
  generalize hW : w2.alloc (.cells #[.slice xa s.length xc, .slice ya d.length yc] 26) = W3
  have ZA : Hid (Box W3 w2.heap.size (.slice xa s.length xc) (.slice ya d.length yc) 26) := by rw [← hW]; exact box_new w2 _ _ _
  have BW3 : Hid (Below w2.heap.size w2 W3) := by rw [← hW]; exact bAlloc (Below.refl _ _) _
  have HD3 : Hid (DrawOk W0.heap.size g W3) := by rw [← hW]; exact HD2.out.alloc _
  clear hW
  refine (draw_draw HD3.out).mono ?_
  rintro e w4 ⟨v', t, f, rfl, hA, hlt, hlf, hb, hd⟩
  obtain ⟨px, py, rfl, pp, pq, ap⟩ := hA
  obtain ⟨ua, uc, hx, _⟩ := pp.ints
  obtain ⟨va, vc, hy, _⟩ := pq.ints
  subst hx hy
  have SS2 := S2.out
  have S3 : Hid (w2.heap.size < W3.heap.size) := ZA.out.lt
  have SS3 := S3.out
  have A4 : Hid (Arr w1.heap.size w2.heap.size w4 (.agg #[.slice xa s.length xc, .slice ya d.length yc]) s d) := (A2.out.keep BW3.out).but hb (.inl hg1)
  have C4 : Hid (Arr W3.heap.size w4.heap.size w4 (.agg #[.slice ua t.length uc, .slice va f.length vc]) t f) := ⟨_, _, rfl, pp, pq, ap⟩
  have ZA4 : Hid (Box w4 w2.heap.size (.slice xa s.length xc) (.slice ya d.length yc) 26) := boxBut ZA.out hb (by omega)
  have RA4 : Hid (Box w4 w.heap.size (.slice none 0 0) (.slice none 0 0) 26) := boxBut ((boxBut RA1.out B2.out (by omega)).keep BW3.out) hb (by omega)
  have RB4 : Hid (Box w4 (w.heap.size + 1) (.slice none 0 0) (.slice none 0 0) 26) := boxBut ((boxBut RB1.out B2.out (by omega)).keep BW3.out) hb (by omega)
  have HB4 : Hid (Below w.heap.size w w4) := (bTrans (HB1.out.trans (B2.out.below (by omega) HB1.out.size)) BW3.out).trans (hb.below (by omega) (by have := HB1.out.size; omega))
  have HD4 : Hid (DrawOk W0.heap.size g w4) := hd
  have S4 : Hid (W3.heap.size ≤ w4.heap.size) := hb.size
  have SS4 := S4.out
  clear hb hd pp pq ap
  have ca0 : ∀ o : Obj, (w4.alloc o).cell? ⟨w2.heap.size, 0, none⟩ = some (.slice xa s.length xc) := fun o => (ZA4.out.keep (bAlloc (Below.refl _ _) o)).c0
  have ca1 : ∀ o : Obj, (w4.alloc o).cell? ⟨w2.heap.size, 1, none⟩ = some (.slice ya d.length yc) := fun o => (ZA4.out.keep (bAlloc (Below.refl _ _) o)).c1
  go_wp2_with fail
  generalize hW : w4.alloc (.cells #[.slice ua t.length uc, .slice va f.length vc] 26) = W5
  have BW5 : Hid (Below w4.heap.size w4 W5) := by rw [← hW]; exact bAlloc (Below.refl _ _) _
  have ZB5 : Hid (Box W5 w4.heap.size (.slice ua t.length uc) (.slice va f.length vc) 26) := by rw [← hW]; exact box_new w4 _ _ _
  have HD5 : Hid (DrawOk W0.heap.size g W5) := by rw [← hW]; exact HD4.out.alloc _
  have S5 : Hid (w4.heap.size < W5.heap.size) := ZB5.out.lt
  have SS5 := S5.out
  clear hW
  have ST5 : Hid (TwoB W0.heap.size g w W5 w2.heap.size w4.heap.size (.slice xa s.length xc) (.slice ya d.length yc) (.slice ua t.length uc) (.slice va f.length vc) s d t f) := by
    have z1 := A4.out
    refine ⟨RA4.out.keep BW5.out, RB4.out.keep BW5.out, ZA4.out.keep BW5.out, ZB5.out, (A4.out.keep BW5.out).mono (by omega) (Nat.le_refl _), (C4.out.keep BW5.out).mono (by omega) (by omega), hg0, by omega, by omega, ⟨hls, hld, hlt, hlf⟩, bTrans HB4.out BW5.out, HD5.out⟩
  have hsl := hls
  have LD : Hid (d.length ≤ 1048576) := by show _ ≤ _; omega
  clear ca0 ca1 A2 A4 C4 ZA ZA4 ZB5 RA1 RB1 RA4 RB4 HB1 HB4 HD1 HD2 HD3 HD4 HD5 BW3 BW5 B2 hls hld hlt hlf
  refine (arrOk_spec ST5.out.a.arrI LD.out).mono ?_
  rintro r w6 ⟨rfl, hb⟩
  have ST6 : Hid (TwoB W0.heap.size g w w6 w2.heap.size w4.heap.size (.slice xa s.length xc) (.slice ya d.length yc) (.slice ua t.length uc) (.slice va f.length vc) s d t f) := ST5.out.below hb
  clear hb ST5
  by_cases ho : arrOk s d = true
  · rw [ho]
    by_cases h0 : s.length = 0
    · have hl0 : ¬ (0 : Int) < (s.length : Int) := by omega
      have hlb : decide ((0 : Int) < (s.length : Int)) = false := by simpa using hl0
      clear h0 ho
      have r0 := ST6.out.ra.c0
      have r1 := ST6.out.ra.c1
      have r2 := ST6.out.rb.c0
      have r3 := ST6.out.rb.c1
      have q0 := ST6.out.za.c0
      have q1 := ST6.out.za.c1
      have q2 := ST6.out.zb.c0
      have q3 := ST6.out.zb.c1
      have f0 : w6.frozen? ⟨w.heap.size, 0, none⟩ = false := free_at ST6.out.ra 0
      have f1 : w6.frozen? ⟨w.heap.size, 1, none⟩ = false := free_at ST6.out.ra 1
      have f2 : w6.frozen? ⟨w.heap.size + 1, 0, none⟩ = false := free_at ST6.out.rb 0
      have f3 : w6.frozen? ⟨w.heap.size + 1, 1, none⟩ = false := free_at ST6.out.rb 1
      have FX : Hid (_ ∧ _ ∧ _ ∧ _ ∧ _) := two_end ST6.out.ra ST6.out.rb (ST6.out.a.mono (by have := ST6.out.hg; omega) (by have := ST6.out.za.lt; omega)) (ST6.out.c.mono (by have := ST6.out.hg; omega) (Nat.le_refl _)) ST6.out.bl
      go_wp2
      go_region
      all_goals go_wp2
      all_goals
        refine bodyPost_ret (results_arr2 rfl _ _ w.heap.size (w.heap.size + 1) _ _ _ _ rfl rfl FX.out.1 FX.out.2.1) rfl ?_
        exact ⟨_, _, _, _, _, _, rfl, FX.out.2.2.1, FX.out.2.2.2.1, ST6.out.len, FX.out.2.2.2.2.drew⟩
    · have hl0 : (0 : Int) < (s.length : Int) := by omega
      have z0 := ST6.out.za.c0
      have z1 := ST6.out.za.c1
      clear ho
      go_wp2_with fail
      refine (once_spec ST6.out.ok 3 (by decide) (by decide)).mono ?_
      rintro r w7 ⟨bo, rfl, hb, hd⟩
      have ST7 : Hid (TwoB W0.heap.size g w w7 w2.heap.size w4.heap.size (.slice xa s.length xc) (.slice ya d.length yc) (.slice ua t.length uc) (.slice va f.length vc) s d t f) := ST6.out.but hb hd
      clear hb hd ST6 z0 z1
      cases bo
      · obtain ⟨_, _, ev, jS, gS⟩ : ∃ a' c', (.slice xa s.length xc : Value) = .slice a' s.length c' ∧ Ints w7 a' s ∧ s.length ≤ c' := by
          obtain ⟨_, _, _, _, ev, i, _, g, _⟩ := ST7.out.a.arrI
          cases ev
          exact ⟨_, _, rfl, i, g⟩
        cases ev
        have IS : Hid (Ints w7 xa s) := jS
        obtain ⟨a6, c6, hra, _⟩ := ints_from (M := 1) jS gS (by omega)
        have HCUT : Hid (∀ W, Ints W xa s → Ints W a6 (s.drop 1)) := fun W hW => by
          obtain ⟨a9, c9, hr9, i9⟩ := ints_from (M := 1) hW gS (by omega)
          have q := (hra W).symm.trans (hr9 W)
          simp only [Result.ok.injEq, Value.slice.injEq] at q
          rw [q.1.1]
          exact i9
        simp only [show ((1 : Nat) : Int) = 1 from rfl] at hra
        have LTL : Hid ((s.drop 1).length ≤ 3) := by show _ ≤ _; simp; omega
        generalize hTL : s.drop 1 = tl at *
        clear jS gS hTL
        have z0 := ST7.out.za.c0
        have LZ : Hid (w2.heap.size < w7.heap.size) := ST7.out.za.lt
        go_wp2_with fail
        go_region_held3 (fun w' => w'.cell? ⟨w2.heap.size, 0, none⟩ = some (.slice xa s.length xc))
          (first | with_reducible exact n0 | with_reducible exact y1 | with_reducible exact y0 | exact z0)
          (first
            | (go_at_call 15; refine (below_small (B := W0.heap.size) (g := g) (ST7.out.ok.keep ((Below.refl W0.heap.size w7).drew) rfl) 4 (by decide) (by decide)).mono ?_; rintro r w8 ⟨z, zz0, zz4, rfl, hb, hd⟩; have HBT : Hid (But g w7 w8) := ((But.refl g w7).drewN 1).trans hb; have ST8 : Hid (TwoB W0.heap.size g w w8 w2.heap.size w4.heap.size (.slice xa s.length xc) (.slice ya d.length yc) (.slice ua t.length uc) (.slice va f.length vc) s d t f) := ST7.out.but HBT.out hd; have y0 := ST8.out.za.c0; have y1 : (w8.alloc (.cells #[.int .i64 z] 3)).cell? ⟨w2.heap.size, 0, none⟩ = some (.slice xa s.length xc) := (ST8.out.za.keep (bAlloc (Below.refl _ _) _)).c0; have IS8 : Hid (Ints w8 xa s) := (by obtain ⟨_, _, _, _, ev, i, _, g, _⟩ := ST8.out.a.arrI; cases ev; exact i); obtain ⟨a9, c9, w9, r9, n9, h9⟩ := growL (newInts_alloc w8 [z] (Nat.le_refl _) (by simp)) ((HCUT.out _ IS8.out).keep (bAlloc (Below.refl _ _) _)) (by simp) (by have := LTL.out; simp; omega) c6; have R9 : Hid (_ = _) := r9; have NS9 : Hid (NewInts w8.heap.size w9 (.slice a9 ([z] ++ tl).length c9) ([z] ++ tl)) := n9; have B9 : Hid (Below w8.heap.size w8 w9) := (bAlloc (Below.refl w8.heap.size w8) _).trans h9; have n0 := (ST8.out.za.keep B9.out).c0; clear hb hd r9 n9 h9)
            | refine step_append_ty (by rfl) (.tmp 29) (.tmp 32) 24 24 (by rfl) _ _ _ (by rfl) (by rfl) R9.out ?_)
        have ST9 : Hid (TwoB W0.heap.size g w w9 w2.heap.size w4.heap.size (.slice xa s.length xc) (.slice ya d.length yc) (.slice ua t.length uc) (.slice va f.length vc) s d t f) := ST8.out.below B9.out
        have LG : Hid (g < w8.heap.size) := ST8.out.ok.lt
        have LB : Hid (w4.heap.size < w8.heap.size) := ST8.out.zb.lt
        obtain ⟨SH, hSH⟩ : ∃ SH, SH = [z] ++ tl := ⟨_, rfl⟩
        have HSL : Hid (SH.length = tl.length + 1) := by show _ = _; rw [hSH]; simp
        rw [← hSH] at NS9
        have LSH : Hid (SH.length ≤ 4) := by have := HSL.out; have := LTL.out; show _ ≤ _; omega
        clear hSH z0 y0 y1 n0 hra R9
        obtain ⟨_, _, ev, i9⟩ := NS9.out.ints
        cases ev
        have I9 : Hid (Ints w9 a9 SH) := i9
        have HOKS : Hid (Calls Try.prog 16 #[.slice a9 (tl.length + 1) c9] w9 fun r w' => r = .returned (.bool (decide (0 ≤ sizeV SH))) ∧ w' = w9) := by
          have q := ok_spec c9 I9.out
          rw [HSL.out] at q
          exact q
        have HFL : Hid (Calls Try.prog 17 #[.pointer (some ⟨g, 0, none⟩), .slice a9 (tl.length + 1) c9] w9 fun e w' => ∃ x y d M, e = .returned (.agg #[x, y]) ∧ (w9.heap.size ≤ M ∧ M ≤ w'.heap.size) ∧ Piece w9.heap.size M w' x SH ∧ NewInts M w' y d ∧ (d.length : Int) ≤ 300 ∧ But g w9 w' ∧ DrawOk W0.heap.size g w') := by
          have q := fill_draw (B := W0.heap.size) (g := g) (s := SH) (v := .slice a9 SH.length c9) ST9.out.ok (NS9.out.piece.mono (by have := LG.out; omega) (Nat.le_refl _)) LSH.out
          rw [HSL.out] at q
          exact q
        clear i9 NS9
        go_wp2_with fail
        refine (HOKS.out).mono ?_
        rintro r w' ⟨rfl, hw⟩
        subst w'
        cases hk : decide (0 ≤ sizeV SH)
        · clear hk HOKS HFL
          have r0 := ST9.out.ra.c0
          have r1 := ST9.out.ra.c1
          have r2 := ST9.out.rb.c0
          have r3 := ST9.out.rb.c1
          have q0 := ST9.out.za.c0
          have q1 := ST9.out.za.c1
          have q2 := ST9.out.zb.c0
          have q3 := ST9.out.zb.c1
          have f0 : w9.frozen? ⟨w.heap.size, 0, none⟩ = false := free_at ST9.out.ra 0
          have f1 : w9.frozen? ⟨w.heap.size, 1, none⟩ = false := free_at ST9.out.ra 1
          have f2 : w9.frozen? ⟨w.heap.size + 1, 0, none⟩ = false := free_at ST9.out.rb 0
          have f3 : w9.frozen? ⟨w.heap.size + 1, 1, none⟩ = false := free_at ST9.out.rb 1
          have FX : Hid (_ ∧ _ ∧ _ ∧ _ ∧ _) := two_end ST9.out.ra ST9.out.rb (ST9.out.a.mono (by have := ST9.out.hg; omega) (by have := ST9.out.za.lt; omega)) (ST9.out.c.mono (by have := ST9.out.hg; omega) (Nat.le_refl _)) ST9.out.bl
          go_wp2
          go_region
          all_goals go_wp2
          all_goals
            refine bodyPost_ret (results_arr2 rfl _ _ w.heap.size (w.heap.size + 1) _ _ _ _ rfl rfl FX.out.1 FX.out.2.1) rfl ?_
            exact ⟨_, _, _, _, _, _, rfl, FX.out.2.2.1, FX.out.2.2.2.1, ST9.out.len, FX.out.2.2.2.2.drew⟩
        · clear hk HOKS
          go_wp2_with fail
          refine (HFL.out).mono ?_
          rintro r w10 ⟨x10, y10, f10, M, rfl, ⟨hM1, hM2⟩, hp, hn, hl3, hb, hd⟩
          obtain ⟨xa', xc', hx, _⟩ := hp.ints
          obtain ⟨ya', yc', hy, _⟩ := hn.ints
          subst hx hy
          have STA : Hid (TwoB W0.heap.size g w w10 w2.heap.size w4.heap.size (.slice xa s.length xc) (.slice ya d.length yc) (.slice ua t.length uc) (.slice va f.length vc) s d t f) := ST9.out.but hb hd
          have STB : Hid (TwoB W0.heap.size g w ((w10.setCell ⟨w4.heap.size, 0, none⟩ (.slice xa' SH.length xc')).setCell ⟨w4.heap.size, 1, none⟩ (.slice ya' f10.length yc')) w2.heap.size w4.heap.size (.slice xa s.length xc) (.slice ya d.length yc) (.slice xa' SH.length xc') (.slice ya' f10.length yc') s d SH f10) := by
            have l1 := LB.out
            have l2 := B9.out.size
            refine STA.out.putb ⟨_, _, rfl, hp.mono (by omega) hM2, hn.piece.mono (by omega) (Nat.le_refl _), hp.apart hn.piece (.inl (Nat.le_refl _))⟩ LSH.out (by omega)
          have b0 := STA.out.zb.c0
          have b1 := STA.out.zb.c1
          have g0 : w10.frozen? ⟨w4.heap.size, 0, none⟩ = false := free_at STA.out.zb 0
          have g1 : w10.frozen? ⟨w4.heap.size, 1, none⟩ = false := free_at STA.out.zb 1
          clear hp hn hb hd HFL
          go_wp2_with fail
          clear b0 b1 g0 g1 STA
          generalize (w10.setCell ⟨w4.heap.size, 0, none⟩ (.slice xa' SH.length xc')).setCell ⟨w4.heap.size, 1, none⟩ (.slice ya' f10.length yc') = WB at *
          have r0 := STB.out.ra.c0
          have r1 := STB.out.ra.c1
          have r2 := STB.out.rb.c0
          have r3 := STB.out.rb.c1
          have q0 := STB.out.za.c0
          have q1 := STB.out.za.c1
          have q2 := STB.out.zb.c0
          have q3 := STB.out.zb.c1
          have f0 : WB.frozen? ⟨w.heap.size, 0, none⟩ = false := free_at STB.out.ra 0
          have f1 : WB.frozen? ⟨w.heap.size, 1, none⟩ = false := free_at STB.out.ra 1
          have f2 : WB.frozen? ⟨w.heap.size + 1, 0, none⟩ = false := free_at STB.out.rb 0
          have f3 : WB.frozen? ⟨w.heap.size + 1, 1, none⟩ = false := free_at STB.out.rb 1
          have FX : Hid (_ ∧ _ ∧ _ ∧ _ ∧ _) := two_end STB.out.ra STB.out.rb (STB.out.a.mono (by have := STB.out.hg; omega) (by have := STB.out.za.lt; omega)) (STB.out.c.mono (by have := STB.out.hg; omega) (Nat.le_refl _)) STB.out.bl
          go_wp2
          go_region
          all_goals go_wp2
          all_goals
            refine bodyPost_ret (results_arr2 rfl _ _ w.heap.size (w.heap.size + 1) _ _ _ _ rfl rfl FX.out.1 FX.out.2.1) rfl ?_
            exact ⟨_, _, _, _, _, _, rfl, FX.out.2.2.1, FX.out.2.2.2.1, STB.out.len, FX.out.2.2.2.2.drew⟩
      · clear hl0 h0
        have r0 := ST7.out.ra.c0
        have r1 := ST7.out.ra.c1
        have r2 := ST7.out.rb.c0
        have r3 := ST7.out.rb.c1
        have q0 := ST7.out.za.c0
        have q1 := ST7.out.za.c1
        have q2 := ST7.out.zb.c0
        have q3 := ST7.out.zb.c1
        have f0 : w7.frozen? ⟨w.heap.size, 0, none⟩ = false := free_at ST7.out.ra 0
        have f1 : w7.frozen? ⟨w.heap.size, 1, none⟩ = false := free_at ST7.out.ra 1
        have f2 : w7.frozen? ⟨w.heap.size + 1, 0, none⟩ = false := free_at ST7.out.rb 0
        have f3 : w7.frozen? ⟨w.heap.size + 1, 1, none⟩ = false := free_at ST7.out.rb 1
        have FX : Hid (_ ∧ _ ∧ _ ∧ _ ∧ _) := two_end ST7.out.ra ST7.out.rb (ST7.out.a.mono (by have := ST7.out.hg; omega) (by have := ST7.out.za.lt; omega)) (ST7.out.c.mono (by have := ST7.out.hg; omega) (Nat.le_refl _)) ST7.out.bl
        go_wp2
        go_region
        all_goals go_wp2
        all_goals
          refine bodyPost_ret (results_arr2 rfl _ _ w.heap.size (w.heap.size + 1) _ _ _ _ rfl rfl FX.out.1 FX.out.2.1) rfl ?_
          exact ⟨_, _, _, _, _, _, rfl, FX.out.2.2.1, FX.out.2.2.2.1, ST7.out.len, FX.out.2.2.2.2.drew⟩
  · have ho' : arrOk s d = false := by simpa using ho
    rw [ho']
    clear ho ho'
    have r0 := ST6.out.ra.c0
    have r1 := ST6.out.ra.c1
    have r2 := ST6.out.rb.c0
    have r3 := ST6.out.rb.c1
    have q0 := ST6.out.za.c0
    have q1 := ST6.out.za.c1
    have q2 := ST6.out.zb.c0
    have q3 := ST6.out.zb.c1
    have f0 : w6.frozen? ⟨w.heap.size, 0, none⟩ = false := free_at ST6.out.ra 0
    have f1 : w6.frozen? ⟨w.heap.size, 1, none⟩ = false := free_at ST6.out.ra 1
    have f2 : w6.frozen? ⟨w.heap.size + 1, 0, none⟩ = false := free_at ST6.out.rb 0
    have f3 : w6.frozen? ⟨w.heap.size + 1, 1, none⟩ = false := free_at ST6.out.rb 1
    have FX : Hid (_ ∧ _ ∧ _ ∧ _ ∧ _) := two_end ST6.out.ra ST6.out.rb (ST6.out.a.mono (by have := ST6.out.hg; omega) (by have := ST6.out.za.lt; omega)) (ST6.out.c.mono (by have := ST6.out.hg; omega) (Nat.le_refl _)) ST6.out.bl
    go_wp2
    go_region
    all_goals go_wp2
    all_goals
      refine bodyPost_ret (results_arr2 rfl _ _ w.heap.size (w.heap.size + 1) _ _ _ _ rfl rfl FX.out.1 FX.out.2.1) rfl ?_
      exact ⟨_, _, _, _, _, _, rfl, FX.out.2.2.1, FX.out.2.2.2.1, ST6.out.len, FX.out.2.2.2.2.drew⟩
end Go.Proofs.Ytdobohobhpailaa
