/-
  Walks: the specification's DrawEachOne.
-/
import Derived.Test.YtommbklaljdcmacDrawFill3
import Derived.Test.YtommbklaljdcmacEachP
namespace Go.Proofs.Ytommbklaljdcmac
open Go.RowKit
set_option linter.unusedVariables false
set_option linter.unusedSimpArgs false
/-- A result in a slot, and an array in a cell behind it. -/
theorem results_tmp_arr {fn : Func} {t : Tmp} {p : Tmp} (h : fn.results = #[.tmp t, .cell p 26]) (tmps : Array Value) (w : World) (g : Nat) (x y : Value) (hp : tmps.getD p undef = .pointer (some ⟨g, 0, none⟩))
    (hg : w.heap[g]? = some (.cells #[x, y] 26 (0, 0))) : (results fn tmps).run Try.prog w = .ok (.tuple #[tmps.getD t undef, .agg #[x, y]]) w := by
  have e : (asAddr (.pointer (some ⟨g, 0, none⟩))).run Try.prog w = .ok ⟨g, 0, none⟩ w := by simp [asAddr]
  have l := arr_loaded hg
  have hp' : tmps[p]?.getD undef = .pointer (some ⟨g, 0, none⟩) := by simpa using hp
  simp [results, h, hp', e, l, Sem.run_bind, Result.andThen]
set_option maxRecDepth 20000 in
set_option maxHeartbeats 4000000 in
/-- DrawEachOne. -/
theorem drawEachOne_spec {w : World} {a : Option Addr} {len cap : Nat} (hs : Src w.heap.size w a len) (hb20 : len ≤ 1048576) :
    Calls Try.prog 13 #[.slice a len cap] w fun e w' => ∃ x v s d, e = .returned (.tuple #[.int .i64 x, v]) ∧ Arr w.heap.size w'.heap.size w' v s d ∧ s.length ≤ 4 ∧ d.length ≤ 301 ∧ Below w.heap.size w w' := by
  have HS : Hid (Src (w.alloc (.cells #[.slice none 0 0, .slice none 0 0] 26)).heap.size (w.alloc (.cells #[.slice none 0 0, .slice none 0 0] 26)) a len) := srcKeep hs (bAlloc (Below.refl _ _) _)
  have HR0 : Hid (Box (w.alloc (.cells #[.slice none 0 0, .slice none 0 0] 26)) w.heap.size (.slice none 0 0) (.slice none 0 0) 26) := box_new w _ _ _
  have HB0 : Hid (Below w.heap.size w (w.alloc (.cells #[.slice none 0 0, .slice none 0 0] 26))) := bAlloc (Below.refl _ _) _
  clear hs
  go_enter Try.func13, Try.ntmps13
  go_wp2_with fail
  refine (new_spec HS.out hb20).mono ?_
  rintro e w1 ⟨g, rfl, hb, hd⟩
  have HB1 : Hid (Below w.heap.size w w1) := HB0.out.trans (hb.mono (by simp))
  have R1 : Hid (Box w1 w.heap.size (.slice none 0 0) (.slice none 0 0) 26) := by
    have := HR0.out; unfold Box at this; show w1.heap[_]? = _; rw [hb.block w.heap.size (by simp)]; exact this
  obtain ⟨BB, hBB⟩ : ∃ x, x = (w.alloc (.cells #[.slice none 0 0, .slice none 0 0] 26)).heap.size := ⟨_, rfl⟩
  have HD1 : Hid (DrawOk BB g w1) := by rw [hBB]; exact hd
  have hg0 : w.heap.size < g := by have := hd.1; simp at this; omega
  have hg1 := hd.lt
  clear hb hd hBB
  go_wp2_with fail
  refine (sign_spec HD1.out).mono ?_
  rintro e w2 ⟨x, rfl, hb, hd⟩
  have HB2 : Hid (But g w1 w2) := hb
  have HD2 : Hid (DrawOk BB g w2) := hd
  have S2 : Hid (w1.heap.size ≤ w2.heap.size) := hb.size
  clear hb hd
  go_wp2_with fail
  refine (draw_draw HD2.out).mono ?_
  rintro e w3 ⟨v, s, d, rfl, hA, hls, hld, hb, hd⟩
  obtain ⟨px, py, rfl, pp, pq, ap⟩ := hA
  obtain ⟨xa, xc, hx, _⟩ := pp.ints
  obtain ⟨ya, yc, hy, _⟩ := pq.ints
  subst hx hy
  have HB3 : Hid (But g w1 w3) := HB2.out.trans hb
  have HD3 : Hid (DrawOk BB g w3) := hd
  have PP : Hid (Piece w2.heap.size w3.heap.size w3 (.slice xa s.length xc) s) := pp
  have PQ : Hid (Piece w2.heap.size w3.heap.size w3 (.slice ya d.length yc) d) := pq
  have AP : Hid (Apart (.slice xa s.length xc) (.slice ya d.length yc)) := ap
  have S3 : Hid (w2.heap.size ≤ w3.heap.size) := hb.size
  clear hb hd pp pq ap
  have FIN : Hid (∀ (W : World) (m : List Int), m.length = d.length → Piece w2.heap.size w3.heap.size W (.slice ya d.length yc) m → Piece w2.heap.size w3.heap.size W (.slice xa s.length xc) s → Below w.heap.size w W → Box W w.heap.size (.slice none 0 0) (.slice none 0 0) 26 → w3.heap.size ≤ W.heap.size →
      Arr w.heap.size ((W.setCell ⟨w.heap.size, 0, none⟩ (.slice xa s.length xc)).setCell ⟨w.heap.size, 1, none⟩ (.slice ya d.length yc)).heap.size ((W.setCell ⟨w.heap.size, 0, none⟩ (.slice xa s.length xc)).setCell ⟨w.heap.size, 1, none⟩ (.slice ya d.length yc)) (.agg #[.slice xa s.length xc, .slice ya d.length yc]) s m ∧ s.length ≤ 4 ∧ m.length ≤ 301 ∧ Below w.heap.size w ((W.setCell ⟨w.heap.size, 0, none⟩ (.slice xa s.length xc)).setCell ⟨w.heap.size, 1, none⟩ (.slice ya d.length yc))) := by
    intro W m hm p1 p2 hbl hbx hsz
    have L : w.heap.size < w2.heap.size := by have := S2.out; omega
    have A : Arr w2.heap.size w3.heap.size W (.agg #[.slice xa s.length xc, .slice ya d.length yc]) s m := ⟨_, _, rfl, p2, p1, AP.out⟩
    exact ⟨((A.setCell L _ _).setCell L _ _).mono (by omega) (by simp only [size_setCell]; omega), hls, by omega, below_setCell (below_setCell hbl (Nat.le_refl _) _ _) (Nat.le_refl _) _ _⟩
  -- BEHIND THE DRAWS
  have SS3 := S3.out
  have SS2 := S2.out
  have R3 : Hid (Box w3 w.heap.size (.slice none 0 0) (.slice none 0 0) 26) := boxBut R1.out HB3.out (by omega)
  have B3 : Hid (Below w.heap.size w w3) := HB1.out.trans (HB3.out.below (by omega) HB1.out.size)
  by_cases hx : x = 126
  · subst hx
    go_wp2_with fail
    generalize hW : w3.alloc (.cells #[.slice xa s.length xc, .slice ya d.length yc] 26) = W4
    have Z4 : Hid (Box W4 w3.heap.size (.slice xa s.length xc) (.slice ya d.length yc) 26) := by rw [← hW]; exact box_new w3 _ _ _
    have BW : Hid (Below w3.heap.size w3 W4) := by rw [← hW]; exact bAlloc (Below.refl _ _) _
    have HD4 : Hid (DrawOk BB g W4) := by rw [← hW]; exact HD3.out.alloc _
    have S4 : Hid (w3.heap.size < W4.heap.size) := Z4.out.lt
    clear hW
    refine (once_spec HD4.out 2 (by decide) (by decide)).mono ?_
    rintro e w5 ⟨b, rfl, hb, hd⟩
    have HB5 : Hid (But g W4 w5) := hb
    have HD5 : Hid (DrawOk BB g w5) := hd
    have hgw : g < w2.heap.size := by omega
    have R5 : Hid (Box w5 w.heap.size (.slice none 0 0) (.slice none 0 0) 26) := boxBut (R3.out.keep BW.out) hb (by omega)
    have Z5 : Hid (Box w5 w3.heap.size (.slice xa s.length xc) (.slice ya d.length yc) 26) := boxBut Z4.out hb (by omega)
    have P5 : Hid (Piece w2.heap.size w3.heap.size w5 (.slice xa s.length xc) s) := (PP.out.keep BW.out).but hb (.inl hgw)
    have Q5 : Hid (Piece w2.heap.size w3.heap.size w5 (.slice ya d.length yc) d) := (PQ.out.keep BW.out).but hb (.inl hgw)
    have B5 : Hid (Below w.heap.size w w5) := (bTrans B3.out BW.out).trans (hb.below (by omega) (by have := S4.out; omega))
    have S5 : Hid (w3.heap.size ≤ w5.heap.size) := by have := hb.size; have := S4.out; show _ ≤ _; omega
    clear hb hd
    cases b
    · -- not once
      have r0 := (R5.out).c0
      have r1 := (R5.out).c1
      have q0 := (Z5.out).c0
      have q1 := (Z5.out).c1
      have f0 : w5.frozen? ⟨w.heap.size, 0, none⟩ = false := free_at (R5.out) 0
      have f1 : w5.frozen? ⟨w.heap.size, 1, none⟩ = false := free_at (R5.out) 1
      have HR : Hid (((w5.setCell ⟨w.heap.size, 0, none⟩ (.slice xa s.length xc)).setCell ⟨w.heap.size, 1, none⟩ (.slice ya d.length yc)).heap[w.heap.size]? = some (.cells #[.slice xa s.length xc, .slice ya d.length yc] 26 (0, 0))) := arr_stored (R5.out)
      have FE : Hid (_ ∧ _ ∧ _ ∧ _) := FIN.out w5 d (rfl) (Q5.out) (P5.out) (B5.out) (R5.out) (S5.out)
      go_wp2
      go_region
      go_wp2
      refine bodyPost_ret (results_tmp_arr rfl _ _ w.heap.size _ _ rfl HR.out) rfl ?_
      exact ⟨_, _, s, _, rfl, FE.out.1, FE.out.2.1, FE.out.2.2.1, FE.out.2.2.2.drew⟩
    · have z0 := Z5.out.c0
      have z1 := Z5.out.c1
      go_wp2
      go_loopw [7] (fun i w' => ∃ (k : Nat) (m : List Int), k ≤ d.length ∧ i = .int .i64 (k : Int) ∧ m.length = d.length ∧ Piece w2.heap.size w3.heap.size w' (.slice ya d.length yc) m ∧ Piece w2.heap.size w3.heap.size w' (.slice xa s.length xc) s ∧ Box w' w3.heap.size (.slice xa s.length xc) (.slice ya d.length yc) 26 ∧ Box w' w.heap.size (.slice none 0 0) (.slice none 0 0) 26 ∧ Below w.heap.size w w' ∧ w3.heap.size ≤ w'.heap.size ∧ DrawOk BB g w') (fun i _ => d.length - (intOf i).toNat)
      case atStart => exact ⟨0, d, by omega, rfl, rfl, Q5.out, P5.out, Z5.out, R5.out, B5.out, S5.out, HD5.out⟩
      case round =>
        obtain ⟨k, m, hk, rfl, hm, hq, hp, hz, hr, hbl, hsz, hdk⟩ := hrel
        have HM : Hid (m.length = d.length) := hm
        have HQ : Hid (Piece w2.heap.size w3.heap.size wr (.slice ya d.length yc) m) := hq
        have HP : Hid (Piece w2.heap.size w3.heap.size wr (.slice xa s.length xc) s) := hp
        have HZ : Hid (Box wr w3.heap.size (.slice xa s.length xc) (.slice ya d.length yc) 26) := hz
        have HRR : Hid (Box wr w.heap.size (.slice none 0 0) (.slice none 0 0) 26) := hr
        have HBL : Hid (Below w.heap.size w wr) := hbl
        have HSZ : Hid (w3.heap.size ≤ wr.heap.size) := hsz
        have HDK : Hid (DrawOk BB g wr) := hdk
        clear hm hq hp hz hr hbl hsz hdk z0 z1
        have z0 := HZ.out.c0
        have z1 := HZ.out.c1
        by_cases hlt : (k : Int) < (d.length : Int)
        · have L : k < d.length := by omega
          have LM : k < m.length := by have := HM.out; omega
          obtain ⟨k2, o2, rfl⟩ := HQ.out.some (by omega)
          obtain ⟨t1, t2, t3, t4, t5⟩ := HQ.out.cellAt LM
          have HDr : Hid (DrawOk BB g wr.drew) := HDK.out.keep ((Below.refl BB wr).drew) rfl
          have T34 : Hid (w2.heap.size ≤ k2 ∧ k2 < w3.heap.size) := ⟨t3, t4⟩
          clear LM
          go_wp2_with fail
          go_region_held3 (fun w' => w'.cell? ⟨w3.heap.size, 1, none⟩ = some (.slice (some ⟨k2, o2, none⟩) d.length yc))
            (first | exact v1 | exact z1 | exact vs _)
            (first
              | (go_at_call 39; refine (below_small HDr.out 2 (by decide) (by decide)).mono ?_; rintro r w6 ⟨y, _, _, rfl, hb6, hd6⟩; have B6 : Hid (But g wr w6) := But.trans ((But.refl g wr).drewN 1) hb6; have D6 : Hid (DrawOk BB g w6) := hd6; have Z6 : Hid (Box w6 w3.heap.size (.slice xa s.length xc) (.slice (some ⟨k2, o2, none⟩) d.length yc) 26) := boxBut HZ.out B6.out (by omega); have v1 := Z6.out.c1; have Q6 : Hid (Piece w2.heap.size w3.heap.size w6 (.slice (some ⟨k2, o2, none⟩) d.length yc) m) := HQ.out.but B6.out (.inl hgw); have c6 := (Q6.out.cellAt (k := k) (by have := HM.out; omega)).1; have fr6 := (Q6.out.cellAt (k := k) (by have := HM.out; omega)).2.1; have vs := (fun u => (Z6.out.win (win_setCell w6 k2 (o2 + k) u) (.inr (Nat.succ_le_of_lt T34.out.2))).c1); clear hb6 hd6))
          all_goals
            have SW : Hid (Win k2 (k2 + 1) w6 (w6.setCell ⟨k2, o2 + k, none⟩ (.int .i64 y))) := win_setCell w6 k2 (o2 + k) _
            go_wp2
            go_roundw
            case rel =>
              have hT := T34.out
              have hS := HSZ.out
              have h6 := B6.out.size
              refine ⟨k + 1, m.set k y, by omega, by go_num, by rw [List.length_set]; exact HM.out, ?_, ?_, ?_, ?_, ?_, ?_, ?_⟩
              · have q := Q6.out
                rw [← HM.out] at q
                have := q.set (k := k) (by have := HM.out; omega) y
                rw [HM.out] at this
                exact this
              · exact (HP.out.but B6.out (.inl hgw)).only (only_setCell w6 k2 o2 d.length yc k _ L) AP.out.symm
              · exact Z6.out.win SW.out (.inr (by omega))
              · exact (boxBut HRR.out B6.out (by omega)).win SW.out (.inl (by omega))
              · exact below_setCell (HBL.out.trans (B6.out.below (by omega) HBL.out.size)) (by omega) _ _
              · rw [size_setCell]; omega
              · exact D6.out.but ((But.refl k2 w6).setCell _ _) (by omega)
            case measure => simp [intOf]; omega
        · -- behind the loop
          have r0 := (HRR.out).c0
          have r1 := (HRR.out).c1
          have q0 := (HZ.out).c0
          have q1 := (HZ.out).c1
          have f0 : wr.frozen? ⟨w.heap.size, 0, none⟩ = false := free_at (HRR.out) 0
          have f1 : wr.frozen? ⟨w.heap.size, 1, none⟩ = false := free_at (HRR.out) 1
          have HR : Hid (((wr.setCell ⟨w.heap.size, 0, none⟩ (.slice xa s.length xc)).setCell ⟨w.heap.size, 1, none⟩ (.slice ya d.length yc)).heap[w.heap.size]? = some (.cells #[.slice xa s.length xc, .slice ya d.length yc] 26 (0, 0))) := arr_stored (HRR.out)
          have FE : Hid (_ ∧ _ ∧ _ ∧ _) := FIN.out wr m (HM.out) (HQ.out) (HP.out) (HBL.out) (HRR.out) (HSZ.out)
          go_wp2
          go_region
          go_wp2
          refine bodyPost_ret (results_tmp_arr rfl _ _ w.heap.size _ _ rfl HR.out) rfl ?_
          exact ⟨_, _, s, _, rfl, FE.out.1, FE.out.2.1, FE.out.2.2.1, FE.out.2.2.2.drew⟩
  · have hx' : (x == 126) = false := by simpa using hx
    have HW : Hid (∀ O : Obj, Below w3.heap.size w3 (w3.alloc O)) := fun O => bAlloc (Below.refl _ _) O
    go_wp2_with fail
    generalize hW : w3.alloc (.cells #[.slice xa s.length xc, .slice ya d.length yc] 26) = W4
    have Z4 : Hid (Box W4 w3.heap.size (.slice xa s.length xc) (.slice ya d.length yc) 26) := by rw [← hW]; exact box_new w3 _ _ _
    have BW : Hid (Below w3.heap.size w3 W4) := by rw [← hW]; exact bAlloc (Below.refl _ _) _
    clear hW
    have hgw : g < w2.heap.size := by omega
    have r0 := (R3.out.keep BW.out).c0
    have r1 := (R3.out.keep BW.out).c1
    have q0 := (Z4.out).c0
    have q1 := (Z4.out).c1
    have f0 : W4.frozen? ⟨w.heap.size, 0, none⟩ = false := free_at (R3.out.keep BW.out) 0
    have f1 : W4.frozen? ⟨w.heap.size, 1, none⟩ = false := free_at (R3.out.keep BW.out) 1
    have HR : Hid (((W4.setCell ⟨w.heap.size, 0, none⟩ (.slice xa s.length xc)).setCell ⟨w.heap.size, 1, none⟩ (.slice ya d.length yc)).heap[w.heap.size]? = some (.cells #[.slice xa s.length xc, .slice ya d.length yc] 26 (0, 0))) := arr_stored (R3.out.keep BW.out)
    have FE : Hid (_ ∧ _ ∧ _ ∧ _) := FIN.out W4 d (rfl) (PQ.out.keep BW.out) (PP.out.keep BW.out) (bTrans B3.out BW.out) (R3.out.keep BW.out) (BW.out.size)
    go_wp2
    go_region
    go_wp2
    refine bodyPost_ret (results_tmp_arr rfl _ _ w.heap.size _ _ rfl HR.out) rfl ?_
    exact ⟨_, _, s, _, rfl, FE.out.1, FE.out.2.1, FE.out.2.2.1, FE.out.2.2.2.drew⟩
end Go.Proofs.Ytommbklaljdcmac
