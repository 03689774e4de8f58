/-
  Walks: the specification's Within.
-/
import Derived.Test.YthjjjnapcbkhjaaRowsMM
import Derived.Test.YthjjjnapcbkhjaaSpecCopyM
import Derived.Test.YthjjjnapcbkhjaaSpecArrM
import Derived.Test.YthjjjnapcbkhjaaSpecEach1M
import Derived.Test.YthjjjnapcbkhjaaSpecMake2M
import Derived.Test.YthjjjnapcbkhjaaSmallM
namespace Go.Proofs.Ythjjjnapcbkhjaa
open Go.RowKit
set_option linter.unusedVariables false
set_option linter.unusedSimpArgs false
set_option maxRecDepth 20000 in
set_option maxHeartbeats 4000000 in
/-- Within. -/
theorem within_spec {s d t e : List Int} {w : World} {v u : Value} (h : ArrI w v s d) (k : ArrI w u t e) (hs : s.length ≤ 1048576) (hd : d.length ≤ 1048576) (he : e.length ≤ 1048576) :
    Calls Try.prog 33 #[v, u] w fun r w' => ∃ v', r = .returned (.tuple #[v', .int .i64 (withinR s d t e).1]) ∧ Arr w.heap.size w'.heap.size w' v' (withinR s d t e).2.1 (withinR s d t e).2.2 ∧ Below w.heap.size w w' := by
  have H : Hid (ArrI w v s d) := h
  have K : Hid (ArrI w u t e) := k
  obtain ⟨a, c, b, f, rfl, h1, h2, _, _⟩ := h
  obtain ⟨a', c', b', f', rfl, k1, k2, _, _⟩ := k
  have H2 : Hid (Ints w b d) := h2
  have K2 : Hid (Ints w b' e) := k2
  have HD : Hid (d.length ≤ 1048576) := hd
  have HE : Hid (e.length ≤ 1048576) := he
  have HS : Hid (s.length ≤ 1048576) := hs
  clear h1 h2 k1 k2
  by_cases ho : arrOk s d = true
  · have HO : Hid (arrOk s d = true) := ho
    by_cases ho' : arrOk t e = true
    · have HO' : Hid (arrOk t e = true) := ho'
      have ER : withinR s d t e = (0, s, (List.range d.length).map (fun i => if placeIn e (d.getD i 0) < e.length then 1 else 0)) := by unfold withinR withinC; rw [if_pos ⟨ho, ho'⟩]; rfl
      rw [ER]
      clear ER ho ho'
      obtain ⟨φ, hφ⟩ : ∃ φ : Nat → Int, φ = fun (i : Nat) => (if placeIn e (d.getD i 0) < e.length then (1 : Int) else 0) := ⟨_, rfl⟩
      rw [← hφ]
      have HPH : Hid (∀ k, φ k = (fun (i : Nat) => (if placeIn e (d.getD i 0) < e.length then (1 : Int) else 0)) k) := fun k => by rw [hφ]
      clear hφ
      go_enter Try.func33, Try.ntmps33
      go_wp2_with fail
      refine (arrOk_spec (H.out.keep (bAlloc (bAlloc (bAlloc (Below.refl _ _) _) _) _)) HD.out).mono ?_
      rintro r w1 ⟨rfl, hb⟩
      have HB1 : Hid (Below w.heap.size w w1) := bTrans (bAlloc (bAlloc (bAlloc (Below.refl _ _) _) _) _) hb
      have q1 := blocks3 w (.cells #[.slice a s.length c, .slice b d.length f] 26) (.cells #[.slice a' t.length c', .slice b' e.length f'] 26) (.cells #[.slice none 0 0, .slice none 0 0] 26)
      have X1 : Hid (Box w1 w.heap.size (.slice a s.length c) (.slice b d.length f) 26) := Box.keep q1.1 hb
      have Y1 : Hid (Box w1 (w.heap.size + 1) (.slice a' t.length c') (.slice b' e.length f') 26) := Box.keep q1.2.1 hb
      have R1 : Hid (Box w1 (w.heap.size + 1 + 1) (.slice none 0 0) (.slice none 0 0) 26) := Box.keep q1.2.2 hb
      clear hb q1
      rw [HO.out]
      have x0 := X1.out.c0
      have x1 := X1.out.c1
      have y0 := Y1.out.c0
      have y1 := Y1.out.c1
      go_wp2_with fail
      refine (arrOk_spec (K.out.keep HB1.out) HE.out).mono ?_
      rintro r w2 ⟨rfl, hb⟩
      have HB2 : Hid (Below w.heap.size w w2) := bTrans HB1.out hb
      have X2 : Hid (Box w2 w.heap.size (.slice a s.length c) (.slice b d.length f) 26) := X1.out.keep hb
      have Y2 : Hid (Box w2 (w.heap.size + 1) (.slice a' t.length c') (.slice b' e.length f') 26) := Y1.out.keep hb
      have R2 : Hid (Box w2 (w.heap.size + 1 + 1) (.slice none 0 0) (.slice none 0 0) 26) := R1.out.keep hb
      rw [HO'.out]
      clear hb x0 x1 y0 y1 X1 Y1 R1 HB1
      have HPL : Hid (∀ (W : World) (x : Int), Below w.heap.size w W → Calls Try.prog 68 #[.slice b' e.length f', .int .i64 x] W fun r w' => r = .returned (.int .i64 ((placeIn e x : Nat) : Int)) ∧ w' = W) := fun W x hb => place6_spec x f' (K2.out.keep hb) HE.out
      have x0 := X2.out.c0
      have x1 := X2.out.c1
      have y0 := Y2.out.c0
      have y1 := Y2.out.c1
      go_wp2_with fail
      refine (copy_spec (H.out.keep HB2.out) HS.out HD.out).mono ?_
      rintro r w3 ⟨v', rfl, ha, hb⟩
      obtain ⟨p, q, rfl, pp, pq, hap⟩ := ha
      obtain ⟨ca, cc, rfl, _⟩ := pp.ints
      obtain ⟨cb, ce, rfl, _⟩ := pq.ints
      have PP : Hid (Piece w2.heap.size w3.heap.size w3 (.slice ca s.length cc) s) := pp
      have PQ : Hid (Piece w2.heap.size w3.heap.size w3 (.slice cb d.length ce) d) := pq
      have AP : Hid (Apart (.slice ca s.length cc) (.slice cb d.length ce)) := hap
      have HB3 : Hid (Below w.heap.size w w3) := bTrans HB2.out hb
      have X3 : Hid (Box w3 w.heap.size (.slice a s.length c) (.slice b d.length f) 26) := X2.out.keep hb
      have Y3 : Hid (Box w3 (w.heap.size + 1) (.slice a' t.length c') (.slice b' e.length f') 26) := Y2.out.keep hb
      have R3 : Hid (Box w3 (w.heap.size + 1 + 1) (.slice none 0 0) (.slice none 0 0) 26) := R2.out.keep hb
      have S2 : Hid (w.heap.size + 1 + 1 < w2.heap.size) := R2.out.lt
      have S3 : Hid (w2.heap.size ≤ w3.heap.size) := hb.size
      clear pp pq hap hb x0 x1 y0 y1 X2 Y2 R2
      go_wp2
      generalize hW : w3.alloc (.cells #[.slice ca s.length cc, .slice cb d.length ce] 26) = W4
      have Z4 : Hid (Box W4 w3.heap.size (.slice ca s.length cc) (.slice cb d.length ce) 26) := by rw [← hW]; exact box_new w3 _ _ _
      have B4 : Hid (Below w3.heap.size w3 W4) := by rw [← hW]; exact bAlloc (Below.refl _ _) _
      clear hW
      go_loopw [7] (fun i w' => ∃ k : Nat, k ≤ d.length ∧ i = .int .i64 (k : Int) ∧ Piece w2.heap.size w3.heap.size w' (.slice cb d.length ce) (setTo φ d k) ∧ Piece w2.heap.size w3.heap.size w' (.slice ca s.length cc) s ∧ Win w2.heap.size w3.heap.size W4 w') (fun i _ => d.length - (intOf i).toNat)
      case atStart => exact ⟨0, by omega, rfl, by rw [setTo_zero]; exact PQ.out.keep B4.out, PP.out.keep B4.out, Win.refl _ _ _⟩
      case round =>
        obtain ⟨k, hk, rfl, hq, hp, hw⟩ := hrel
        have HQ : Hid (Piece w2.heap.size w3.heap.size wr (.slice cb d.length ce) (setTo φ d k)) := hq
        have HP : Hid (Piece w2.heap.size w3.heap.size wr (.slice ca s.length cc) s) := hp
        have HW : Hid (Win w2.heap.size w3.heap.size W4 wr) := hw
        have L2 := S2.out
        have X : Hid (Box wr w.heap.size (.slice a s.length c) (.slice b d.length f) 26) := (X3.out.keep B4.out).win hw (.inl (by omega))
        have Y : Hid (Box wr (w.heap.size + 1) (.slice a' t.length c') (.slice b' e.length f') 26) := (Y3.out.keep B4.out).win hw (.inl (by omega))
        have R : Hid (Box wr (w.heap.size + 1 + 1) (.slice none 0 0) (.slice none 0 0) 26) := (R3.out.keep B4.out).win hw (.inl (by omega))
        have Z : Hid (Box wr w3.heap.size (.slice ca s.length cc) (.slice cb d.length ce) 26) := Z4.out.win hw (.inr (Nat.le_refl _))
        have HBr : Hid (Below w.heap.size w wr) := by
          have q := bTrans HB3.out B4.out
          exact q.trans ⟨hw.os, hw.tape, hw.output, hw.size, fun i hi => hw.block i (Nat.lt_of_lt_of_le hi q.size) (.inl (by omega))⟩
        clear hq hp hw
        have x0 := X.out.c0
        have x1 := X.out.c1
        have y0 := Y.out.c0
        have y1 := Y.out.c1
        have z0 := Z.out.c0
        have z1 := Z.out.c1
        by_cases hlt : (k : Int) < (d.length : Int)
        · have L : k < d.length := by omega
          obtain ⟨b1, o1, rfl, hb1, e1⟩ := H2.out.at L
          have d1 : wr.cell? ⟨b1, o1 + k, none⟩ = some (.int .i64 (d.getD k 0)) := (HBr.out.cell (p := ⟨b1, o1 + k, none⟩) hb1).trans e1
          obtain ⟨g2, o2, rfl⟩ := HQ.out.some (by rw [setTo_length]; omega)
          obtain ⟨t1, t2, t3, t4, t5⟩ := HQ.out.cellAt (k := k) (by rw [setTo_length]; exact L)
          have E3 : Hid ((setTo φ d k).set k (φ k) = setTo φ d (k + 1)) := setTo_set _ d L
          have LK : Hid (k < (setTo φ d k).length) := by show _ < _; rw [setTo_length]; exact L
          have LE : Hid ((setTo φ d k).length = d.length) := setTo_length _ _ _
          have hf := HPH.out k
          have HC : Hid (Calls Try.prog 68 #[.slice b' e.length f', .int .i64 (d.getD k 0)] wr.drew fun r w' => r = .returned (.int .i64 ((placeIn e (d.getD k 0) : Nat) : Int)) ∧ w' = wr.drew) := HPL.out wr.drew (d.getD k 0) HBr.out.drew
          have HBIT : Hid (∀ W (b0 : Bool), Calls Try.prog 82 #[.bool b0] W fun r w' => r = .returned (.int .i64 (if b0 = true then 1 else 0)) ∧ w' = W) := fun W b0 => by cases b0 <;> exact bit_spec _ W
          have HBV : Hid ((if decide (placeIn e (d.getD k 0) < e.length) = true then (1 : Int) else 0) = φ k) := by
            show _ = _
            rw [hf]
            by_cases q : placeIn e (d.getD k 0) < e.length
            · simp [q]
            · simp [q]
          generalize placeIn e (d.getD k 0) = PP0 at *
          generalize φ k = Y0 at *
          clear hf
          have HB1L : Hid (b1 < w.heap.size) := hb1
          clear e1 hb1
          generalize d.getD k 0 = uu at *
          generalize (setTo φ d k).getD k 0 = u2 at *
          go_wp2_with fail
          have j1 := ((Y.out.win (win_setCell _ g2 (o2 + k) (.int .i64 Y0)) (.inl (by omega))).keep ((Below.refl _ _).drew)).c1
          have j2 := ((X.out.win (win_setCell _ g2 (o2 + k) (.int .i64 Y0)) (.inl (by omega))).keep ((Below.refl _ _).drew)).c1
          have j3 := ((Z.out.win (win_setCell _ g2 (o2 + k) (.int .i64 Y0)) (.inr (by omega))).keep ((Below.refl _ _).drew)).c1
          have j4 : (wr.setCell ⟨g2, o2 + k, none⟩ (.int .i64 Y0)).drew.cell? ⟨b1, o1 + k, none⟩ = some (.int .i64 uu) := (Below.cell (B := w.heap.size) (below_setCell (B := w.heap.size) (Below.refl w.heap.size wr) (by omega) _ _).drew (p := ⟨b1, o1 + k, none⟩) HB1L.out).trans d1
          have HBIT2 : Hid (Calls Try.prog 82 #[.bool (decide (PP0 < e.length))] wr.drew fun r w' => r = .returned (.int .i64 Y0) ∧ w' = wr.drew) := by
            have q := HBIT.out wr.drew (decide (PP0 < e.length))
            rw [HBV.out] at q
            exact q
          go_region_held3 (fun w' => w'.cell? ⟨w.heap.size + 1, 1, none⟩ = some (.slice b' e.length f') ∧ w'.cell? ⟨w.heap.size, 1, none⟩ = some (.slice (some ⟨b1, o1, none⟩) d.length f) ∧ w'.cell? ⟨w3.heap.size, 1, none⟩ = some (.slice (some ⟨g2, o2, none⟩) d.length ce) ∧ w'.cell? ⟨b1, o1 + k, none⟩ = some (.int .i64 uu))
            (first | exact ⟨y1, x1, z1, d1⟩ | with_reducible exact ⟨j1, j2, j3, j4⟩)
            (first
              | (go_at_call 68; refine (HC.out).mono ?_; rintro r w' ⟨rfl, hw⟩; subst w')
              | (go_at_call 82; refine (HBIT2.out).mono ?_; rintro r w' ⟨rfl, hw⟩; subst w'))
          go_wp2
          go_roundw
          case rel =>
            refine ⟨k + 1, by omega, by go_num, ?_, (HP.out.only (only_setCell wr g2 o2 d.length ce k _ L) AP.out.symm).keep ((Below.refl _ _).drew), ?_⟩
            · have q := HQ.out
              rw [← LE.out] at q
              have := q.set LK.out Y0
              rw [E3.out, LE.out] at this
              exact this.keep ((Below.refl _ _).drew)
            · have hwd := HW.out.setCell t3 t4 (o2 + k) (.int .i64 Y0)
              exact ⟨hwd.os, hwd.tape, hwd.output, hwd.size, hwd.block⟩
          case measure => simp [intOf]; omega
        · obtain rfl : k = d.length := by omega
          have HR : Hid (((wr.setCell ⟨w.heap.size + 1 + 1, 0, none⟩ (.slice ca s.length cc)).setCell ⟨w.heap.size + 1 + 1, 1, none⟩ (.slice cb d.length ce)).heap[w.heap.size + 1 + 1]? = some (.cells #[.slice ca s.length cc, .slice cb d.length ce] 26 (0, 0))) := arr_stored R.out
          have r0 := R.out.c0
          have r1 := R.out.c1
          have f0 : wr.frozen? ⟨w.heap.size + 1 + 1, 0, none⟩ = false := free_at R.out 0
          have f1 : wr.frozen? ⟨w.heap.size + 1 + 1, 1, none⟩ = false := free_at R.out 1
          have ED : Hid (setTo φ d d.length = (List.range d.length).map φ) := setTo_all _ _ rfl
          go_wp2
          refine bodyPost_ret (results_arr_tmp Try.results33 _ _ (w.heap.size + 1 + 1) _ _ rfl HR.out) rfl ?_
          refine ⟨_, rfl, ?_, below_setCell (below_setCell HBr.out (by omega) _ _) (by omega) _ _⟩
          have L5 := HW.out.size
          have L6 := B4.out.size
          have L7 := S3.out
          have A : Arr w2.heap.size w3.heap.size wr (.agg #[.slice ca s.length cc, .slice cb d.length ce]) s (setTo φ d d.length) := ⟨_, _, rfl, HP.out, HQ.out, AP.out⟩
          rw [ED.out] at A
          exact ((A.setCell L2 _ _).setCell L2 _ _).mono (by omega) (by simp only [size_setCell]; omega)
    · have HO' : Hid (arrOk t e = false) := by show _ = _; simpa using ho'
      have ER : withinR s d t e = (1, [], []) := by unfold withinR withinC; rw [if_neg (fun q => ho' q.2)]; exact mkR_bad (by decide) _ _
      rw [ER]
      clear ER ho ho'
      go_enter Try.func33, Try.ntmps33
      go_wp2_with fail
      refine (arrOk_spec (H.out.keep (bAlloc (bAlloc (bAlloc (Below.refl _ _) _) _) _)) HD.out).mono ?_
      rintro r w1 ⟨rfl, hb⟩
      have HB1 : Hid (Below w.heap.size w w1) := bTrans (bAlloc (bAlloc (bAlloc (Below.refl _ _) _) _) _) hb
      have q1 := blocks3 w (.cells #[.slice a s.length c, .slice b d.length f] 26) (.cells #[.slice a' t.length c', .slice b' e.length f'] 26) (.cells #[.slice none 0 0, .slice none 0 0] 26)
      have X1 : Hid (Box w1 w.heap.size (.slice a s.length c) (.slice b d.length f) 26) := Box.keep q1.1 hb
      have Y1 : Hid (Box w1 (w.heap.size + 1) (.slice a' t.length c') (.slice b' e.length f') 26) := Box.keep q1.2.1 hb
      have R1 : Hid (Box w1 (w.heap.size + 1 + 1) (.slice none 0 0) (.slice none 0 0) 26) := Box.keep q1.2.2 hb
      clear hb q1
      rw [HO.out]
      have x0 := X1.out.c0
      have x1 := X1.out.c1
      have y0 := Y1.out.c0
      have y1 := Y1.out.c1
      go_wp2_with fail
      refine (arrOk_spec (K.out.keep HB1.out) HE.out).mono ?_
      rintro r w2 ⟨rfl, hb⟩
      have HB2 : Hid (Below w.heap.size w w2) := bTrans HB1.out hb
      have X2 : Hid (Box w2 w.heap.size (.slice a s.length c) (.slice b d.length f) 26) := X1.out.keep hb
      have Y2 : Hid (Box w2 (w.heap.size + 1) (.slice a' t.length c') (.slice b' e.length f') 26) := Y1.out.keep hb
      have R2 : Hid (Box w2 (w.heap.size + 1 + 1) (.slice none 0 0) (.slice none 0 0) 26) := R1.out.keep hb
      rw [HO'.out]
      clear hb x0 x1 y0 y1 X1 Y1 R1 HB1
      have r0 := R2.out.c0
      have r1 := R2.out.c1
      have f0 : w2.frozen? ⟨w.heap.size + 1 + 1, 0, none⟩ = false := free_at R2.out 0
      have f1 : w2.frozen? ⟨w.heap.size + 1 + 1, 1, none⟩ = false := free_at R2.out 1
      have HR : Hid (((w2.setCell ⟨w.heap.size + 1 + 1, 0, none⟩ (.slice none 0 0)).setCell ⟨w.heap.size + 1 + 1, 1, none⟩ (.slice none 0 0)).heap[w.heap.size + 1 + 1]? = some (.cells #[.slice none 0 0, .slice none 0 0] 26 (0, 0))) := arr_stored R2.out
      go_wp2
      refine bodyPost_ret (results_arr_tmp Try.results33 _ _ (w.heap.size + 1 + 1) _ _ rfl HR.out) rfl ?_
      exact ⟨_, rfl, arr_zero _ _ _, below_setCell (below_setCell HB2.out (by omega) _ _) (by omega) _ _⟩
  · have HO : Hid (arrOk s d = false) := by show _ = _; simpa using ho
    have ER : withinR s d t e = (1, [], []) := by unfold withinR withinC; rw [if_neg (fun q => ho q.1)]; exact mkR_bad (by decide) _ _
    rw [ER]
    clear ER ho
    go_enter Try.func33, Try.ntmps33
    go_wp2_with fail
    refine (arrOk_spec (H.out.keep (bAlloc (bAlloc (bAlloc (Below.refl _ _) _) _) _)) HD.out).mono ?_
    rintro r w1 ⟨rfl, hb⟩
    have HB1 : Hid (Below w.heap.size w w1) := bTrans (bAlloc (bAlloc (bAlloc (Below.refl _ _) _) _) _) hb
    have q1 := blocks3 w (.cells #[.slice a s.length c, .slice b d.length f] 26) (.cells #[.slice a' t.length c', .slice b' e.length f'] 26) (.cells #[.slice none 0 0, .slice none 0 0] 26)
    have X1 : Hid (Box w1 w.heap.size (.slice a s.length c) (.slice b d.length f) 26) := Box.keep q1.1 hb
    have Y1 : Hid (Box w1 (w.heap.size + 1) (.slice a' t.length c') (.slice b' e.length f') 26) := Box.keep q1.2.1 hb
    have R1 : Hid (Box w1 (w.heap.size + 1 + 1) (.slice none 0 0) (.slice none 0 0) 26) := Box.keep q1.2.2 hb
    clear hb q1
    rw [HO.out]
    have x0 := X1.out.c0
    have x1 := X1.out.c1
    have r0 := R1.out.c0
    have r1 := R1.out.c1
    have f0 : w1.frozen? ⟨w.heap.size + 1 + 1, 0, none⟩ = false := free_at R1.out 0
    have f1 : w1.frozen? ⟨w.heap.size + 1 + 1, 1, none⟩ = false := free_at R1.out 1
    have HR : Hid (((w1.setCell ⟨w.heap.size + 1 + 1, 0, none⟩ (.slice none 0 0)).setCell ⟨w.heap.size + 1 + 1, 1, none⟩ (.slice none 0 0)).heap[w.heap.size + 1 + 1]? = some (.cells #[.slice none 0 0, .slice none 0 0] 26 (0, 0))) := arr_stored R1.out
    go_wp2
    refine bodyPost_ret (results_arr_tmp Try.results33 _ _ (w.heap.size + 1 + 1) _ _ rfl HR.out) rfl ?_
    exact ⟨_, rfl, arr_zero _ _ _, below_setCell (below_setCell HB1.out (by omega) _ _) (by omega) _ _⟩
end Go.Proofs.Ythjjjnapcbkhjaa
