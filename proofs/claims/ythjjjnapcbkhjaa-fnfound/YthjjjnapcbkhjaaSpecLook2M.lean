/-
  Walks: the specification's Find.
-/
import Derived.Test.YthjjjnapcbkhjaaMakeMM
import Derived.Test.YthjjjnapcbkhjaaSpecCopy
import Derived.Test.YthjjjnapcbkhjaaSpecArrM
import Derived.Test.YthjjjnapcbkhjaaSpecEach1M
import Derived.Test.YthjjjnapcbkhjaaSpecMake2M
namespace Go.Proofs.Ythjjjnapcbkhjaa
open Go.RowKit
set_option linter.unusedVariables false
set_option linter.unusedSimpArgs false
set_option maxRecDepth 20000 in
set_option maxHeartbeats 4000000 in
/-- Find. -/
theorem find_spec {s d t e : List Int} {w : World} {v u : Value} (h : ArrI w v s d) (k : ArrI w u t e) (hs : t.length ≤ 1048576) (hd : d.length ≤ 1048576) (he : e.length ≤ 1048576) :
    Calls Try.prog 25 #[v, u] w fun r w' => ∃ v', r = .returned (.tuple #[v', .int .i64 (findR s d t e).1]) ∧ Arr w.heap.size w'.heap.size w' v' (findR s d t e).2.1 (findR s d t e).2.2 ∧ Below w.heap.size w w' := by
  have H : Hid (ArrI w v s d) := h
  have K : Hid (ArrI w u t e) := k
  obtain ⟨a, c, b, f, rfl, h1, h2, _, _⟩ := h
  obtain ⟨a', c', b', f', rfl, k1, k2, _, _⟩ := k
  have H2 : Hid (Ints w b d) := h2
  have K2 : Hid (Ints w b' e) := k2
  have HD : Hid (d.length ≤ 1048576) := hd
  have HE : Hid (e.length ≤ 1048576) := he
  have HS : Hid (t.length ≤ 1048576) := hs
  clear h1 h2 k1 k2
  by_cases ho : arrOk s d = true
  · have HO : Hid (arrOk s d = true) := ho
    by_cases ho' : arrOk t e = true
    · have HO' : Hid (arrOk t e = true) := ho'
      by_cases hl : s.length = 1
      · have ER : findR s d t e = (0, t, (List.range e.length).map (fun i => ((placeIn d (e.getD i 0) : Nat) : Int))) := by unfold findR findC; rw [if_pos ⟨ho, ho'⟩, if_neg (by simpa using hl)]; rfl
        have hlb : ((s.length : Int) != 1) = false := by rw [hl]; rfl
        rw [ER]
        clear ER ho ho' hl
        obtain ⟨φ, hφ⟩ : ∃ φ : Nat → Int, φ = fun (i : Nat) => ((placeIn d (e.getD i 0) : Nat) : Int) := ⟨_, rfl⟩
        rw [← hφ]
        have HPH : Hid (∀ k, φ k = (fun (i : Nat) => ((placeIn d (e.getD i 0) : Nat) : Int)) k) := fun k => by rw [hφ]
        clear hφ
        go_enter Try.func25, Try.ntmps25
        go_wp2_with fail
        refine (arrOk_spec (H.out.keep (bAlloc (bAlloc (bAlloc (Below.refl _ _) _) _) _)) HD.out).mono ?_
        rintro r w1 ⟨rfl, hb⟩
        have HB1 : Hid (Below w.heap.size w w1) := bTrans (bAlloc (bAlloc (bAlloc (Below.refl _ _) _) _) _) hb
        have q1 := blocks3 w (.cells #[.slice a s.length c, .slice b d.length f] 26) (.cells #[.slice a' t.length c', .slice b' e.length f'] 26) (.cells #[.slice none 0 0, .slice none 0 0] 26)
        have X1 : Hid (Box w1 w.heap.size (.slice a s.length c) (.slice b d.length f) 26) := Box.keep q1.1 hb
        have Y1 : Hid (Box w1 (w.heap.size + 1) (.slice a' t.length c') (.slice b' e.length f') 26) := Box.keep q1.2.1 hb
        have R1 : Hid (Box w1 (w.heap.size + 1 + 1) (.slice none 0 0) (.slice none 0 0) 26) := Box.keep q1.2.2 hb
        clear hb q1
        rw [HO.out]
        have x0 := X1.out.c0
        have x1 := X1.out.c1
        have y0 := Y1.out.c0
        have y1 := Y1.out.c1
        go_wp2_with fail
        refine (arrOk_spec (K.out.keep HB1.out) HE.out).mono ?_
        rintro r w2 ⟨rfl, hb⟩
        have HB2 : Hid (Below w.heap.size w w2) := bTrans HB1.out hb
        have X2 : Hid (Box w2 w.heap.size (.slice a s.length c) (.slice b d.length f) 26) := X1.out.keep hb
        have Y2 : Hid (Box w2 (w.heap.size + 1) (.slice a' t.length c') (.slice b' e.length f') 26) := Y1.out.keep hb
        have R2 : Hid (Box w2 (w.heap.size + 1 + 1) (.slice none 0 0) (.slice none 0 0) 26) := R1.out.keep hb
        rw [HO'.out]
        clear hb x0 x1 y0 y1 X1 Y1 R1 HB1
        have HPL : Hid (∀ (W : World) (x : Int), Below w.heap.size w W → Calls Try.prog 68 #[.slice b d.length f, .int .i64 x] W fun r w' => r = .returned (.int .i64 ((placeIn d x : Nat) : Int)) ∧ w' = W) := fun W x hb => place6_spec x f (H2.out.keep hb) HD.out
        have x0 := X2.out.c0
        have x1 := X2.out.c1
        have y0 := Y2.out.c0
        have y1 := Y2.out.c1
        go_wp2_with fail
        refine (copy_spec (K.out.keep HB2.out) HS.out HE.out).mono ?_
        rintro r w3 ⟨v', rfl, ha, hb⟩
        obtain ⟨p, q, rfl, pp, pq, hap⟩ := ha
        obtain ⟨ca, cc, rfl, _⟩ := pp.ints
        obtain ⟨cb, ce, rfl, _⟩ := pq.ints
        have PP : Hid (Piece w2.heap.size w3.heap.size w3 (.slice ca t.length cc) t) := pp
        have PQ : Hid (Piece w2.heap.size w3.heap.size w3 (.slice cb e.length ce) e) := pq
        have AP : Hid (Apart (.slice ca t.length cc) (.slice cb e.length ce)) := hap
        have HB3 : Hid (Below w.heap.size w w3) := bTrans HB2.out hb
        have X3 : Hid (Box w3 w.heap.size (.slice a s.length c) (.slice b d.length f) 26) := X2.out.keep hb
        have Y3 : Hid (Box w3 (w.heap.size + 1) (.slice a' t.length c') (.slice b' e.length f') 26) := Y2.out.keep hb
        have R3 : Hid (Box w3 (w.heap.size + 1 + 1) (.slice none 0 0) (.slice none 0 0) 26) := R2.out.keep hb
        have S2 : Hid (w.heap.size + 1 + 1 < w2.heap.size) := R2.out.lt
        have S3 : Hid (w2.heap.size ≤ w3.heap.size) := hb.size
        clear pp pq hap hb x0 x1 y0 y1 X2 Y2 R2
        go_wp2
        generalize hW : w3.alloc (.cells #[.slice ca t.length cc, .slice cb e.length ce] 26) = W4
        have Z4 : Hid (Box W4 w3.heap.size (.slice ca t.length cc) (.slice cb e.length ce) 26) := by rw [← hW]; exact box_new w3 _ _ _
        have B4 : Hid (Below w3.heap.size w3 W4) := by rw [← hW]; exact bAlloc (Below.refl _ _) _
        clear hW
        go_loopw [7] (fun i w' => ∃ k : Nat, k ≤ e.length ∧ i = .int .i64 (k : Int) ∧ Piece w2.heap.size w3.heap.size w' (.slice cb e.length ce) (setTo φ e k) ∧ Piece w2.heap.size w3.heap.size w' (.slice ca t.length cc) t ∧ Win w2.heap.size w3.heap.size W4 w') (fun i _ => e.length - (intOf i).toNat)
        case atStart => exact ⟨0, by omega, rfl, by rw [setTo_zero]; exact PQ.out.keep B4.out, PP.out.keep B4.out, Win.refl _ _ _⟩
        case round =>
          obtain ⟨k, hk, rfl, hq, hp, hw⟩ := hrel
          have HQ : Hid (Piece w2.heap.size w3.heap.size wr (.slice cb e.length ce) (setTo φ e k)) := hq
          have HP : Hid (Piece w2.heap.size w3.heap.size wr (.slice ca t.length cc) t) := hp
          have HW : Hid (Win w2.heap.size w3.heap.size W4 wr) := hw
          have L2 := S2.out
          have X : Hid (Box wr w.heap.size (.slice a s.length c) (.slice b d.length f) 26) := (X3.out.keep B4.out).win hw (.inl (by omega))
          have Y : Hid (Box wr (w.heap.size + 1) (.slice a' t.length c') (.slice b' e.length f') 26) := (Y3.out.keep B4.out).win hw (.inl (by omega))
          have R : Hid (Box wr (w.heap.size + 1 + 1) (.slice none 0 0) (.slice none 0 0) 26) := (R3.out.keep B4.out).win hw (.inl (by omega))
          have Z : Hid (Box wr w3.heap.size (.slice ca t.length cc) (.slice cb e.length ce) 26) := Z4.out.win hw (.inr (Nat.le_refl _))
          have HBr : Hid (Below w.heap.size w wr) := by
            have q := bTrans HB3.out B4.out
            exact q.trans ⟨hw.os, hw.tape, hw.output, hw.size, fun i hi => hw.block i (Nat.lt_of_lt_of_le hi q.size) (.inl (by omega))⟩
          clear hq hp hw
          have x0 := X.out.c0
          have x1 := X.out.c1
          have y0 := Y.out.c0
          have y1 := Y.out.c1
          have z0 := Z.out.c0
          have z1 := Z.out.c1
          by_cases hlt : (k : Int) < (e.length : Int)
          · have L : k < e.length := by omega
            obtain ⟨b1, o1, rfl, hb1, e1⟩ := K2.out.at L
            have d1 : wr.cell? ⟨b1, o1 + k, none⟩ = some (.int .i64 (e.getD k 0)) := (HBr.out.cell (p := ⟨b1, o1 + k, none⟩) hb1).trans e1
            obtain ⟨g2, o2, rfl⟩ := HQ.out.some (by rw [setTo_length]; omega)
            obtain ⟨t1, t2, t3, t4, t5⟩ := HQ.out.cellAt (k := k) (by rw [setTo_length]; exact L)
            have E3 : Hid ((setTo φ e k).set k (φ k) = setTo φ e (k + 1)) := setTo_set _ e L
            have LK : Hid (k < (setTo φ e k).length) := by show _ < _; rw [setTo_length]; exact L
            have LE : Hid ((setTo φ e k).length = e.length) := setTo_length _ _ _
            have hf := HPH.out k
            have HC : Hid (Calls Try.prog 68 #[.slice b d.length f, .int .i64 (e.getD k 0)] wr.drew fun r w' => r = .returned (.int .i64 (φ k)) ∧ w' = wr.drew) := by
              have q := HPL.out wr.drew (e.getD k 0) HBr.out.drew
              rw [hf]
              exact q
            generalize φ k = Y0 at *
            clear hf
            have HB1L : Hid (b1 < w.heap.size) := hb1
            clear e1 hb1
            generalize e.getD k 0 = uu at *
            generalize (setTo φ e k).getD k 0 = u2 at *
            go_wp2_with fail
            have j1 := ((X.out.win (win_setCell _ g2 (o2 + k) (.int .i64 Y0)) (.inl (by omega))).keep ((Below.refl _ _).drew)).c1
            have j2 := ((Y.out.win (win_setCell _ g2 (o2 + k) (.int .i64 Y0)) (.inl (by omega))).keep ((Below.refl _ _).drew)).c1
            have j3 := ((Z.out.win (win_setCell _ g2 (o2 + k) (.int .i64 Y0)) (.inr (by omega))).keep ((Below.refl _ _).drew)).c1
            have j4 : (wr.setCell ⟨g2, o2 + k, none⟩ (.int .i64 Y0)).drew.cell? ⟨b1, o1 + k, none⟩ = some (.int .i64 uu) := (Below.cell (B := w.heap.size) (below_setCell (B := w.heap.size) (Below.refl w.heap.size wr) (by omega) _ _).drew (p := ⟨b1, o1 + k, none⟩) HB1L.out).trans d1
            go_region_held3 (fun w' => w'.cell? ⟨w.heap.size, 1, none⟩ = some (.slice b d.length f) ∧ w'.cell? ⟨w.heap.size + 1, 1, none⟩ = some (.slice (some ⟨b1, o1, none⟩) e.length f') ∧ w'.cell? ⟨w3.heap.size, 1, none⟩ = some (.slice (some ⟨g2, o2, none⟩) e.length ce) ∧ w'.cell? ⟨b1, o1 + k, none⟩ = some (.int .i64 uu))
              (first | exact ⟨x1, y1, z1, d1⟩ | with_reducible exact ⟨j1, j2, j3, j4⟩)
              ((go_at_call 68; refine (HC.out).mono ?_; rintro r w' ⟨rfl, hw⟩; subst w'))
            go_wp2
            go_roundw
            case rel =>
              refine ⟨k + 1, by omega, by go_num, ?_, (HP.out.only (only_setCell wr g2 o2 e.length ce k _ L) AP.out.symm).keep ((Below.refl _ _).drew), ?_⟩
              · have q := HQ.out
                rw [← LE.out] at q
                have := q.set LK.out Y0
                rw [E3.out, LE.out] at this
                exact this.keep ((Below.refl _ _).drew)
              · have hwd := HW.out.setCell t3 t4 (o2 + k) (.int .i64 Y0)
                exact ⟨hwd.os, hwd.tape, hwd.output, hwd.size, hwd.block⟩
            case measure => simp [intOf]; omega
          · obtain rfl : k = e.length := by omega
            have HR : Hid (((wr.setCell ⟨w.heap.size + 1 + 1, 0, none⟩ (.slice ca t.length cc)).setCell ⟨w.heap.size + 1 + 1, 1, none⟩ (.slice cb e.length ce)).heap[w.heap.size + 1 + 1]? = some (.cells #[.slice ca t.length cc, .slice cb e.length ce] 26 (0, 0))) := arr_stored R.out
            have r0 := R.out.c0
            have r1 := R.out.c1
            have f0 : wr.frozen? ⟨w.heap.size + 1 + 1, 0, none⟩ = false := free_at R.out 0
            have f1 : wr.frozen? ⟨w.heap.size + 1 + 1, 1, none⟩ = false := free_at R.out 1
            have ED : Hid (setTo φ e e.length = (List.range e.length).map φ) := setTo_all _ _ rfl
            go_wp2
            refine bodyPost_ret (results_arr_tmp Try.results25 _ _ (w.heap.size + 1 + 1) _ _ rfl HR.out) rfl ?_
            refine ⟨_, rfl, ?_, below_setCell (below_setCell HBr.out (by omega) _ _) (by omega) _ _⟩
            have L5 := HW.out.size
            have L6 := B4.out.size
            have L7 := S3.out
            have A : Arr w2.heap.size w3.heap.size wr (.agg #[.slice ca t.length cc, .slice cb e.length ce]) t (setTo φ e e.length) := ⟨_, _, rfl, HP.out, HQ.out, AP.out⟩
            rw [ED.out] at A
            exact ((A.setCell L2 _ _).setCell L2 _ _).mono (by omega) (by simp only [size_setCell]; omega)
      · have ER : findR s d t e = (4, [], []) := by unfold findR findC; rw [if_pos ⟨ho, ho'⟩, if_pos hl]; exact mkR_bad (by decide) _ _
        have hlb : ((s.length : Int) != 1) = true := by simp; omega
        rw [ER]
        clear ER ho ho' hl
        go_enter Try.func25, Try.ntmps25
        go_wp2_with fail
        refine (arrOk_spec (H.out.keep (bAlloc (bAlloc (bAlloc (Below.refl _ _) _) _) _)) HD.out).mono ?_
        rintro r w1 ⟨rfl, hb⟩
        have HB1 : Hid (Below w.heap.size w w1) := bTrans (bAlloc (bAlloc (bAlloc (Below.refl _ _) _) _) _) hb
        have q1 := blocks3 w (.cells #[.slice a s.length c, .slice b d.length f] 26) (.cells #[.slice a' t.length c', .slice b' e.length f'] 26) (.cells #[.slice none 0 0, .slice none 0 0] 26)
        have X1 : Hid (Box w1 w.heap.size (.slice a s.length c) (.slice b d.length f) 26) := Box.keep q1.1 hb
        have Y1 : Hid (Box w1 (w.heap.size + 1) (.slice a' t.length c') (.slice b' e.length f') 26) := Box.keep q1.2.1 hb
        have R1 : Hid (Box w1 (w.heap.size + 1 + 1) (.slice none 0 0) (.slice none 0 0) 26) := Box.keep q1.2.2 hb
        clear hb q1
        rw [HO.out]
        have x0 := X1.out.c0
        have x1 := X1.out.c1
        have y0 := Y1.out.c0
        have y1 := Y1.out.c1
        go_wp2_with fail
        refine (arrOk_spec (K.out.keep HB1.out) HE.out).mono ?_
        rintro r w2 ⟨rfl, hb⟩
        have HB2 : Hid (Below w.heap.size w w2) := bTrans HB1.out hb
        have X2 : Hid (Box w2 w.heap.size (.slice a s.length c) (.slice b d.length f) 26) := X1.out.keep hb
        have Y2 : Hid (Box w2 (w.heap.size + 1) (.slice a' t.length c') (.slice b' e.length f') 26) := Y1.out.keep hb
        have R2 : Hid (Box w2 (w.heap.size + 1 + 1) (.slice none 0 0) (.slice none 0 0) 26) := R1.out.keep hb
        rw [HO'.out]
        clear hb x0 x1 y0 y1 X1 Y1 R1 HB1
        have x0 := X2.out.c0
        have x1 := X2.out.c1
        have r0 := R2.out.c0
        have r1 := R2.out.c1
        have f0 : w2.frozen? ⟨w.heap.size + 1 + 1, 0, none⟩ = false := free_at R2.out 0
        have f1 : w2.frozen? ⟨w.heap.size + 1 + 1, 1, none⟩ = false := free_at R2.out 1
        have HR : Hid (((w2.setCell ⟨w.heap.size + 1 + 1, 0, none⟩ (.slice none 0 0)).setCell ⟨w.heap.size + 1 + 1, 1, none⟩ (.slice none 0 0)).heap[w.heap.size + 1 + 1]? = some (.cells #[.slice none 0 0, .slice none 0 0] 26 (0, 0))) := arr_stored R2.out
        go_wp2
        refine bodyPost_ret (results_arr_tmp Try.results25 _ _ (w.heap.size + 1 + 1) _ _ rfl HR.out) rfl ?_
        exact ⟨_, rfl, arr_zero _ _ _, below_setCell (below_setCell HB2.out (by omega) _ _) (by omega) _ _⟩
    · have HO' : Hid (arrOk t e = false) := by show _ = _; simpa using ho'
      have ER : findR s d t e = (1, [], []) := by unfold findR findC; rw [if_neg (fun q => ho' q.2)]; exact mkR_bad (by decide) _ _
      rw [ER]
      clear ER ho ho'
      go_enter Try.func25, Try.ntmps25
      go_wp2_with fail
      refine (arrOk_spec (H.out.keep (bAlloc (bAlloc (bAlloc (Below.refl _ _) _) _) _)) HD.out).mono ?_
      rintro r w1 ⟨rfl, hb⟩
      have HB1 : Hid (Below w.heap.size w w1) := bTrans (bAlloc (bAlloc (bAlloc (Below.refl _ _) _) _) _) hb
      have q1 := blocks3 w (.cells #[.slice a s.length c, .slice b d.length f] 26) (.cells #[.slice a' t.length c', .slice b' e.length f'] 26) (.cells #[.slice none 0 0, .slice none 0 0] 26)
      have X1 : Hid (Box w1 w.heap.size (.slice a s.length c) (.slice b d.length f) 26) := Box.keep q1.1 hb
      have Y1 : Hid (Box w1 (w.heap.size + 1) (.slice a' t.length c') (.slice b' e.length f') 26) := Box.keep q1.2.1 hb
      have R1 : Hid (Box w1 (w.heap.size + 1 + 1) (.slice none 0 0) (.slice none 0 0) 26) := Box.keep q1.2.2 hb
      clear hb q1
      rw [HO.out]
      have x0 := X1.out.c0
      have x1 := X1.out.c1
      have y0 := Y1.out.c0
      have y1 := Y1.out.c1
      go_wp2_with fail
      refine (arrOk_spec (K.out.keep HB1.out) HE.out).mono ?_
      rintro r w2 ⟨rfl, hb⟩
      have HB2 : Hid (Below w.heap.size w w2) := bTrans HB1.out hb
      have X2 : Hid (Box w2 w.heap.size (.slice a s.length c) (.slice b d.length f) 26) := X1.out.keep hb
      have Y2 : Hid (Box w2 (w.heap.size + 1) (.slice a' t.length c') (.slice b' e.length f') 26) := Y1.out.keep hb
      have R2 : Hid (Box w2 (w.heap.size + 1 + 1) (.slice none 0 0) (.slice none 0 0) 26) := R1.out.keep hb
      rw [HO'.out]
      clear hb x0 x1 y0 y1 X1 Y1 R1 HB1
      have r0 := R2.out.c0
      have r1 := R2.out.c1
      have f0 : w2.frozen? ⟨w.heap.size + 1 + 1, 0, none⟩ = false := free_at R2.out 0
      have f1 : w2.frozen? ⟨w.heap.size + 1 + 1, 1, none⟩ = false := free_at R2.out 1
      have HR : Hid (((w2.setCell ⟨w.heap.size + 1 + 1, 0, none⟩ (.slice none 0 0)).setCell ⟨w.heap.size + 1 + 1, 1, none⟩ (.slice none 0 0)).heap[w.heap.size + 1 + 1]? = some (.cells #[.slice none 0 0, .slice none 0 0] 26 (0, 0))) := arr_stored R2.out
      go_wp2
      refine bodyPost_ret (results_arr_tmp Try.results25 _ _ (w.heap.size + 1 + 1) _ _ rfl HR.out) rfl ?_
      exact ⟨_, rfl, arr_zero _ _ _, below_setCell (below_setCell HB2.out (by omega) _ _) (by omega) _ _⟩
  · have HO : Hid (arrOk s d = false) := by show _ = _; simpa using ho
    have ER : findR s d t e = (1, [], []) := by unfold findR findC; rw [if_neg (fun q => ho q.1)]; exact mkR_bad (by decide) _ _
    rw [ER]
    clear ER ho
    go_enter Try.func25, Try.ntmps25
    go_wp2_with fail
    refine (arrOk_spec (H.out.keep (bAlloc (bAlloc (bAlloc (Below.refl _ _) _) _) _)) HD.out).mono ?_
    rintro r w1 ⟨rfl, hb⟩
    have HB1 : Hid (Below w.heap.size w w1) := bTrans (bAlloc (bAlloc (bAlloc (Below.refl _ _) _) _) _) hb
    have q1 := blocks3 w (.cells #[.slice a s.length c, .slice b d.length f] 26) (.cells #[.slice a' t.length c', .slice b' e.length f'] 26) (.cells #[.slice none 0 0, .slice none 0 0] 26)
    have X1 : Hid (Box w1 w.heap.size (.slice a s.length c) (.slice b d.length f) 26) := Box.keep q1.1 hb
    have Y1 : Hid (Box w1 (w.heap.size + 1) (.slice a' t.length c') (.slice b' e.length f') 26) := Box.keep q1.2.1 hb
    have R1 : Hid (Box w1 (w.heap.size + 1 + 1) (.slice none 0 0) (.slice none 0 0) 26) := Box.keep q1.2.2 hb
    clear hb q1
    rw [HO.out]
    have x0 := X1.out.c0
    have x1 := X1.out.c1
    have r0 := R1.out.c0
    have r1 := R1.out.c1
    have f0 : w1.frozen? ⟨w.heap.size + 1 + 1, 0, none⟩ = false := free_at R1.out 0
    have f1 : w1.frozen? ⟨w.heap.size + 1 + 1, 1, none⟩ = false := free_at R1.out 1
    have HR : Hid (((w1.setCell ⟨w.heap.size + 1 + 1, 0, none⟩ (.slice none 0 0)).setCell ⟨w.heap.size + 1 + 1, 1, none⟩ (.slice none 0 0)).heap[w.heap.size + 1 + 1]? = some (.cells #[.slice none 0 0, .slice none 0 0] 26 (0, 0))) := arr_stored R1.out
    go_wp2
    refine bodyPost_ret (results_arr_tmp Try.results25 _ _ (w.heap.size + 1 + 1) _ _ rfl HR.out) rfl ?_
    exact ⟨_, rfl, arr_zero _ _ _, below_setCell (below_setCell HB1.out (by omega) _ _) (by omega) _ _⟩
end Go.Proofs.Ythjjjnapcbkhjaa
