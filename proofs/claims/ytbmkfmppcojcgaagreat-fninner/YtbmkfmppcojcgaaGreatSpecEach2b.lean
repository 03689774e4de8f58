/-
  Walks: the specification's EachTwo, as a whole.
-/
import Derived.Test.YtbmkfmppcojcgaaGreatSpecEach2
namespace Go.Proofs.YtbmkfmppcojcgaaGreat
open Go.RowKit
set_option linter.unusedVariables false
set_option linter.unusedSimpArgs false
set_option maxRecDepth 20000 in
set_option maxHeartbeats 4000000 in
/-- EachTwo. -/
theorem eachTwo_spec {g : Int} {s d t e : List Int} {w : World} {v u : Value} (h : ArrI w v s d) (k : ArrI w u t e) (hs : s.length ≤ 1048576) (hd : d.length ≤ 1048576) (ht : t.length ≤ 1048576) (he : e.length ≤ 1048576) :
    Calls Tryz.prog 84 #[.int .i64 g, v, u] w fun r w' => ∃ v', r = .returned (.tuple #[v', .int .i64 (eachTwoC g s d t e)]) ∧ Arr w.heap.size w'.heap.size w' v' (eachTwoS g s d t e) (eachTwoD g s d t e) ∧ Below w.heap.size w w' := by
  by_cases hall : arrOk s d = true ∧ arrOk t e = true ∧ sign2 g = true
  · by_cases hf : fitC s d t e = 0
    · exact eachTwo_ok h k hs hd ht he hall.1 hall.2.1 hall.2.2 hf
    have hc : eachTwoC g s d t e = fitC s d t e := by unfold eachTwoC; rw [if_pos hall, if_neg hf]
    obtain ⟨es, ed⟩ := eachTwo_bad (g := g) (s := s) (d := d) (t := t) (e := e) (by rw [hc]; exact hf)
    rw [hc, es, ed]
    obtain ⟨q1, q2, q3⟩ := hall
    have H : Hid (ArrI w v s d) := h
    have K : Hid (ArrI w u t e) := k
    obtain ⟨a, c, b, f, rfl, _, _, _, _⟩ := h
    obtain ⟨a', c', b', f', rfl, _, _, _, _⟩ := k
    have HS : Hid (s.length ≤ 1048576) := hs
    have HD : Hid (d.length ≤ 1048576) := hd
    have HT : Hid (t.length ≤ 1048576) := ht
    have HE : Hid (e.length ≤ 1048576) := he
    have HO : Hid (arrOk s d = true) := q1
    have HO' : Hid (arrOk t e = true) := q2
    have HG : Hid (sign2 g = true) := q3
    have hne : (fitC s d t e != 0) = true := by simpa using hf
    clear hs hd ht he q1 q2 q3 hc es ed hf
    go_enter Tryz.func84, Tryz.ntmps84
    go_wp2_with fail
    refine (arrOk_spec (H.out.keep (bAlloc (bAlloc (bAlloc (Below.refl _ _) _) _) _)) HD.out).mono ?_
    rintro r w1 ⟨rfl, hb⟩
    have HB1 : Hid (Below w.heap.size w w1) := bTrans (bAlloc (bAlloc (bAlloc (Below.refl _ _) _) _) _) hb
    have X1 : Hid (Box w1 w.heap.size (.slice a s.length c) (.slice b d.length f) 26) := (((box_new w _ _ _).keep (bAlloc (Below.refl _ _) _)).keep (bAlloc (Below.refl _ _) _)).keep hb
    have Y1 : Hid (Box w1 (w.heap.size + 1) (.slice a' t.length c') (.slice b' e.length f') 26) := ((box_new2 w _ _ _ _).keep (bAlloc (Below.refl _ _) _)).keep hb
    have R1 : Hid (Box w1 (w.heap.size + 1 + 1) (.slice none 0 0) (.slice none 0 0) 26) := (box3 w _ _ _ _ _).keep hb
    have x0 := X1.out.c0
    have x1 := X1.out.c1
    have y0 := Y1.out.c0
    have y1 := Y1.out.c1
    clear hb
    rw [HO.out]
    go_wp2_with fail
    refine (arrOk_spec (K.out.keep HB1.out) HE.out).mono ?_
    rintro r w2 ⟨rfl, hb⟩
    have HB2 : Hid (Below w.heap.size w w2) := bTrans HB1.out hb
    have X2 : Hid (Box w2 w.heap.size (.slice a s.length c) (.slice b d.length f) 26) := X1.out.keep hb
    have Y2 : Hid (Box w2 (w.heap.size + 1) (.slice a' t.length c') (.slice b' e.length f') 26) := Y1.out.keep hb
    have R2 : Hid (Box w2 (w.heap.size + 1 + 1) (.slice none 0 0) (.slice none 0 0) 26) := R1.out.keep hb
    clear hb x0 x1 y0 y1 X1 Y1 R1 HB1
    have x0 := X2.out.c0
    have x1 := X2.out.c1
    have y0 := Y2.out.c0
    have y1 := Y2.out.c1
    rw [HO'.out]
    go_wp2_with fail
    refine (sign2_spec g _).mono ?_
    rintro r w' ⟨rfl, hw⟩
    subst w'
    rw [HG.out]
    go_wp2_with fail
    refine (fit_spec (H.out.keep HB2.out) (K.out.keep HB2.out) HS.out HD.out HT.out HE.out).mono ?_
    rintro r w3 ⟨v3, rfl, hp, hb⟩
    obtain ⟨sa, sc, rfl, _⟩ := hp.ints
    have HB3 : Hid (Below w.heap.size w w3) := bTrans HB2.out hb
    have R3 : Hid (Box w3 (w.heap.size + 1 + 1) (.slice none 0 0) (.slice none 0 0) 26) := R2.out.keep hb
    clear hb hp
    have r0 := R3.out.c0
    have r1 := R3.out.c1
    have f0 : w3.frozen? ⟨w.heap.size + 1 + 1, 0, none⟩ = false := free_at R3.out 0
    have f1 : w3.frozen? ⟨w.heap.size + 1 + 1, 1, none⟩ = false := free_at R3.out 1
    have HR : Hid (((w3.setCell ⟨w.heap.size + 1 + 1, 0, none⟩ (.slice none 0 0)).setCell ⟨w.heap.size + 1 + 1, 1, none⟩ (.slice none 0 0)).heap[w.heap.size + 1 + 1]? = some (.cells #[.slice none 0 0, .slice none 0 0] 26 (0, 0))) := arr_stored R3.out
    go_wp2
    refine bodyPost_ret (results_arr_tmp Tryz.results84 _ _ (w.heap.size + 1 + 1) _ _ rfl HR.out) rfl ?_
    exact ⟨_, rfl, arr_zero _ _ _, below_setCell (below_setCell HB3.out (by omega) _ _) (by omega) _ _⟩
  have hc : eachTwoC g s d t e = 1 := by unfold eachTwoC; rw [if_neg hall]
  obtain ⟨es, ed⟩ := eachTwo_bad (g := g) (s := s) (d := d) (t := t) (e := e) (by rw [hc]; decide)
  rw [hc, es, ed]
  have H : Hid (ArrI w v s d) := h
  have K : Hid (ArrI w u t e) := k
  obtain ⟨a, c, b, f, rfl, _, _, _, _⟩ := h
  obtain ⟨a', c', b', f', rfl, _, _, _, _⟩ := k
  have HD : Hid (d.length ≤ 1048576) := hd
  have HE : Hid (e.length ≤ 1048576) := he
  have hcase : arrOk s d = false ∨ (arrOk s d = true ∧ arrOk t e = false) ∨ (arrOk s d = true ∧ arrOk t e = true ∧ sign2 g = false) := by
    cases h1 : arrOk s d
    · exact .inl rfl
    · cases h2 : arrOk t e
      · exact .inr (.inl ⟨rfl, rfl⟩)
      · exact .inr (.inr ⟨rfl, rfl, by simpa [h1, h2] using hall⟩)
  clear hs hd ht he hc es ed hall
  rcases hcase with q1 | ⟨q1, q2⟩ | ⟨q1, q2, q3⟩
  · -- the left one is not right
    have HO : Hid (arrOk s d = false) := q1
    clear q1
    go_enter Tryz.func84, Tryz.ntmps84
    go_wp2_with fail
    refine (arrOk_spec (H.out.keep (bAlloc (bAlloc (bAlloc (Below.refl _ _) _) _) _)) HD.out).mono ?_
    rintro r w1 ⟨rfl, hb⟩
    have HB1 : Hid (Below w.heap.size w w1) := bTrans (bAlloc (bAlloc (bAlloc (Below.refl _ _) _) _) _) hb
    have X1 : Hid (Box w1 w.heap.size (.slice a s.length c) (.slice b d.length f) 26) := (((box_new w _ _ _).keep (bAlloc (Below.refl _ _) _)).keep (bAlloc (Below.refl _ _) _)).keep hb
    have Y1 : Hid (Box w1 (w.heap.size + 1) (.slice a' t.length c') (.slice b' e.length f') 26) := ((box_new2 w _ _ _ _).keep (bAlloc (Below.refl _ _) _)).keep hb
    have R1 : Hid (Box w1 (w.heap.size + 1 + 1) (.slice none 0 0) (.slice none 0 0) 26) := (box3 w _ _ _ _ _).keep hb
    have x0 := X1.out.c0
    have x1 := X1.out.c1
    have y0 := Y1.out.c0
    have y1 := Y1.out.c1
    clear hb
    rw [HO.out]
    have r0 := R1.out.c0
    have r1 := R1.out.c1
    have f0 : w1.frozen? ⟨w.heap.size + 1 + 1, 0, none⟩ = false := free_at R1.out 0
    have f1 : w1.frozen? ⟨w.heap.size + 1 + 1, 1, none⟩ = false := free_at R1.out 1
    have HR : Hid (((w1.setCell ⟨w.heap.size + 1 + 1, 0, none⟩ (.slice none 0 0)).setCell ⟨w.heap.size + 1 + 1, 1, none⟩ (.slice none 0 0)).heap[w.heap.size + 1 + 1]? = some (.cells #[.slice none 0 0, .slice none 0 0] 26 (0, 0))) := arr_stored R1.out
    go_wp2
    refine bodyPost_ret (results_arr_tmp Tryz.results84 _ _ (w.heap.size + 1 + 1) _ _ rfl HR.out) rfl ?_
    exact ⟨_, rfl, arr_zero _ _ _, below_setCell (below_setCell HB1.out (by omega) _ _) (by omega) _ _⟩
  · -- the right one is not right
    have HO : Hid (arrOk s d = true) := q1
    have HO' : Hid (arrOk t e = false) := q2
    clear q1 q2
    go_enter Tryz.func84, Tryz.ntmps84
    go_wp2_with fail
    refine (arrOk_spec (H.out.keep (bAlloc (bAlloc (bAlloc (Below.refl _ _) _) _) _)) HD.out).mono ?_
    rintro r w1 ⟨rfl, hb⟩
    have HB1 : Hid (Below w.heap.size w w1) := bTrans (bAlloc (bAlloc (bAlloc (Below.refl _ _) _) _) _) hb
    have X1 : Hid (Box w1 w.heap.size (.slice a s.length c) (.slice b d.length f) 26) := (((box_new w _ _ _).keep (bAlloc (Below.refl _ _) _)).keep (bAlloc (Below.refl _ _) _)).keep hb
    have Y1 : Hid (Box w1 (w.heap.size + 1) (.slice a' t.length c') (.slice b' e.length f') 26) := ((box_new2 w _ _ _ _).keep (bAlloc (Below.refl _ _) _)).keep hb
    have R1 : Hid (Box w1 (w.heap.size + 1 + 1) (.slice none 0 0) (.slice none 0 0) 26) := (box3 w _ _ _ _ _).keep hb
    have x0 := X1.out.c0
    have x1 := X1.out.c1
    have y0 := Y1.out.c0
    have y1 := Y1.out.c1
    clear hb
    rw [HO.out]
    go_wp2_with fail
    refine (arrOk_spec (K.out.keep HB1.out) HE.out).mono ?_
    rintro r w2 ⟨rfl, hb⟩
    have HB2 : Hid (Below w.heap.size w w2) := bTrans HB1.out hb
    have X2 : Hid (Box w2 w.heap.size (.slice a s.length c) (.slice b d.length f) 26) := X1.out.keep hb
    have Y2 : Hid (Box w2 (w.heap.size + 1) (.slice a' t.length c') (.slice b' e.length f') 26) := Y1.out.keep hb
    have R2 : Hid (Box w2 (w.heap.size + 1 + 1) (.slice none 0 0) (.slice none 0 0) 26) := R1.out.keep hb
    clear hb x0 x1 y0 y1 X1 Y1 R1 HB1
    have x0 := X2.out.c0
    have x1 := X2.out.c1
    have y0 := Y2.out.c0
    have y1 := Y2.out.c1
    rw [HO'.out]
    have r0 := R2.out.c0
    have r1 := R2.out.c1
    have f0 : w2.frozen? ⟨w.heap.size + 1 + 1, 0, none⟩ = false := free_at R2.out 0
    have f1 : w2.frozen? ⟨w.heap.size + 1 + 1, 1, none⟩ = false := free_at R2.out 1
    have HR : Hid (((w2.setCell ⟨w.heap.size + 1 + 1, 0, none⟩ (.slice none 0 0)).setCell ⟨w.heap.size + 1 + 1, 1, none⟩ (.slice none 0 0)).heap[w.heap.size + 1 + 1]? = some (.cells #[.slice none 0 0, .slice none 0 0] 26 (0, 0))) := arr_stored R2.out
    go_wp2
    refine bodyPost_ret (results_arr_tmp Tryz.results84 _ _ (w.heap.size + 1 + 1) _ _ rfl HR.out) rfl ?_
    exact ⟨_, rfl, arr_zero _ _ _, below_setCell (below_setCell HB2.out (by omega) _ _) (by omega) _ _⟩
  · -- no sign
    have HO : Hid (arrOk s d = true) := q1
    have HO' : Hid (arrOk t e = true) := q2
    have HG : Hid (sign2 g = false) := q3
    clear q1 q2 q3
    go_enter Tryz.func84, Tryz.ntmps84
    go_wp2_with fail
    refine (arrOk_spec (H.out.keep (bAlloc (bAlloc (bAlloc (Below.refl _ _) _) _) _)) HD.out).mono ?_
    rintro r w1 ⟨rfl, hb⟩
    have HB1 : Hid (Below w.heap.size w w1) := bTrans (bAlloc (bAlloc (bAlloc (Below.refl _ _) _) _) _) hb
    have X1 : Hid (Box w1 w.heap.size (.slice a s.length c) (.slice b d.length f) 26) := (((box_new w _ _ _).keep (bAlloc (Below.refl _ _) _)).keep (bAlloc (Below.refl _ _) _)).keep hb
    have Y1 : Hid (Box w1 (w.heap.size + 1) (.slice a' t.length c') (.slice b' e.length f') 26) := ((box_new2 w _ _ _ _).keep (bAlloc (Below.refl _ _) _)).keep hb
    have R1 : Hid (Box w1 (w.heap.size + 1 + 1) (.slice none 0 0) (.slice none 0 0) 26) := (box3 w _ _ _ _ _).keep hb
    have x0 := X1.out.c0
    have x1 := X1.out.c1
    have y0 := Y1.out.c0
    have y1 := Y1.out.c1
    clear hb
    rw [HO.out]
    go_wp2_with fail
    refine (arrOk_spec (K.out.keep HB1.out) HE.out).mono ?_
    rintro r w2 ⟨rfl, hb⟩
    have HB2 : Hid (Below w.heap.size w w2) := bTrans HB1.out hb
    have X2 : Hid (Box w2 w.heap.size (.slice a s.length c) (.slice b d.length f) 26) := X1.out.keep hb
    have Y2 : Hid (Box w2 (w.heap.size + 1) (.slice a' t.length c') (.slice b' e.length f') 26) := Y1.out.keep hb
    have R2 : Hid (Box w2 (w.heap.size + 1 + 1) (.slice none 0 0) (.slice none 0 0) 26) := R1.out.keep hb
    clear hb x0 x1 y0 y1 X1 Y1 R1 HB1
    have x0 := X2.out.c0
    have x1 := X2.out.c1
    have y0 := Y2.out.c0
    have y1 := Y2.out.c1
    rw [HO'.out]
    go_wp2_with fail
    refine (sign2_spec g _).mono ?_
    rintro r w' ⟨rfl, hw⟩
    subst w'
    rw [HG.out]
    have r0 := R2.out.c0
    have r1 := R2.out.c1
    have f0 : w2.frozen? ⟨w.heap.size + 1 + 1, 0, none⟩ = false := free_at R2.out 0
    have f1 : w2.frozen? ⟨w.heap.size + 1 + 1, 1, none⟩ = false := free_at R2.out 1
    have HR : Hid (((w2.setCell ⟨w.heap.size + 1 + 1, 0, none⟩ (.slice none 0 0)).setCell ⟨w.heap.size + 1 + 1, 1, none⟩ (.slice none 0 0)).heap[w.heap.size + 1 + 1]? = some (.cells #[.slice none 0 0, .slice none 0 0] 26 (0, 0))) := arr_stored R2.out
    go_wp2
    refine bodyPost_ret (results_arr_tmp Tryz.results84 _ _ (w.heap.size + 1 + 1) _ _ rfl HR.out) rfl ?_
    exact ⟨_, rfl, arr_zero _ _ _, below_setCell (below_setCell HB2.out (by omega) _ _) (by omega) _ _⟩
end Go.Proofs.YtbmkfmppcojcgaaGreat
