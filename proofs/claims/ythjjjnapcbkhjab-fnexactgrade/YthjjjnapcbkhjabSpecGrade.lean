/-
  Walks: the specification's Grade.
-/
import Derived.Test.YthjjjnapcbkhjabSpecArr2
import Derived.Test.YthjjjnapcbkhjabGrow
import Derived.Test.YthjjjnapcbkhjabSpecCopy
import Derived.Test.YthjjjnapcbkhjabSpecEach1
import Derived.Test.YthjjjnapcbkhjabSpecMake1
import Derived.Test.YthjjjnapcbkhjabGradeR
namespace Go.Proofs.Ythjjjnapcbkhjab
open Go.RowKit
set_option linter.unusedVariables false
set_option linter.unusedSimpArgs false
theorem newInts_down {B B' : Nat} {w : World} {v : Value} {l : List Int} (h : NewInts B w v l) (hB : B' ≤ B) : NewInts B' w v l := by
  obtain ⟨h1, h2⟩ := h
  refine ⟨h1, ?_⟩
  rcases h2 with h2 | ⟨g, cap, cur, e, hg, r⟩
  · exact .inl h2
  · exact .inr ⟨g, cap, cur, e, Nat.le_trans hB hg, r⟩
set_option maxRecDepth 20000 in
set_option maxHeartbeats 8000000 in
/-- Grade. -/
theorem grade_spec {s d : List Int} {w : World} {v : Value} (h : ArrI w v s d) (hs : s.length ≤ 1048576) (hd : d.length ≤ 1048576) :
    Calls Try.prog 5 #[v] w fun r w' => ∃ v', r = .returned (.tuple #[v', .int .i64 (gradeR s d).1]) ∧ Arr w.heap.size w'.heap.size w' v' (gradeR s d).2.1 (gradeR s d).2.2 ∧ Below w.heap.size w w' := by
  have H : Hid (ArrI w v s d) := h
  obtain ⟨a, c, b, f, rfl, h1, h2, _, _⟩ := h
  have H2 : Hid (Ints w b d) := h2
  have HD : Hid (d.length ≤ 1048576) := hd
  clear h1 h2
  have q1 := heap_alloc2_old w (.cells #[.slice a s.length c, .slice b d.length f] 26) (.cells #[.slice none 0 0, .slice none 0 0] 26)
  have q2 := heap_alloc2_new w (.cells #[.slice a s.length c, .slice b d.length f] 26) (.cells #[.slice none 0 0, .slice none 0 0] 26)
  have QX : Hid (Box ((w.alloc (.cells #[.slice a s.length c, .slice b d.length f] 26)).alloc (.cells #[.slice none 0 0, .slice none 0 0] 26)) w.heap.size (.slice a s.length c) (.slice b d.length f) 26) := q1
  have QR : Hid (Box ((w.alloc (.cells #[.slice a s.length c, .slice b d.length f] 26)).alloc (.cells #[.slice none 0 0, .slice none 0 0] 26)) (w.heap.size + 1) (.slice none 0 0) (.slice none 0 0) 26) := q2
  clear q1 q2
  by_cases ho : arrOk s d = true
  · have HO : Hid (arrOk s d = true) := ho
    by_cases hl : s.length = 1
    · have ER : gradeR s d = (0, [(d.length : Int)], natI (gradeTo d d.length)) := by unfold gradeR gradeC; rw [if_pos ho, if_pos hl]; rfl
      have hlb : ((s.length : Int) != 1) = false := by rw [hl]; rfl
      have L3 : Hid (d.length ≤ 300) := arrOk_len ho
      rw [ER]
      clear ER ho hl
      go_enter Try.func5, Try.ntmps5
      go_wp2_with fail
      refine (arrOk_spec (H.out.keep (bAlloc (bAlloc (Below.refl _ _) _) _)) HD.out).mono ?_
      rintro r w1 ⟨rfl, hb⟩
      have HB1 : Hid (Below w.heap.size w w1) := bTrans (bAlloc (bAlloc (Below.refl _ _) _) _) hb
      have X1 : Hid (Box w1 w.heap.size (.slice a s.length c) (.slice b d.length f) 26) := QX.out.keep hb
      have R1 : Hid (Box w1 (w.heap.size + 1) (.slice none 0 0) (.slice none 0 0) 26) := QR.out.keep hb
      clear hb QX QR
      rw [HO.out]
      have x0 := X1.out.c0
      have x1 := X1.out.c1
      go_wp2_with fail
      have D1 : Hid (Ints w1 b d) := H2.out.keep HB1.out
      generalize hW : w1.alloc (.cells #[] 3) = WL
      have BL : Hid (Below w1.heap.size w1 WL) := by rw [← hW]; exact bAlloc (Below.refl _ _) _
      have N0 : Hid (NewInts w1.heap.size WL (.slice (some ⟨w1.heap.size, 0, none⟩) 0 0) []) := by rw [← hW]; exact newInts_alloc w1 [] (Nat.le_refl _) (by simp)
      clear hW x0 x1
      go_loopw [4, 5] (fun q i w' => ∃ k : Nat, k ≤ d.length ∧ i = .int .i64 (k : Int) ∧ NewInts w1.heap.size w' q (natI (gradeTo d k)) ∧ Below w1.heap.size w1 w') (fun _ i _ => d.length - (intOf i).toNat)
      case atStart => exact ⟨0, by omega, rfl, N0.out, BL.out⟩
      case round =>
        obtain ⟨k, hk, rfl, hN, hB⟩ := hrel
        have HN : Hid (NewInts w1.heap.size wr u4 (natI (gradeTo d k))) := hN
        have HB : Hid (Below w1.heap.size w1 wr) := hB
        have X : Hid (Box wr w.heap.size (.slice a s.length c) (.slice b d.length f) 26) := X1.out.keep hB
        have hk3 : k ≤ 300 := by have := L3.out; omega
        have ZL : Hid ((natI (gradeTo d k)).length = k) := by show _ = _; rw [natI_len, gradeTo_len]
        have y1 := X.out.c1
        obtain ⟨ao, co, ev, io⟩ := hN.ints
        rw [ZL.out] at ev
        subst ev
        have IO : Hid (Ints wr ao (natI (gradeTo d k))) := io
        clear hN hB io
        by_cases hlt : (k : Int) < (d.length : Int)
        · have L : k < d.length := by omega
          have DR : Hid (Ints wr b d) := D1.out.keep HB.out
          have SIX : Hid (w1.heap.size ≤ wr.heap.size) := HB.out.size
          go_wp2_with fail
          generalize hW2 : wr.alloc (.cells #[] 3) = W2
          have B2 : Hid (Below wr.heap.size wr W2) := by rw [← hW2]; exact bAlloc (Below.refl _ _) _
          have M0 : Hid (NewInts wr.heap.size W2 (.slice (some ⟨wr.heap.size, 0, none⟩) 0 0) []) := by rw [← hW2]; exact newInts_alloc wr [] (Nat.le_refl _) (by simp)
          clear hW2 y1
          have WO : Hid (NewInts w1.heap.size wr (.slice ao k co) (natI (gradeTo d k))) := HN.out
          clear HN
          obtain ⟨L0, hL0⟩ : ∃ x, x = gradeTo d k := ⟨_, rfl⟩
          have HL0 : Hid (L0 = gradeTo d k) := hL0
          rw [← hL0] at IO ZL WO
          have L0L : Hid (L0.length = k) := by show _ = _; rw [hL0, gradeTo_len]
          have L0B : Hid (∀ j, j < k → L0.getD j 0 < d.length) := fun j hj => by rw [hL0]; have := gradeTo_lt (d := d) hj; omega
          clear hL0
          generalize hwo : wr = wo at *
          clear hwo
          go_loopw [6, 7, 8] (fun q pt j w' => ∃ m : Nat, m ≤ k ∧ j = .int .i64 (m : Int) ∧ pt = .bool (insTo d k L0 m).1 ∧ NewInts wo.heap.size w' q (natI (insTo d k L0 m).2) ∧ Below wo.heap.size wo w') (fun _ _ j _ => k - (intOf j).toNat)
          case atStart => exact ⟨0, by omega, rfl, rfl, M0.out, B2.out⟩
          case round =>
            obtain ⟨m, hm, rfl, rfl, hN, hB⟩ := hrel
            have HN : Hid (NewInts wo.heap.size wr u6 (natI (insTo d k L0 m).2)) := hN
            have HBI : Hid (Below wo.heap.size wo wr) := hB
            have XI : Hid (Box wr w.heap.size (.slice a s.length c) (.slice b d.length f) 26) := X.out.keep hB
            have NL : Hid ((natI (insTo d k L0 m).2).length ≤ 600) := by have := insTo_len d k L0 m; show _ ≤ _; rw [natI_len]; omega
            clear hN hB
            have y1 := XI.out.c1
            by_cases hlm : (m : Int) < (k : Int)
            · have Lm : m < k := by omega
              obtain ⟨p1, o1, e1, hp1, t1⟩ := (DR.out.keep HBI.out).at L
              subst e1
              obtain ⟨x, hx⟩ : ∃ x : Nat, x = L0.getD m 0 := ⟨_, rfl⟩
              have hxd : x < d.length := by rw [hx]; exact L0B.out m Lm
              obtain ⟨_, _, e2, hp2, t2⟩ := (DR.out.keep HBI.out).at hxd
              cases e2
              obtain ⟨p3, o3, e3, hp3, t3⟩ := (IO.out.keep HBI.out).at (k := m) (by rw [ZL.out]; exact Lm)
              subst e3
              rw [natI_at (by rw [L0L.out]; exact Lm), ← hx] at t3
              have hxi : (x : Int) < (d.length : Int) := by omega
              have HX : Hid (x = L0.getD m 0) := hx
              have T3 : Hid (wr.cell? ⟨p3, o3 + m, none⟩ = some (.int .i64 (x : Int))) := t3
              have HP3 : Hid (p3 < wo.heap.size) := by
                obtain ⟨_, _, e4, hp4, _⟩ := IO.out.at (k := m) (by rw [ZL.out]; exact Lm)
                cases e4
                exact hp4
              clear hx hp1 hp2 hp3
              cases hp : (insTo d k L0 m).1
              · by_cases hq : d.getD k 0 < d.getD x 0
                · have EI : Hid (insTo d k L0 (m + 1) = (true, (insTo d k L0 m).2 ++ [k] ++ [x])) := by show _ = _; rw [HX.out] at hq ⊢; exact insTo_put hp hq
                  have hdec : decide (d.getD k 0 < d.getD x 0) = true := by simpa using hq
                  clear hp
                  generalize d.getD k 0 = dk at *
                  generalize d.getD x 0 = dx at *
                  generalize hIL : (insTo d k L0 m).2 = IL at *
                  clear hIL
                  go_wp2_with fail
                  go_quiet (fail)
                  obtain ⟨a', c', w5, hr1, n1, b1⟩ := grow1 (k : Int) (HN.out.keep (bDrewN (Below.refl _ _) nq)) (Nat.le_trans HBI.out.size (by simp)) (by have := NL.out; omega)
                  have R1' : Hid (_ = _) := hr1
                  have B5 : Hid (Below wo.heap.size wr w5) := (bDrewN (Below.refl _ _) nq : Below wr.heap.size wr _).mono HBI.out.size |>.trans b1
                  have t5 : w5.cell? ⟨p3, o3 + m, none⟩ = some (.int .i64 (x : Int)) := (B5.out.cell (p := ⟨p3, o3 + m, none⟩) HP3.out).trans T3.out
                  obtain ⟨a6, c6, w6, hr2, n2, b2⟩ := grow1 (x : Int) n1 (Nat.le_trans HBI.out.size B5.out.size) (by have := NL.out; simp; omega)
                  have R2' : Hid (_ = _) := hr2
                  have N2 : Hid (NewInts wo.heap.size w6 (.slice a6 ((natI IL ++ [(k : Int)]).length + 1) c6) (natI IL ++ [(k : Int)] ++ [(x : Int)])) := n2
                  have B6 : Hid (Below wo.heap.size wr w6) := B5.out.trans b2
                  clear hr1 hr2 n1 n2 b1 b2
                  generalize (natI IL).length + 1 = LL1 at *
                  generalize (natI IL ++ [(k : Int)]).length + 1 = LL2 at *
                  go_wp2_with (at_builtin; first | (refine wpList_append_ty rfl _ _ 22 22 rfl _ _ _ rfl rfl R1'.out ?_) | (refine wpList_append_ty rfl _ _ 22 22 rfl _ _ _ rfl rfl R2'.out ?_))
                  go_roundw
                  case rel => exact ⟨m + 1, by omega, by go_num, by rw [EI.out], by rw [EI.out]; show NewInts _ _ _ (natI (IL ++ [k] ++ [x])); rw [natI_app, natI_app]; exact N2.out, HBI.out.trans B6.out⟩
                  case measure => simp [intOf]; omega
                · have EI : Hid (insTo d k L0 (m + 1) = (false, (insTo d k L0 m).2 ++ [x])) := by show _ = _; rw [HX.out] at hq ⊢; rw [insTo_on (fun q => hq q.2), hp]
                  have hdec : decide (d.getD k 0 < d.getD x 0) = false := by simpa using hq
                  clear hp
                  generalize d.getD k 0 = dk at *
                  generalize d.getD x 0 = dx at *
                  generalize hIL : (insTo d k L0 m).2 = IL at *
                  clear hIL
                  go_wp2_with fail
                  go_quiet (fail)
                  obtain ⟨a', c', w5, hr1, n1, b1⟩ := grow1 (x : Int) (HN.out.keep (bDrewN (Below.refl _ _) nq)) (Nat.le_trans HBI.out.size (by simp)) (by have := NL.out; omega)
                  have R1' : Hid (_ = _) := hr1
                  have N1 : Hid (NewInts wo.heap.size w5 (.slice a' ((natI IL).length + 1) c') (natI IL ++ [(x : Int)])) := n1
                  have B5 : Hid (Below wo.heap.size wr w5) := (bDrewN (Below.refl _ _) nq : Below wr.heap.size wr _).mono HBI.out.size |>.trans b1
                  clear hr1 n1 b1
                  generalize (natI IL).length + 1 = LL1 at *
                  go_wp2_with (at_builtin; refine wpList_append_ty rfl _ _ 22 22 rfl _ _ _ rfl rfl R1'.out ?_)
                  go_roundw
                  case rel => exact ⟨m + 1, by omega, by go_num, by rw [EI.out], by rw [EI.out]; show NewInts _ _ _ (natI (IL ++ [x])); rw [natI_app]; exact N1.out, HBI.out.trans B5.out⟩
                  case measure => simp [intOf]; omega
              · have EI : Hid (insTo d k L0 (m + 1) = (true, (insTo d k L0 m).2 ++ [x])) := by show _ = _; rw [HX.out, insTo_on (fun q => by rw [hp] at q; cases q.1), hp]
                clear hp
                generalize hIL : (insTo d k L0 m).2 = IL at *
                clear hIL
                go_wp2_with fail
                go_quiet (fail)
                obtain ⟨a', c', w5, hr1, n1, b1⟩ := grow1 (x : Int) (HN.out.keep (bDrewN (Below.refl _ _) nq)) (Nat.le_trans HBI.out.size (by simp)) (by have := NL.out; omega)
                have R1' : Hid (_ = _) := hr1
                have N1 : Hid (NewInts wo.heap.size w5 (.slice a' ((natI IL).length + 1) c') (natI IL ++ [(x : Int)])) := n1
                have B5 : Hid (Below wo.heap.size wr w5) := (bDrewN (Below.refl _ _) nq : Below wr.heap.size wr _).mono HBI.out.size |>.trans b1
                clear hr1 n1 b1
                generalize (natI IL).length + 1 = LL1 at *
                go_wp2_with (at_builtin; refine wpList_append_ty rfl _ _ 22 22 rfl _ _ _ rfl rfl R1'.out ?_)
                go_roundw
                case rel => exact ⟨m + 1, by omega, by go_num, by rw [EI.out], by rw [EI.out]; show NewInts _ _ _ (natI (IL ++ [x])); rw [natI_app]; exact N1.out, HBI.out.trans B5.out⟩
                case measure => simp [intOf]; omega
            · obtain rfl : m = k := by omega
              have hkI : (m : Int) ≤ 300 := by omega
              cases hp : (insTo d m L0 m).1
              · have EA : Hid (gradeTo d (m + 1) = (insTo d m L0 m).2 ++ [m]) := by
                  show insAll d m (gradeTo d m) = _
                  rw [← HL0.out]
                  unfold insAll
                  rw [L0L.out, if_pos hp]
                clear hp
                generalize hIL : (insTo d m L0 m).2 = IL at *
                clear hIL
                obtain ⟨a', c', w5, hr1, n1, b1⟩ := grow1 (m : Int) HN.out HBI.out.size (by have := NL.out; omega)
                have R1' : Hid (_ = _) := hr1
                have N1 : Hid (NewInts wo.heap.size w5 (.slice a' ((natI IL).length + 1) c') (natI IL ++ [(m : Int)])) := n1
                have B5 : Hid (Below wo.heap.size wo w5) := HBI.out.trans b1
                clear hr1 n1 b1
                generalize (natI IL).length + 1 = LL1 at *
                go_wp2_with (at_builtin; refine wpList_append_ty rfl _ _ 22 22 rfl _ _ _ rfl rfl R1'.out ?_)
                go_roundw
                case rel => exact ⟨m + 1, by omega, by go_num, by rw [EA.out, natI_app]; exact newInts_down N1.out SIX.out, HB.out.trans (B5.out.mono SIX.out)⟩
                case measure => simp [intOf]; omega
              · have EA : Hid (gradeTo d (m + 1) = (insTo d m L0 m).2) := by
                  show insAll d m (gradeTo d m) = _
                  rw [← HL0.out]
                  unfold insAll
                  rw [L0L.out, if_neg (by rw [hp]; simp)]
                clear hp
                go_wp2
                go_roundw
                case rel => exact ⟨m + 1, by omega, by go_num, by rw [EA.out]; exact newInts_down HN.out SIX.out, HB.out.trans (HBI.out.mono SIX.out)⟩
                case measure => simp [intOf]; omega
        · obtain rfl : k = d.length := by omega
          have R : Hid (Box wr (w.heap.size + 1) (.slice none 0 0) (.slice none 0 0) 26) := R1.out.keep HB.out
          have HV : Hid (Calls Try.prog 13 #[.slice ao d.length co] wr fun e w' => ∃ v, e = .returned v ∧ Arr wr.heap.size w'.heap.size w' v [(d.length : Int)] (natI (gradeTo d d.length)) ∧ Below wr.heap.size wr w') := by
            have q := vector_spec co IO.out (by rw [ZL.out]; omega)
            rw [ZL.out] at q
            exact q
          go_wp2_with fail
          refine HV.out.mono ?_
          rintro r w3 ⟨v3, rfl, hA, hb⟩
          obtain ⟨va, vc, vb, ve, rfl, _, _, _, _⟩ := hA.arrI
          rw [ZL.out]
          have A3 : Hid (Arr wr.heap.size w3.heap.size w3 (.agg #[.slice va 1 vc, .slice vb d.length ve]) [(d.length : Int)] (natI (gradeTo d d.length))) := by rw [ZL.out] at hA; exact hA
          have R3 : Hid (Box w3 (w.heap.size + 1) (.slice none 0 0) (.slice none 0 0) 26) := R.out.keep hb
          have B3 : Hid (Below w.heap.size w w3) := bTrans (bTrans HB1.out HB.out) hb
          have LR : Hid (w.heap.size + 1 < wr.heap.size) := R.out.lt
          have S3 : Hid (wr.heap.size ≤ w3.heap.size) := hb.size
          have HR : Hid (((w3.setCell ⟨w.heap.size + 1, 0, none⟩ (.slice va 1 vc)).setCell ⟨w.heap.size + 1, 1, none⟩ (.slice vb d.length ve)).heap[w.heap.size + 1]? = some (.cells #[.slice va 1 vc, .slice vb d.length ve] 26 (0, 0))) := arr_stored R3.out
          have r0 := R3.out.c0
          have r1 := R3.out.c1
          have f0 : w3.frozen? ⟨w.heap.size + 1, 0, none⟩ = false := free_at R3.out 0
          have f1 : w3.frozen? ⟨w.heap.size + 1, 1, none⟩ = false := free_at R3.out 1
          clear hA hb
          go_wp2
          refine bodyPost_ret (results_arr_tmp Try.results5 _ _ (w.heap.size + 1) _ _ rfl HR.out) rfl ?_
          refine ⟨_, rfl, ?_, below_setCell (below_setCell B3.out (by omega) _ _) (by omega) _ _⟩
          have l1 := LR.out
          have l2 := S3.out
          exact ((A3.out.setCell (by omega) _ _).setCell (by omega) _ _).mono (by omega) (by simp only [size_setCell]; omega)
    · have ER : gradeR s d = (4, [], []) := by unfold gradeR gradeC; rw [if_pos ho, if_neg hl]; exact mkR_bad (by decide) _ _
      have hlb : ((s.length : Int) != 1) = true := by simp; omega
      rw [ER]
      clear ER ho hl
      go_enter Try.func5, Try.ntmps5
      go_wp2_with fail
      refine (arrOk_spec (H.out.keep (bAlloc (bAlloc (Below.refl _ _) _) _)) HD.out).mono ?_
      rintro r w1 ⟨rfl, hb⟩
      have HB1 : Hid (Below w.heap.size w w1) := bTrans (bAlloc (bAlloc (Below.refl _ _) _) _) hb
      have X1 : Hid (Box w1 w.heap.size (.slice a s.length c) (.slice b d.length f) 26) := QX.out.keep hb
      have R1 : Hid (Box w1 (w.heap.size + 1) (.slice none 0 0) (.slice none 0 0) 26) := QR.out.keep hb
      rw [HO.out]
      have x0 := X1.out.c0
      have x1 := X1.out.c1
      clear hb QX QR
      have HR : Hid (((w1.setCell ⟨w.heap.size + 1, 0, none⟩ (.slice none 0 0)).setCell ⟨w.heap.size + 1, 1, none⟩ (.slice none 0 0)).heap[w.heap.size + 1]? = some (.cells #[.slice none 0 0, .slice none 0 0] 26 (0, 0))) := arr_stored R1.out
      have r0 := R1.out.c0
      have r1 := R1.out.c1
      have f0 : w1.frozen? ⟨w.heap.size + 1, 0, none⟩ = false := free_at R1.out 0
      have f1 : w1.frozen? ⟨w.heap.size + 1, 1, none⟩ = false := free_at R1.out 1
      go_wp2
      refine bodyPost_ret (results_arr_tmp Try.results5 _ _ (w.heap.size + 1) _ _ rfl HR.out) rfl ?_
      exact ⟨_, rfl, arr_zero _ _ _, below_setCell (below_setCell HB1.out (by omega) _ _) (by omega) _ _⟩
  · have HO : Hid (arrOk s d = false) := by show _ = _; simpa using ho
    have ER : gradeR s d = (1, [], []) := by unfold gradeR gradeC; rw [if_neg ho]; exact mkR_bad (by decide) _ _
    rw [ER]
    clear ER ho
    go_enter Try.func5, Try.ntmps5
    go_wp2_with fail
    refine (arrOk_spec (H.out.keep (bAlloc (bAlloc (Below.refl _ _) _) _)) HD.out).mono ?_
    rintro r w1 ⟨rfl, hb⟩
    have HB1 : Hid (Below w.heap.size w w1) := bTrans (bAlloc (bAlloc (Below.refl _ _) _) _) hb
    have R1 : Hid (Box w1 (w.heap.size + 1) (.slice none 0 0) (.slice none 0 0) 26) := QR.out.keep hb
    rw [HO.out]
    clear hb QX QR
    have HR : Hid (((w1.setCell ⟨w.heap.size + 1, 0, none⟩ (.slice none 0 0)).setCell ⟨w.heap.size + 1, 1, none⟩ (.slice none 0 0)).heap[w.heap.size + 1]? = some (.cells #[.slice none 0 0, .slice none 0 0] 26 (0, 0))) := arr_stored R1.out
    have r0 := R1.out.c0
    have r1 := R1.out.c1
    have f0 : w1.frozen? ⟨w.heap.size + 1, 0, none⟩ = false := free_at R1.out 0
    have f1 : w1.frozen? ⟨w.heap.size + 1, 1, none⟩ = false := free_at R1.out 1
    go_wp2
    refine bodyPost_ret (results_arr_tmp Try.results5 _ _ (w.heap.size + 1) _ _ rfl HR.out) rfl ?_
    exact ⟨_, rfl, arr_zero _ _ _, below_setCell (below_setCell HB1.out (by omega) _ _) (by omega) _ _⟩
end Go.Proofs.Ythjjjnapcbkhjab
