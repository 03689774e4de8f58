/-
  Walks: the specification's Turn.
-/
import Derived.Test.YtfmheanmkfdjnaoRowsO
import Derived.Test.YtfmheanmkfdjnaoSpecMake1
import Derived.Test.YtfmheanmkfdjnaoSpecCopy
namespace Go.Proofs.Ytfmheanmkfdjnao
open Go.RowKit
set_option linter.unusedVariables false
set_option linter.unusedSimpArgs false
theorem flat2_odd (x y : Nat → List Int) {k i : Nat} (h : i < k) : ((List.range k).flatMap (fun i => [x i, y i])).getD (2 * i + 1) [] = y i := by
  induction k with
  | zero => omega
  | succ k ih =>
    have hl : ((List.range k).flatMap (fun i => [x i, y i])).length = 2 * k := flat2_length k _ (fun _ => rfl)
    rw [List.range_succ, List.flatMap_append, List.getD_eq_getElem?_getD]
    by_cases e : i = k
    · subst e
      rw [List.getElem?_append_right (by rw [hl]; omega), hl, show 2 * i + 1 - 2 * i = 1 from by omega]
      simp
    · rw [List.getElem?_append_left (by rw [hl]; omega), ← List.getD_eq_getElem?_getD]
      exact ih (by omega)
theorem rowsF_odd {s d : List Int} (ho : arrOk s d = true) (hs : s ≠ []) {i : Nat} (hi : i < rowsN s) : (rowsF s d).getD (2 * i + 1) [] = rowAt s d i := by
  unfold rowsF
  rw [if_pos ⟨ho, hs⟩]
  exact flat2_odd (fun _ => s.drop 1) (fun i => (d.drop (i * (sizeV (s.drop 1)).toNat)).take (sizeV (s.drop 1)).toNat) hi
theorem flat_bound (n m : Nat) (f : Nat → List Int) (h : ∀ i, (f i).length ≤ m) : ((List.range n).flatMap f).length ≤ n * m := by
  induction n with
  | zero => simp
  | succ n ih =>
    rw [List.range_succ, List.flatMap_append, List.length_append]
    have := h n
    simp only [List.flatMap_cons, List.flatMap_nil, List.append_nil]
    rw [Nat.succ_mul]
    omega
theorem pick_bound (s d : List Int) (idx : Nat → Nat) {n : Nat} (hn : n ≤ 300) : (catF (pickF (rowsF s d) idx n) n).length ≤ 1000000 := by
  rw [catF_pick]
  have := flat_bound n 300 (fun i => (rowsF s d).getD (2 * idx i + 1) []) (fun i => rowsF_each s d _)
  have : n * 300 ≤ 300 * 300 := Nat.mul_le_mul_right _ hn
  omega
theorem pick_rows {s d : List Int} (ho : arrOk s d = true) (hs : s ≠ []) {idx : Nat → Nat} {n : Nat} (h : ∀ i, i < n → idx i < rowsN s) : catF (pickF (rowsF s d) idx n) n = (List.range n).flatMap (fun i => rowAt s d (idx i)) := by
  rw [catF_pick, List.flatMap_def, List.flatMap_def]
  congr 1
  apply List.map_congr_left
  intro i hi
  exact rowsF_odd ho hs (h i (by simpa using hi))
theorem rowsN_bd {s d : List Int} (ho : arrOk s d = true) : rowsN s ≤ 300 ∧ s.getD 0 0 = (rowsN s : Int) := by
  have := head_bd ho
  unfold rowsN
  omega
theorem cons_eta {s : List Int} (h : s ≠ []) : s.getD 0 0 :: s.drop 1 = s := by
  cases s with
  | nil => exact absurd rfl h
  | cons x l => rfl
theorem l3rows_ne {s d : List Int} {w : World} {v : Value} (h : ArrI w v s d) (ho : arrOk s d = true) (hs : s ≠ []) :
    Calls Try.prog 50 #[v] w fun e w' => ∃ v', e = .returned v' ∧ Arrs w.heap.size w'.heap.size w' v' (rowsF s d) ∧ Below w.heap.size w w' := by
  cases s with
  | nil => exact absurd rfl hs
  | cons x l => exact l3rows_spec h ho
theorem l3rows_capne {s d : List Int} {w : World} {v : Value} (h : ArrI w v s d) (ho : arrOk s d = true) (hs : s ≠ []) :
    Calls Try.prog 50 #[v] w fun e w' => ∃ v', e = .returned v' ∧ Arrs w.heap.size w'.heap.size w' v' (rowsF s d) ∧ Below w.heap.size w w' ∧ CapOk v' := by
  cases s with
  | nil => exact absurd rfl hs
  | cons x l => exact l3rows_cap h ho
theorem tail_cut_ne {w : World} {a : Option Addr} {s : List Int} {c : Nat} (h : Ints w a s) (hs : s ≠ []) (hc : s.length ≤ c) :
    ∃ tl ct, (∀ W, (Instr.slice 22 (.slice a s.length c) (some (.int .i64 1)) none none).run Try.prog W = .ok (.slice tl (s.drop 1).length ct) W) ∧ IntsI w (.slice tl (s.drop 1).length ct) (s.drop 1) := by
  cases s with
  | nil => exact absurd rfl hs
  | cons x l => exact tail_cut h hc
set_option maxRecDepth 20000 in
set_option maxHeartbeats 4000000 in
/-- Turn. -/
theorem turn_spec {s d : List Int} {w : World} {v : Value} (h : ArrI w v s d) (hs : s.length ≤ 1048576) (hd : d.length ≤ 1048576) :
    Calls Try.prog 22 #[v] w fun e w' => ∃ v', e = .returned (.tuple #[v', .int .i64 (turnR s d).1]) ∧ Arr w.heap.size w'.heap.size w' v' (turnR s d).2.1 (turnR s d).2.2 ∧ Below w.heap.size w w' := by
  have H : Hid (ArrI w v s d) := h
  obtain ⟨a, c, b, f, rfl, h1, h2, g1, _⟩ := h
  have HS : Hid (s.length ≤ 1048576) := hs
  have HD : Hid (d.length ≤ 1048576) := hd
  by_cases ho : arrOk s d = true
  · have HO : Hid (arrOk s d = true) := ho
    by_cases hs0 : s = []
    · subst hs0
      have ER : turnR [] d = (0, [], d) := by unfold turnR turnD; rw [okC_good ho, if_pos rfl]; rfl
      rw [ER]
      clear ER ho h1 h2 hs hd g1
      go_enter Try.func22, Try.ntmps22
      go_wp2_with fail
      refine (arrOk_spec (H.out.keep (bAlloc (bAlloc (Below.refl _ _) _) _)) HD.out).mono ?_
      rintro r w1 ⟨rfl, hb⟩
      have HB1 : Hid (Below w.heap.size w w1) := bTrans (bAlloc (bAlloc (Below.refl _ _) _) _) hb
      have X1 : Hid (Box w1 w.heap.size (.slice a 0 c) (.slice b d.length f) 26) := ((box_new w _ _ _).keep (bAlloc (Below.refl _ _) _)).keep hb
      have Y1 : Hid (Box w1 (w.heap.size + 1) (.slice none 0 0) (.slice none 0 0) 26) := (box_new2 w _ _ _ _).keep hb
      have x0 := X1.out.c0
      have x1 := X1.out.c1
      have L1 : Hid (w.heap.size + 1 < w1.heap.size) := Y1.out.lt
      clear hb
      rw [HO.out]
      go_wp2_with fail
      refine (copy_spec (H.out.keep HB1.out) HS.out HD.out).mono ?_
      rintro r w2 ⟨v', rfl, ha, hb⟩
      obtain ⟨a', c', b', f', rfl, _, _, _, _⟩ := ha.arrI
      have HA : Hid (Arr w1.heap.size w2.heap.size w2 (.agg #[.slice a' 0 c', .slice b' d.length f']) [] d) := ha
      have HB2 : Hid (Below w.heap.size w w2) := bTrans HB1.out hb
      have Y2 : Hid (Box w2 (w.heap.size + 1) (.slice none 0 0) (.slice none 0 0) 26) := Y1.out.keep hb
      clear ha hb x0 x1
      simp only [List.length_nil]
      have y0 := Y2.out.c0
      have y1 := Y2.out.c1
      have f0 : w2.frozen? ⟨w.heap.size + 1, 0, none⟩ = false := free_at Y2.out 0
      have f1 : w2.frozen? ⟨w.heap.size + 1, 1, none⟩ = false := free_at Y2.out 1
      have HR : Hid (((w2.setCell ⟨w.heap.size + 1, 0, none⟩ (.slice a' 0 c')).setCell ⟨w.heap.size + 1, 1, none⟩ (.slice b' d.length f')).heap[w.heap.size + 1]? = some (.cells #[.slice a' 0 c', .slice b' d.length f'] 26 (0, 0))) := arr_stored Y2.out
      go_wp2
      refine bodyPost_ret (results_arr_tmp Try.results22 _ _ (w.heap.size + 1) _ _ rfl HR.out) rfl ?_
      refine ⟨_, rfl, ?_, below_setCell (below_setCell HB2.out (by omega) _ _) (by omega) _ _⟩
      have L := L1.out
      exact ((HA.out.setCell L _ _).setCell L _ _).mono (by omega) (by simp only [size_setCell]; omega)
    · have HS0 : Hid (s ≠ []) := hs0
      have n1 : ((s.length : Int) == 0) = false := by
        have := List.length_pos_iff.2 hs0
        simp; omega
      obtain ⟨e1, e2⟩ := rowsN_bd ho
      obtain ⟨N, hN⟩ : ∃ N, N = rowsN s := ⟨_, rfl⟩
      have hn : N ≤ 300 := by omega
      have HF : Hid ((rowsF s d).length = 2 * N) := by show _ = _; rw [rowsF_length, if_pos ⟨ho, hs0⟩, hN]; rfl
      have HC : Hid (catF (pickF (rowsF s d) (fun i => N - 1 - i) N) N = turnD s d) := by
        show _ = _
        rw [pick_rows ho hs0 (fun i hi => by omega)]
        unfold turnD
        rw [if_neg hs0, ← hN]
      have HCB : Hid ((catF (pickF (rowsF s d) (fun i => N - 1 - i) N) N).length ≤ 1000000) := pick_bound _ _ _ hn
      have ER : turnR s d = (0, s, turnD s d) := by unfold turnR; rw [okC_good ho]; rfl
      have HL3 : Hid (∀ W, Below w.heap.size w W → Calls Try.prog 50 #[.agg #[.slice a s.length c, .slice b d.length f]] W fun e w' => ∃ v', e = .returned v' ∧ Arrs W.heap.size w'.heap.size w' v' (rowsF s d) ∧ Below W.heap.size W w') := fun W hb => l3rows_ne (H.out.keep hb) ho hs0
      obtain ⟨tl, ct, hcut, hti⟩ := tail_cut_ne h1 hs0 g1
      have ETA : Hid ((N : Int) :: s.drop 1 = s) := by show _ = _; rw [hN, ← e2]; exact cons_eta hs0
      have HTL : Hid ((s.drop 1).length ≤ 1000000) := by
        have := (sizeV_ok (arrOk_shape ho)).1
        show _ ≤ _; simp; omega
      generalize s.drop 1 = t at *
      have HTI : Hid (IntsI w (.slice tl t.length ct) t) := hti
      rw [ER]
      clear ER ho h1 h2 hs hd g1 hti hs0 e1 e2 hN
      have HA0 : Hid (∀ W u F, F = pickF (rowsF s d) (fun i => N - 1 - i) N → ArrsI W u F → IntsI W (.slice tl t.length ct) t → Calls Try.prog 51 #[u, .slice tl t.length ct] W fun e w' => ∃ v', e = .returned v' ∧ Arr W.heap.size w'.heap.size w' v' s (turnD s d) ∧ Below W.heap.size W w') := by
        intro W u F hF h1 h2
        subst hF
        have := rows5_spec h1 h2 (pickF_length _ _ _) (by omega) HTL.out HCB.out
        rw [ETA.out, HC.out] at this
        exact this
      clear HC
      generalize turnD s d = D at *
      go_enter Try.func22, Try.ntmps22
      go_wp2_with fail
      refine (arrOk_spec (H.out.keep (bAlloc (bAlloc (Below.refl _ _) _) _)) HD.out).mono ?_
      rintro r w1 ⟨rfl, hb⟩
      have HB1 : Hid (Below w.heap.size w w1) := bTrans (bAlloc (bAlloc (Below.refl _ _) _) _) hb
      have X1 : Hid (Box w1 w.heap.size (.slice a s.length c) (.slice b d.length f) 26) := ((box_new w _ _ _).keep (bAlloc (Below.refl _ _) _)).keep hb
      have Y1 : Hid (Box w1 (w.heap.size + 1) (.slice none 0 0) (.slice none 0 0) 26) := (box_new2 w _ _ _ _).keep hb
      have x0 := X1.out.c0
      have x1 := X1.out.c1
      have L1 : Hid (w.heap.size + 1 < w1.heap.size) := Y1.out.lt
      clear hb
      rw [HO.out]
      go_wp2_with fail
      refine (HL3.out _ HB1.out).mono ?_
      rintro r w2 ⟨v2, rfl, ha, hb⟩
      have AR : Hid (ArrsI w2 v2 (rowsF s d)) := ha.arrsI
      obtain ⟨ra, rn, rc, rfl, e5, _⟩ := ha.arrsI
      obtain rfl : rn = N := by have := HF.out; omega
      have HB2 : Hid (Below w1.heap.size w1 w2) := hb
      have X2 : Hid (Box w2 w.heap.size (.slice a s.length c) (.slice b d.length f) 26) := X1.out.keep hb
      have Y2 : Hid (Box w2 (w.heap.size + 1) (.slice none 0 0) (.slice none 0 0) 26) := Y1.out.keep hb
      clear ha hb x0 x1 e5
      go_wp2
      generalize hW : w2.alloc (.cells #[] 26) = W3
      have L3 : Hid (ListAt w2 W3 (.slice (some ⟨w2.heap.size, 0, none⟩) 0 0) 0 [] (pickF (rowsF s d) (fun i => rn - 1 - i) 0)) := by rw [← hW]; exact listAt_new w2
      clear hW
      go_loopw [5, 6] (fun u i w' => ∃ (k j : Nat) (z : Int) (ad : Option Addr) (cd : Nat) (xs : List Value), k + j = rn ∧ z = (j : Int) - 1 ∧ u = .slice ad k cd ∧ i = .int .i64 z ∧ ListAt w2 w' (.slice ad k cd) k xs (pickF (rowsF s d) (fun i => rn - 1 - i) k)) (fun _ i _ => (intOf i + 1).toNat)
      case atStart => exact ⟨0, rn, _, _, _, _, by omega, rfl, rfl, rfl, L3.out⟩
      case round =>
        obtain ⟨k, j, z, ad, cd, xs, hkj, hz, rfl, rfl, hL⟩ := hrel
        have LK : Hid (ListAt w2 wr (.slice ad k cd) k xs (pickF (rowsF s d) (fun i => rn - 1 - i) k)) := hL
        clear hL L3
        by_cases hj : 0 ≤ z
        · obtain ⟨J, rfl⟩ : ∃ J : Nat, z = (J : Int) := ⟨z.toNat, by omega⟩
          have hjn : (J : Int) < (rn : Int) := by omega
          obtain rfl : j = J + 1 := by omega
          clear hz
          obtain ⟨o, off, sx, sy, rfl, ho, p0, p1, i0, i1⟩ := AR.out.at (k := J) (by omega)
          have q0 : wr.cell? ⟨o, off + J * 2, none⟩ = some sx := (LK.out.below.cell (p := ⟨o, off + J * 2, none⟩) ho).trans p0
          have q1 : wr.cell? ⟨o, off + J * 2 + 1, none⟩ = some sy := (LK.out.below.cell (p := ⟨o, off + J * 2 + 1, none⟩) ho).trans p1
          obtain ⟨a7, c7, w7, hr7, hl7⟩ := LK.out.grow (by omega) i0 i1
          have R7 : Hid ((Builtin.append_ #[47, 47] 47 #[.slice ad k cd, .slice (some ⟨wr.heap.size, 0, none⟩) 1 1]).run Try.prog (wr.alloc (.cells #[sx, sy] 26)) = .ok (.slice a7 (k + 1) c7) w7) := hr7
          have L7 : Hid (ListAt w2 w7 (.slice a7 (k + 1) c7) (k + 1) (xs ++ [sx, sy]) (pickF (rowsF s d) (fun i => rn - 1 - i) (k + 1))) := by
            show ListAt _ _ _ _ _ _
            rw [pickF_succ, show rn - 1 - k = J from by omega]
            exact hl7
          obtain ⟨ax, cx, rfl, _, _⟩ := i0
          obtain ⟨ay, cy, rfl, _, _⟩ := i1
          clear hr7 hl7 p0 p1
          go_wp2_with (at_builtin; refine wpList_append_ty rfl _ _ 47 47 rfl _ _ _ rfl rfl R7.out ?_)
          go_roundw
          case rel => exact ⟨k + 1, J, _, _, _, _, by omega, rfl, rfl, by go_num, L7.out⟩
          case measure => simp [intOf]
        · obtain rfl : j = 0 := by omega
          obtain rfl : k = rn := by omega
          have BW : Hid (Below w1.heap.size w1 wr) := bTrans HB2.out LK.out.below
          have XR : Hid (Box wr w.heap.size (.slice a s.length c) (.slice b d.length f) 26) := X1.out.keep BW.out
          have YR : Hid (Box wr (w.heap.size + 1) (.slice none 0 0) (.slice none 0 0) 26) := Y1.out.keep BW.out
          have LA : Hid (ArrsI wr (.slice ad k cd) (pickF (rowsF s d) (fun i => k - 1 - i) k)) := LK.out.arrsI
          have x0 := XR.out.c0
          have x1 := XR.out.c1
          go_wp2_with fail
          refine (HA0.out _ _ _ rfl LA.out (HTI.out.keep (bTrans HB1.out BW.out))).mono ?_
          rintro r w8 ⟨v8, rfl, ha, hb⟩
          obtain ⟨a8, c8, b8, f8, rfl, _, _, _, _⟩ := ha.arrI
          have HA : Hid (Arr w1.heap.size w8.heap.size w8 (.agg #[.slice a8 s.length c8, .slice b8 D.length f8]) s D) := ha.mono BW.out.size (Nat.le_refl _)
          have Y8 : Hid (Box w8 (w.heap.size + 1) (.slice none 0 0) (.slice none 0 0) 26) := YR.out.keep hb
          have HB8 : Hid (Below w.heap.size w w8) := bTrans (bTrans HB1.out BW.out) hb
          clear ha hb x0 x1
          have y0 := Y8.out.c0
          have y1 := Y8.out.c1
          have f0 : w8.frozen? ⟨w.heap.size + 1, 0, none⟩ = false := free_at Y8.out 0
          have f1 : w8.frozen? ⟨w.heap.size + 1, 1, none⟩ = false := free_at Y8.out 1
          have HR : Hid (((w8.setCell ⟨w.heap.size + 1, 0, none⟩ (.slice a8 s.length c8)).setCell ⟨w.heap.size + 1, 1, none⟩ (.slice b8 D.length f8)).heap[w.heap.size + 1]? = some (.cells #[.slice a8 s.length c8, .slice b8 D.length f8] 26 (0, 0))) := arr_stored Y8.out
          go_wp2
          refine bodyPost_ret (results_arr_tmp Try.results22 _ _ (w.heap.size + 1) _ _ rfl HR.out) rfl ?_
          refine ⟨_, rfl, ?_, below_setCell (below_setCell HB8.out (by omega) _ _) (by omega) _ _⟩
          have L := L1.out
          exact ((HA.out.setCell L _ _).setCell L _ _).mono (by omega) (by simp only [size_setCell]; omega)
  · have HO : Hid (arrOk s d = false) := by show _ = _; simpa using ho
    have ER : turnR s d = (1, [], []) := by unfold turnR; rw [okC_bad ho]; rfl
    rw [ER]
    clear ER ho h1 h2 hs hd g1
    go_enter Try.func22, Try.ntmps22
    go_wp2_with fail
    refine (arrOk_spec (H.out.keep (bAlloc (bAlloc (Below.refl _ _) _) _)) HD.out).mono ?_
    rintro r w1 ⟨rfl, hb⟩
    have HB1 : Hid (Below w.heap.size w w1) := bTrans (bAlloc (bAlloc (Below.refl _ _) _) _) hb
    have X1 : Hid (Box w1 w.heap.size (.slice a s.length c) (.slice b d.length f) 26) := ((box_new w _ _ _).keep (bAlloc (Below.refl _ _) _)).keep hb
    have Y1 : Hid (Box w1 (w.heap.size + 1) (.slice none 0 0) (.slice none 0 0) 26) := (box_new2 w _ _ _ _).keep hb
    have x0 := X1.out.c0
    have x1 := X1.out.c1
    have L1 : Hid (w.heap.size + 1 < w1.heap.size) := Y1.out.lt
    clear hb
    rw [HO.out]
    have y0 := Y1.out.c0
    have y1 := Y1.out.c1
    have f0 : w1.frozen? ⟨w.heap.size + 1, 0, none⟩ = false := free_at Y1.out 0
    have f1 : w1.frozen? ⟨w.heap.size + 1, 1, none⟩ = false := free_at Y1.out 1
    have HR : Hid (((w1.setCell ⟨w.heap.size + 1, 0, none⟩ (.slice none 0 0)).setCell ⟨w.heap.size + 1, 1, none⟩ (.slice none 0 0)).heap[w.heap.size + 1]? = some (.cells #[.slice none 0 0, .slice none 0 0] 26 (0, 0))) := arr_stored Y1.out
    go_wp2
    refine bodyPost_ret (results_arr_tmp Try.results22 _ _ (w.heap.size + 1) _ _ rfl HR.out) rfl ?_
    refine ⟨_, rfl, ?_, below_setCell (below_setCell HB1.out (by omega) _ _) (by omega) _ _⟩
    exact arr_zero _ _ _
end Go.Proofs.Ytfmheanmkfdjnao
