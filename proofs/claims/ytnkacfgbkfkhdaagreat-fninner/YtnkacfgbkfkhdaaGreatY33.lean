/-
  Several texts, one behind the other: NeutralI, ImplRed5, ImplMeet.
-/
import Derived.Test.YtnkacfgbkfkhdaaGreatRows
import Derived.Test.YtnkacfgbkfkhdaaGreatY3
import Derived.WalkKit
import Derived.WalkSpells
import Derived.WalkLawsBesides
import Derived.Test.YtnkacfgbkfkhdaaGreatY31
import Derived.Test.YtnkacfgbkfkhdaaGreatY32
import Derived.Test.YtnkacfgbkfkhdaaGreatY26
import Derived.Test.YtnkacfgbkfkhdaaGreatY16
namespace Go.Proofs.YtnkacfgbkfkhdaaGreat
open Go.RowKit
set_option maxHeartbeats 400000 in
theorem neutral_impl (s : Int) (w : World) :
    Calls Tryz.prog 97 #[.int .i64 s] w fun e w' => e = .returned (.tuple #[.int .i64 (neu s).1, .bool (neu s).2]) ∧ w' = w := by
  go_enter Tryz.func97, Tryz.ntmps97
  go_wp2
  all_goals
    go_ret2
    refine ⟨?_, rfl⟩
    simp_all [neu]
end Go.Proofs.YtnkacfgbkfkhdaaGreat
namespace Go.Proofs.YtnkacfgbkfkhdaaGreat
open Go.RowKit
set_option linter.unusedVariables false
set_option linter.unusedSimpArgs false
/-- A row of which there is none. -/
def redN (g : Int) (t : List Int) : Int × List Int × List Int := reshapeR [(t.length : Int)] t [] [(neu g).1]
def reduceR (g : Int) (s d : List Int) : Int × List Int × List Int := if sign2 g = true ∧ arrOk s d = true then (if s = [] then (0, [], d) else if 0 < s.getD 0 0 then mkR (redL g (s.drop 1) (rowsD s d)).1 (s.drop 1) (redL g (s.drop 1) (rowsD s d)).2 else redN g (s.drop 1)) else (1, [], [])
set_option maxRecDepth 20000 in
set_option maxHeartbeats 4000000 in
/-- neutralRow. -/
theorem neutralRow_impl {g : Int} {t : List Int} {w : World} {u : Value} (h : IntsI w u t) (ht : t.length ≤ 1000) :
    Calls Tryz.prog 69 #[.int .i64 g, u] w fun r w' => ∃ v', r = .returned (.tuple #[v', .int .i64 (redN g t).1]) ∧ Arr w.heap.size w'.heap.size w' v' (redN g t).2.1 (redN g t).2.2 ∧ Below w.heap.size w w' := by
  have H : Hid (IntsI w u t) := h
  have HRS : Hid (∀ W v o', ArrI W v [(t.length : Int)] t → Ints W (some ⟨o', 0, none⟩) [(neu g).1] → Calls Tryz.prog 98 #[v, .agg #[.slice none 0 0, .slice (some ⟨o', 0, none⟩) 1 1]] W fun r w' => ∃ v', r = .returned (.tuple #[v', .int .i64 (redN g t).1]) ∧ Arr W.heap.size w'.heap.size w' v' (redN g t).2.1 (redN g t).2.2 ∧ Below W.heap.size W w') := fun W v o' hv hi => reshape_impl hv ⟨none, 0, _, 1, rfl, .inl rfl, hi, Nat.le_refl _, Nat.le_refl _⟩ (by simp) (by omega) (by simp) (by simp)
  have HNE : Hid (∀ W, Calls Tryz.prog 97 #[.int .i64 g] W fun e w' => e = .returned (.tuple #[.int .i64 (neu g).1, .bool (neu g).2]) ∧ w' = W) := neutral_impl g
  obtain ⟨a, c, rfl, _, _⟩ := h
  have HVC : Hid (∀ W, Below w.heap.size w W → Calls Tryz.prog 99 #[.slice a t.length c] W fun r w' => ∃ v', r = .returned v' ∧ Arr W.heap.size w'.heap.size w' v' [(t.length : Int)] t ∧ Below W.heap.size W w') := fun W hb => vecCopy_impl (H.out.keep hb) (by omega)
  generalize (neu g).1 = x at *
  generalize (neu g).2 = y at *
  generalize redN g t = RR at *
  obtain ⟨C, S, D⟩ := RR
  simp only at HRS ⊢
  clear ht
  go_enter Tryz.func69, Tryz.ntmps69
  go_wp2_with fail
  refine (HNE.out _).mono ?_
  rintro r w1 ⟨rfl, hw1⟩
  subst hw1
  go_wp2_with fail
  refine (HVC.out _ (bAlloc (Below.refl _ _) _)).mono ?_
  rintro r w2 ⟨v2, rfl, ha, hb⟩
  obtain ⟨xa, xc, ya, yc, rfl, _, _, _, _⟩ := ha.arrI
  have B2 : Hid (Below w.heap.size w w2) := bTrans (bAlloc (Below.refl _ _) _) hb
  have Y2 : Hid (Box w2 w.heap.size (.slice none 0 0) (.slice none 0 0) 26) := (box_new w _ _ _).keep hb
  have A2 : Hid (ArrI w2 (.agg #[.slice xa [(t.length : Int)].length xc, .slice ya t.length yc]) [(t.length : Int)] t) := ha.arrI
  clear ha hb
  have I2 : Hid (Ints (w2.alloc (.cells #[.int .i64 x] 3)) (some ⟨w2.heap.size, 0, none⟩) [x]) := ints_new w2 [x] 3
  go_wp2_with fail
  refine (HRS.out _ _ _ (A2.out.keep (bAlloc (Below.refl _ _) _)) I2.out).mono ?_
  rintro r w3 ⟨v3, rfl, ha, hb⟩
  obtain ⟨ua, uc, va, vc, rfl, _, _, _, _⟩ := ha.arrI
  have hb2 : Below w2.heap.size w2 w3 := bTrans (bAlloc (Below.refl _ _) _) hb
  have B3 : Hid (Below w.heap.size w w3) := bTrans B2.out hb2
  have Y3 : Hid (Box w3 w.heap.size (.slice none 0 0) (.slice none 0 0) 26) := Y2.out.keep hb2
  have A3 : Hid (Arr w2.heap.size w3.heap.size w3 (.agg #[.slice ua S.length uc, .slice va D.length vc]) S D) := ha.mono (by simp) (Nat.le_refl _)
  clear ha hb hb2
  have y3 := Y3.out.c0
  have y4 := Y3.out.c1
  have f0 := free_at Y3.out 0
  have f1 := free_at Y3.out 1
  have HRR : Hid (_ = _) := arr_stored (x' := .slice ua S.length uc) (y' := .slice va D.length vc) Y3.out
  go_wp2
  refine bodyPost_ret (results_arr_tmp Tryz.results69 _ _ w.heap.size _ _ rfl HRR.out) rfl ?_
  refine ⟨_, rfl, ?_, below_setCell (below_setCell B3.out (Nat.le_refl _) _ _) (Nat.le_refl _) _ _⟩
  have L := Y2.out.lt
  exact ((A3.out.setCell (by omega) _ _).setCell (by omega) _ _).mono (by omega) (by simp only [size_setCell]; omega)
/-- Behind the stores of an answer, in whichever order they were done. -/
theorem red0_end {w W : World} {N0 B : Nat} {x y : Value} {C : Int} {S D : List Int} (hB : Below N0 w W) (h1 : Box W (N0 + 1) (.slice none 0 0) (.slice none 0 0) 26) (h2 : W.heap[N0 + 2]? = some (.cells #[.int .i64 0] 3 (0, 0))) (ha : Arr B W.heap.size W (.agg #[x, y]) S D) (hN : N0 + 3 ≤ B) :
    (∀ V, V = (((W.setCell ⟨N0 + 1, 0, none⟩ x).setCell ⟨N0 + 1, 1, none⟩ y).setCell ⟨N0 + 1 + 1, 0, none⟩ (.int .i64 C)) ∨ V = (((W.setCell ⟨N0 + 1 + 1, 0, none⟩ (.int .i64 C)).setCell ⟨N0 + 1, 0, none⟩ x).setCell ⟨N0 + 1, 1, none⟩ y) →
      V.heap[N0 + 1]? = some (.cells #[x, y] 26 (0, 0)) ∧ V.cell? ⟨N0 + 1 + 1, 0, none⟩ = some (.int .i64 C) ∧ Arr N0 V.heap.size V (.agg #[x, y]) S D ∧ Below N0 w V) := by
  rintro V (rfl | rfl)
  · refine ⟨?_, ?_, ?_, ?_⟩
    · have q : Box ((W.setCell ⟨N0 + 1, 0, none⟩ x).setCell ⟨N0 + 1, 1, none⟩ y) (N0 + 1) x y 26 := arr_stored h1
      exact q.win (win_setCell _ (N0 + 1 + 1) 0 _) (.inl (by omega))
    · have q : ((W.setCell ⟨N0 + 1, 0, none⟩ x).setCell ⟨N0 + 1, 1, none⟩ y).heap[N0 + 1 + 1]? = some (.cells #[.int .i64 0] 3 (0, 0)) := by
        rw [heap_setCell_other _ _ _ _ (by show N0 + 1 + 1 ≠ N0 + 1; omega), heap_setCell_other _ _ _ _ (by show N0 + 1 + 1 ≠ N0 + 1; omega)]
        exact h2
      exact cell_at (heap_setCell_same _ (N0 + 1 + 1) 0 _ _ (.int .i64 C) q) rfl
    · exact (((ha.setCell (by omega) _ _).setCell (by omega) _ _).setCell (by omega) _ _).mono (by omega) (by simp only [size_setCell]; exact Nat.le_refl _)
    · exact below_setCell (below_setCell (below_setCell hB (by omega) _ _) (by omega) _ _) (by omega) _ _
  · have q0 := heap_setCell_same W (N0 + 1 + 1) 0 _ _ (.int .i64 C) h2
    have b1 : Box (W.setCell ⟨N0 + 1 + 1, 0, none⟩ (.int .i64 C)) (N0 + 1) (.slice none 0 0) (.slice none 0 0) 26 := h1.win (win_setCell _ (N0 + 1 + 1) 0 _) (.inl (by omega))
    refine ⟨arr_stored b1, ?_, ?_, ?_⟩
    · refine cell_at (cs := (#[Value.int .i64 0].set 0 (.int .i64 C))) (t := 3) (fr := (0, 0)) ?_ rfl
      rw [heap_setCell_other _ _ _ _ (by show N0 + 1 + 1 ≠ N0 + 1; omega), heap_setCell_other _ _ _ _ (by show N0 + 1 + 1 ≠ N0 + 1; omega)]
      exact q0
    · exact (((ha.setCell (by omega) _ _).setCell (by omega) _ _).setCell (by omega) _ _).mono (by omega) (by simp only [size_setCell]; exact Nat.le_refl _)
    · exact below_setCell (below_setCell (below_setCell hB (by omega) _ _) (by omega) _ _) (by omega) _ _
set_option maxRecDepth 20000 in
set_option maxHeartbeats 4000000 in
/-- reducing's closure, of an array without rows. -/
theorem reduce0_impl {g : Int} {t d : List Int} {w : World} {v : Value} {o : Nat} (h : ArrI w v (0 :: t) d) (ho : arrOk (0 :: t) d = true) (hg : w.cell? ⟨o, 0, none⟩ = some (.int .i64 g)) (hol : o < w.heap.size) :
    Calls Tryz.prog 68 #[v, .pointer (some ⟨o, 0, none⟩)] w fun r w' => ∃ v', r = .returned (.tuple #[v', .int .i64 (redN g t).1]) ∧ Arr w.heap.size w'.heap.size w' v' (redN g t).2.1 (redN g t).2.2 ∧ Below w.heap.size w w' := by
  have H : Hid (ArrI w v (0 :: t) d) := h
  obtain ⟨a, c, b, f, rfl, h1, _, g1, _⟩ := h
  have k1 := (sizeV_ok (arrOk_shape ho)).1
  simp at k1
  have HCO : Hid (∀ W q, Below w.heap.size w W → Box W q (.slice a (t.length + 1) c) (.slice b d.length f) 26 → Calls Tryz.prog 55 #[.func (.func 76) #[] #[.pointer (some ⟨q, 0, none⟩)]] W fun e w' => ∃ a' c', e = .returned (.slice a' 0 c') ∧ Below W.heap.size W w') := fun W q hb hB => by
    refine (collect_rows (H.out.keep hb) ho hB).mono ?_
    rintro e w' ⟨v, xs, rfl, hL⟩
    have e0 : rowsN (0 :: t) = 0 := rfl
    rw [e0] at hL
    rcases hL.own.2 with ⟨rfl, _⟩ | ⟨g', cap, cur, rfl, _⟩
    · exact ⟨_, _, rfl, hL.below⟩
    · exact ⟨_, _, rfl, hL.below⟩
  obtain ⟨tl, ct, hcut, hti⟩ := tail_cut h1 g1
  have HTI : Hid (IntsI w (.slice tl t.length ct) t) := hti
  have HNR : Hid (∀ W, Below w.heap.size w W → Calls Tryz.prog 69 #[.int .i64 g, .slice tl t.length ct] W fun r w' => ∃ v', r = .returned (.tuple #[v', .int .i64 (redN g t).1]) ∧ Arr W.heap.size w'.heap.size w' v' (redN g t).2.1 (redN g t).2.2 ∧ Below W.heap.size W w') := fun W hb => neutralRow_impl (HTI.out.keep hb) (by omega)
  have HCR : Hid (∀ W x y, x.oneCell' = true → y.oneCell' = true → Calls Tryz.prog 56 #[.agg #[x, y]] W fun e w' => e = .returned (.func (.func 76) #[] #[.pointer (some ⟨W.heap.size, 0, none⟩)]) ∧ w' = W.alloc (.cells #[x, y] 26)) := fun W x y hx hy => (callsIn_wide (n := 5)).1 (cutRows_in 5 x y W hx hy)
  generalize redN g t = RR at *
  obtain ⟨C, S, D⟩ := RR
  simp only at HNR ⊢
  have HGC : Hid (w.cell? ⟨o, 0, none⟩ = some (.int .i64 g) ∧ o < w.heap.size) := ⟨hg, hol⟩
  clear ho hti h1 g1 k1 hg hol
  go_enter Tryz.func68, Tryz.ntmps68
  go_wp2_with fail
  refine (HCR.out _ _ _ rfl rfl).mono ?_
  rintro rr w2 ⟨rfl, hw⟩
  have hsz2 : w2.heap.size = w.heap.size + 4 := by rw [hw]; simp
  have BK : Hid (w2.heap[w.heap.size + 1]? = some (.cells #[.slice none 0 0, .slice none 0 0] 26 (0, 0)) ∧ w2.heap[w.heap.size + 2]? = some (.cells #[.int .i64 0] 3 (0, 0)) ∧ w2.heap[w.heap.size + 3]? = some (.cells #[.slice a (t.length + 1) c, .slice b d.length f] 26 (0, 0))) := by rw [hw]; exact blocks4r w _ _ _ _
  have X2 : Hid (Box w2 w.heap.size (.slice a (t.length + 1) c) (.slice b d.length f) 26) := by rw [hw]; exact Box.keep (box_new w _ _ _) (bAlloc (bAlloc (bAlloc (Below.refl _ _) _) _) _)
  have B2 : Hid (Below w.heap.size w w2) := by rw [hw]; exact bAlloc (bAlloc (bAlloc (bAlloc (Below.refl _ _) _) _) _) _
  clear hw
  go_wp2_with fail
  refine (HCO.out w2 (w.heap.size + 3) B2.out BK.out.2.2).mono ?_
  rintro rr w3 ⟨a3, c3, rfl, hb3⟩
  have X3 : Hid (Box w3 w.heap.size (.slice a (t.length + 1) c) (.slice b d.length f) 26) := X2.out.keep hb3
  have Y3 : Hid (Box w3 (w.heap.size + 1) (.slice none 0 0) (.slice none 0 0) 26) := Box.keep (w := w2) BK.out.1 hb3
  have I3 : Hid (w3.heap[w.heap.size + 2]? = some (.cells #[.int .i64 0] 3 (0, 0))) := (hb3.block _ (by omega)).trans BK.out.2.1
  have B3 : Hid (Below w.heap.size w w3) := bTrans B2.out hb3
  have L3 : Hid (w.heap.size + 4 ≤ w3.heap.size) := by have := hb3.size; show _ ≤ _; omega
  clear hb3
  have x0 := X3.out.c0
  have g3 : w3.cell? ⟨o, 0, none⟩ = some (.int .i64 g) := (B3.out.cell (p := ⟨o, 0, none⟩) HGC.out.2).trans HGC.out.1
  go_wp2_with fail
  go_region_with (go_at_call 69; refine (HNR.out _ (B3.out.drew)).mono ?_; rintro r w4 ⟨v4, rfl, ha, hb⟩; obtain ⟨s1, d1, rfl, p1, p2, p3⟩ := ha; obtain ⟨ta, tc, rfl, _⟩ := p1.ints; obtain ⟨da, dc, rfl, _⟩ := p2.ints; have hb4 : Below w3.heap.size w3 w4 := bTrans ((Below.refl w3.heap.size w3).drew) hb; have B4 : Hid (Below w.heap.size w w4) := bTrans B3.out hb4; have Y4 : Hid (Box w4 (w.heap.size + 1) (.slice none 0 0) (.slice none 0 0) 26) := Y3.out.keep hb4; have I4 : Hid (w4.heap[w.heap.size + 2]? = some (.cells #[.int .i64 0] 3 (0, 0))) := (hb4.block _ (by have := L3.out; omega)).trans I3.out; have A4 : Hid (Arr w3.heap.size w4.heap.size w4 (.agg #[.slice ta S.length tc, .slice da D.length dc]) S D) := ⟨_, _, rfl, p1, p2, p3⟩; clear p1 p2 p3 hb hb4; have y3 := Y4.out.c0; have y4 := Y4.out.c1; have f0 := free_at Y4.out 0; have f1 := free_at Y4.out 1; have y5 : w4.cell? ⟨w.heap.size + 1 + 1, 0, none⟩ = some (.int .i64 0) := cell_at I4.out rfl; have f2 : w4.frozen? ⟨w.heap.size + 1 + 1, 0, none⟩ = false := free_at I4.out 0)
  all_goals
    go_wp2
    have L := L3.out
    first
      | (obtain ⟨k1, k2, k3, k4⟩ := red0_end (w := w) (C := C) B4.out Y4.out I4.out A4.out (by omega) _ (.inl rfl)
         refine bodyPost_ret (results_arr_int rfl _ _ (w.heap.size + 1) (w.heap.size + 1 + 1) _ _ _ rfl rfl k1 k2) rfl ?_
         exact ⟨_, rfl, k3, k4⟩)
      | (obtain ⟨k1, k2, k3, k4⟩ := red0_end (w := w) (C := C) B4.out Y4.out I4.out A4.out (by omega) _ (.inr rfl)
         refine bodyPost_ret (results_arr_int rfl _ _ (w.heap.size + 1) (w.heap.size + 1 + 1) _ _ _ rfl rfl k1 k2) rfl ?_
         exact ⟨_, rfl, k3, k4⟩)
theorem reduceR_bad {g : Int} {s d : List Int} (h : ¬ (sign2 g = true ∧ arrOk s d = true)) : reduceR g s d = (1, [], []) := by unfold reduceR; rw [if_neg h]
theorem reduceR_nil {g : Int} {d : List Int} (h : sign2 g = true ∧ arrOk [] d = true) : reduceR g [] d = (0, [], d) := by unfold reduceR; rw [if_pos h, if_pos rfl]
theorem reduceR_some {g n0 : Int} {t d : List Int} (h : sign2 g = true ∧ arrOk (n0 :: t) d = true) (hn : 0 < n0) : reduceR g (n0 :: t) d = ((redL g t (rowsD (n0 :: t) d)).1, (if (redL g t (rowsD (n0 :: t) d)).1 = 0 then t else []), (redL g t (rowsD (n0 :: t) d)).2) := by
  unfold reduceR
  rw [if_pos h, if_neg (by simp), if_pos (by simpa using hn)]
  show mkR (redL g t (rowsD (n0 :: t) d)).1 t (redL g t (rowsD (n0 :: t) d)).2 = _
  unfold mkR
  by_cases h0 : (redL g t (rowsD (n0 :: t) d)).1 = 0
  · rw [if_pos h0, if_pos h0, h0]
  · rw [if_neg h0, if_neg h0, redL_none h0]
theorem reduceR_none {g : Int} {t d : List Int} (h : sign2 g = true ∧ arrOk (0 :: t) d = true) : reduceR g (0 :: t) d = redN g t := by
  unfold reduceR
  rw [if_pos h, if_neg (by simp), if_neg (by simp)]
  rfl
theorem reducing2_impl (g : Int) (w : World) :
    Calls Tryz.prog 40 #[.int .i64 g] w fun r w' => r = .returned (.func (.func 68) #[] #[.pointer (some ⟨w.heap.size, 0, none⟩)]) ∧ w'.cell? ⟨w.heap.size, 0, none⟩ = some (.int .i64 g) ∧ Below w.heap.size w w' ∧ w.heap.size < w'.heap.size := by
  refine (reducing_impl g w).mono ?_
  rintro r w' ⟨rfl, rfl⟩
  exact ⟨rfl, cell_at (heap_alloc_new w _) rfl, bAlloc (Below.refl _ _) _, by simp⟩
set_option maxRecDepth 20000 in
set_option maxHeartbeats 4000000 in
/-- Reduce. -/
theorem reduce_impl {g : Int} {s d : List Int} {w : World} {v : Value} (h : ArrI w v s d) (hs : s.length ≤ 1048576) (hd : d.length ≤ 1048576) :
    Calls Tryz.prog 10 #[.int .i64 g, v] w fun r w' => ∃ v', r = .returned (.tuple #[v', .int .i64 (reduceR g s d).1]) ∧ Arr w.heap.size w'.heap.size w' v' (reduceR g s d).2.1 (reduceR g s d).2.2 ∧ Below w.heap.size w w' := by
  have H : Hid (ArrI w v s d) := h
  have HAL : Hid (∀ (W : World) (u : Value) (o : Nat), ArrI W u s d → W.cell? ⟨o, 0, none⟩ = some (.int .i64 g) → o < W.heap.size → Calls Tryz.prog 39 #[.int .i64 g, u, .func (.func 68) #[] #[.pointer (some ⟨o, 0, none⟩)]] W fun r w' => ∃ v', r = .returned (.tuple #[v', .int .i64 (reduceR g s d).1]) ∧ Arr W.heap.size w'.heap.size w' v' (reduceR g s d).2.1 (reduceR g s d).2.2 ∧ Below W.heap.size W w') := fun W u o hu hg lg => by
    refine along_impl (enters_of Tryz.func68 (by kernel_rfl) rfl) hu hs hd (fun q => ?_) (fun q e => ?_) (fun W' u' q1 q2 q3 hb hu' => ?_)
    · rw [reduceR_bad q]; exact ⟨rfl, rfl, rfl⟩
    · subst e; rw [reduceR_nil q]; exact ⟨rfl, rfl, rfl⟩
    · cases s with
      | nil => exact absurd rfl q3
      | cons n0 t =>
        have hh := head_bd q2
        simp only [List.getD_cons_zero] at hh
        by_cases hn : 0 < n0
        · rw [reduceR_some ⟨q1, q2⟩ hn]
          exact reduce1_impl hu' q2 hn ((hb.cell (p := ⟨o, 0, none⟩) lg).trans hg) (Nat.lt_of_lt_of_le lg hb.size)
        · obtain rfl : n0 = 0 := by omega
          rw [reduceR_none ⟨q1, q2⟩]
          exact reduce0_impl hu' q2 ((hb.cell (p := ⟨o, 0, none⟩) lg).trans hg) (Nat.lt_of_lt_of_le lg hb.size)
  obtain ⟨C, hC⟩ : ∃ C, C = (reduceR g s d).1 := ⟨_, rfl⟩
  obtain ⟨S, hS⟩ : ∃ S, S = (reduceR g s d).2.1 := ⟨_, rfl⟩
  obtain ⟨D, hD⟩ : ∃ D, D = (reduceR g s d).2.2 := ⟨_, rfl⟩
  rw [← hS, ← hC, ← hD] at HAL
  rw [← hS, ← hC, ← hD]
  obtain ⟨a, c, b, e, rfl, _, _, _, _⟩ := h
  obtain ⟨W1, hW1⟩ : ∃ W1, W1 = (w.alloc (.cells #[.slice a s.length c, .slice b d.length e] 26)).alloc (.cells #[.slice none 0 0, .slice none 0 0] 26) := ⟨_, rfl⟩
  have BW1 : Hid (Below w.heap.size w W1) := by rw [hW1]; exact bAlloc (bAlloc (Below.refl _ _) _) _
  have X1 : Hid (Box W1 w.heap.size (.slice a s.length c) (.slice b d.length e) 26) := by rw [hW1]; exact heap_alloc2_old w _ _
  have Y1 : Hid (Box W1 (w.heap.size + 1) (.slice none 0 0) (.slice none 0 0) 26) := by rw [hW1]; exact heap_alloc2_new w _ _
  have z0 := X1.out.c0
  have z1 := X1.out.c1
  clear hC hS hD hs hd
  go_enter Tryz.func10, Tryz.ntmps10
  go_wp2_with fail
  rw [← hW1]
  clear hW1
  go_region_with (first
    | (go_at_call 40; refine (reducing2_impl _ _).mono ?_; rintro r w2 ⟨rfl, hc1, hb, hsz⟩; have HB2 : Hid (Below W1.heap.size W1 w2) := bTrans ((Below.refl W1.heap.size W1).drew) hb; have HC2 : Hid (_ ∧ _) := ⟨hc1, hsz⟩; clear hc1 hb hsz; have y0 := (X1.out.keep HB2.out).c0; have y1 := (X1.out.keep HB2.out).c1)
    | (go_at_call 39; refine (HAL.out _ _ _ (H.out.keep (bTrans BW1.out HB2.out)) HC2.out.1 HC2.out.2).mono ?_; rintro r w3 ⟨v3, rfl, ha, hb⟩; obtain ⟨s1, d1, rfl, p1, p2, p3⟩ := ha; obtain ⟨ta, tc, rfl, _⟩ := p1.ints; obtain ⟨da, dc, rfl, _⟩ := p2.ints; have HB3 : Hid (Below W1.heap.size W1 w3) := bTrans HB2.out hb; have Y3 : Hid (Box w3 (w.heap.size + 1) (.slice none 0 0) (.slice none 0 0) 26) := Y1.out.keep HB3.out; have A3 : Hid (Arr W1.heap.size w3.heap.size w3 (.agg #[.slice ta S.length tc, .slice da D.length dc]) S D) := Arr.mono ⟨_, _, rfl, p1, p2, p3⟩ HB2.out.size (Nat.le_refl _); clear p1 p2 p3 hb; have y3 := Y3.out.c0; have y4 := Y3.out.c1; have f0 := free_at Y3.out 0; have f1 := free_at Y3.out 1; have HRR : Hid (_ = _) := arr_stored (x' := .slice ta S.length tc) (y' := .slice da D.length dc) Y3.out))
  all_goals
    go_wp2
    refine bodyPost_ret (results_arr_tmp Tryz.results10 _ _ (w.heap.size + 1) _ _ rfl HRR.out) rfl ?_
    refine ⟨_, rfl, ?_, below_setCell (below_setCell (bTrans BW1.out HB3.out) (by omega) _ _) (by omega) _ _⟩
    have L1 := Y1.out.lt
    exact ((A3.out.setCell (by omega) _ _).setCell (by omega) _ _).mono (by omega) (by simp only [size_setCell]; omega)
end Go.Proofs.YtnkacfgbkfkhdaaGreat
namespace Go.Proofs.YtnkacfgbkfkhdaaGreat
open Go.RowKit Go.Shelf
set_option linter.unusedVariables false
set_option linter.unusedSimpArgs false
/-- The number of a cell, as a list; none where there is a code. -/
def cellL (f g : Int) (x y : List Int) (n : Nat) : List Int := if (cellR f g x y n).2 = 0 then [(cellR f g x y n).1] else []
theorem redN_nil (f : Int) (h : ok (neu f).1 = true) : redN f [] = (0, [], [(neu f).1]) := by
  have h1 : arrOk [(([] : List Int).length : Int)] [] = true := by simp [arrOk, sizeV_1]
  have h2 : arrOk [] [(neu f).1] = true := one_ok h
  unfold redN reshapeR
  rw [show reshapeC [(([] : List Int).length : Int)] [] [] [(neu f).1] = 0 from by unfold reshapeC; rw [if_pos ⟨h1, h2⟩]; simp [sizeV_0']]
  rw [mkR_good]
  simp [sizeV_0', againD]
/-- The pairs, reduced. -/
theorem red_cell {f g n : Int} {x y : List Int} {w : World} {v : Value} {o : Nat} (h : ArrI w v [n] (pairD g x y n.toNat)) (h1 : arrOk [n] x = true) (h0 : pairC g x y n.toNat = 0) (hf : w.cell? ⟨o, 0, none⟩ = some (.int .i64 f)) (ho : o < w.heap.size) (hk : ok (neu f).1 = true) :
    Calls Tryz.prog 68 #[v, .pointer (some ⟨o, 0, none⟩)] w fun r w' => ∃ v', r = .returned (.tuple #[v', .int .i64 (cellR f g x y n.toNat).2]) ∧ Arr w.heap.size w'.heap.size w' v' [] (cellL f g x y n.toNat) ∧ Below w.heap.size w w' := by
  obtain ⟨a1, a2, _, _⟩ := vecN h1
  have hp := pair_arr h1 h0
  unfold cellL
  by_cases hn : n = 0
  · subst hn
    have q := reduce0_impl h hp hf ho
    rw [redN_nil f hk] at q
    rw [show (0 : Int).toNat = 0 from rfl, cellR_none, if_pos rfl]
    exact q
  · have q := reduce1_impl h hp (by omega) hf ho
    rw [rows_pair, ite_self] at q
    by_cases hc : (redL f [] (pairR g x y n.toNat)).1 = 0
    · obtain ⟨z, e1, e2⟩ := cellR_good h0 (by omega) hc
      rw [e1, hc] at q
      rw [e2, if_pos rfl]
      exact q
    · rw [redL_none hc] at q
      rw [cellR_bad h0 (by omega) hc, if_neg hc]
      exact q
set_option maxRecDepth 20000 in
set_option maxHeartbeats 4000000 in
/-- What meeting makes. -/
theorem met_impl {f g n : Int} {x y : List Int} {w : World} {u v : Value} {p q o : Nat} (h : ArrI w u [n] x) (k : ArrI w v [n] y) (hx : arrOk [n] x = true) (hy : arrOk [n] y = true) (hm : MetAt w f g p q o) (hg : sign2 g = true) (hk : ok (neu f).1 = true) :
    Calls Tryz.prog 57 #[u, v, .pointer (some ⟨p, 0, none⟩), .pointer (some ⟨q, 0, none⟩)] w fun r w' => ∃ v', r = .returned (.tuple #[v', .int .i64 (cellR f g x y n.toNat).2]) ∧ Arr w.heap.size w'.heap.size w' v' [] (cellL f g x y n.toNat) ∧ Below w.heap.size w w' := by
  obtain ⟨e1, e2⟩ := each_pair hx hy hg
  obtain ⟨a1, a2, lx, _⟩ := vecN hx
  obtain ⟨_, _, ly, _⟩ := vecN hy
  have H : Hid (ArrI w u [n] x) := h
  have K : Hid (ArrI w v [n] y) := k
  have HM : Hid (MetAt w f g p q o) := hm
  obtain ⟨a, c, b, e, rfl, _, _, _, _⟩ := h
  obtain ⟨a', c', b', e', rfl, _, _, _, _⟩ := k
  have HE : Hid (∀ W, Below w.heap.size w W → Calls Tryz.prog 9 #[.int .i64 g, .agg #[.slice a 1 c, .slice b x.length e], .agg #[.slice a' 1 c', .slice b' y.length e']] W fun r w' => ∃ v', r = .returned (.tuple #[v', .int .i64 (eachTwoC g [n] x [n] y)]) ∧ Arr W.heap.size w'.heap.size w' v' (eachTwoS g [n] x [n] y) (eachTwoD g [n] x [n] y) ∧ Below W.heap.size W w') := fun W hb => eachTwo_impl (H.out.keep hb) (K.out.keep hb) (by simp) (by omega) (by simp) (by omega)
  have HR : Hid (∀ W v, Below w.heap.size w W → pairC g x y n.toNat = 0 → ArrI W v (eachTwoS g [n] x [n] y) (eachTwoD g [n] x [n] y) → Calls Tryz.prog 68 #[v, .pointer (some ⟨o, 0, none⟩)] W fun r w' => ∃ v', r = .returned (.tuple #[v', .int .i64 (cellR f g x y n.toNat).2]) ∧ Arr W.heap.size w'.heap.size w' v' [] (cellL f g x y n.toNat) ∧ Below W.heap.size W w') := fun W v hb h0 hv => by
    rw [(e2 h0).1, (e2 h0).2] at hv
    exact red_cell hv hx h0 (HM.out.keep hb).f (HM.out.keep hb).lo hk
  have EB : Hid (pairC g x y n.toNat ≠ 0 → (cellR f g x y n.toNat).2 = pairC g x y n.toNat ∧ cellL f g x y n.toNat = []) := fun h0 => by
    have q : cellR f g x y n.toNat = (0, pairC g x y n.toNat) := by unfold cellR; rw [if_neg h0]
    unfold cellL
    rw [q]
    exact ⟨rfl, if_neg h0⟩
  rw [e1] at HE
  simp only [List.length_cons, List.length_nil, Nat.zero_add]
  generalize pairC g x y n.toNat = C at *
  generalize eachTwoS g [n] x [n] y = S1 at *
  generalize eachTwoD g [n] x [n] y = D1 at *
  generalize (cellR f g x y n.toNat).2 = QC at *
  generalize cellL f g x y n.toNat = QD at *
  have hE := enters_of Tryz.func68 (by kernel_rfl) rfl
  have XP : ∀ A B D : Obj, (((w.alloc A).alloc B).alloc D).cell? ⟨p, 0, none⟩ = some (.int .i64 g) := fun A B D => (HM.out.keep (bAlloc (bAlloc (bAlloc (Below.refl _ _) A) B) D)).g
  clear e1 e2 hx hy hm hg hk lx ly
  go_enter Tryz.func57, Tryz.ntmps57
  go_wp2_with fail
  refine (HE.out _ (bAlloc (bAlloc (bAlloc (Below.refl _ _) _) _) _)).mono ?_
  rintro r w1 ⟨v1, rfl, ha, hb⟩
  obtain ⟨s1, t1, d1, f1, rfl, _, _, _, _⟩ := ha.arrI
  have HB1 : Hid (Below w.heap.size w w1) := bTrans (bAlloc (bAlloc (bAlloc (Below.refl _ _) _) _) _) hb
  have A1 : Hid (ArrI w1 (.agg #[.slice s1 S1.length t1, .slice d1 D1.length f1]) S1 D1) := ha.arrI
  have R1 : Hid (Box w1 (w.heap.size + 1 + 1) (.slice none 0 0) (.slice none 0 0) 26) := by
    have q := box_new ((w.alloc (.cells #[.slice a 1 c, .slice b x.length e] 26)).alloc (.cells #[.slice a' 1 c', .slice b' y.length e'] 26)) (.slice none 0 0) (.slice none 0 0) 26
    simp only [World.size_alloc] at q
    exact q.keep hb
  clear ha hb XP
  have R2 : Hid (Box (w1.alloc (.cells #[.slice s1 S1.length t1, .slice d1 D1.length f1] 26)) (w.heap.size + 1 + 1) (.slice none 0 0) (.slice none 0 0) 26) := R1.out.keep (bAlloc (Below.refl _ _) _)
  have BW2 : Hid (Below w.heap.size w (w1.alloc (.cells #[.slice s1 S1.length t1, .slice d1 D1.length f1] 26))) := bAlloc HB1.out _
  by_cases hc : C = 0
  · subst hc
    have XQ : ∀ A : Obj, (w1.alloc A).cell? ⟨q, 0, none⟩ = some (.func (.func 68) #[] #[.pointer (some ⟨o, 0, none⟩)]) := fun A => (HM.out.keep (bAlloc HB1.out A)).r
    have LT : Hid (w.heap.size + 1 + 1 < w1.heap.size) := R1.out.lt
    go_wp2_with fail
    refine (HR.out _ _ BW2.out (by trivial) (A1.out.keep (bAlloc (Below.refl _ _) _))).mono ?_
    rintro r w3 ⟨v3, rfl, ha, hb⟩
    obtain ⟨s3, t3, d3, f3, rfl, _, _, _, _⟩ := ha.arrI
    have A3 : Hid (Arr (w1.heap.size + 1) w3.heap.size w3 (.agg #[.slice s3 0 t3, .slice d3 QD.length f3]) [] QD) := ha.mono (by simp) (Nat.le_refl _)
    have R3 : Hid (Box w3 (w.heap.size + 1 + 1) (.slice none 0 0) (.slice none 0 0) 26) := R2.out.keep hb
    have B3 : Hid (Below w.heap.size w w3) := bTrans BW2.out hb
    clear ha hb XQ
    have y0 := R3.out.c0
    have y1 := R3.out.c1
    have k0 := free_at R3.out 0
    have k1 := free_at R3.out 1
    have HRR : Hid (_ = _) := arr_stored (x' := .slice s3 0 t3) (y' := .slice d3 QD.length f3) R3.out
    simp only [List.length_nil]
    go_wp2
    refine bodyPost_ret (results_arr_tmp Tryz.results57 _ _ (w.heap.size + 1 + 1) _ _ rfl HRR.out) rfl ?_
    refine ⟨_, rfl, ?_, below_setCell (below_setCell B3.out (by omega) _ _) (by omega) _ _⟩
    have L1 := LT.out
    exact ((A3.out.setCell (by omega) _ _).setCell (by omega) _ _).mono (by omega) (by simp only [size_setCell]; omega)
  · obtain ⟨rfl, rfl⟩ := EB.out hc
    have y0 := R2.out.c0
    have y1 := R2.out.c1
    have k0 := free_at R2.out 0
    have k1 := free_at R2.out 1
    have HRR : Hid (_ = _) := arr_stored (x' := .slice none 0 0) (y' := .slice none 0 0) R2.out
    have hxx : (QC != 0) = true := by simpa using hc
    go_wp2
    refine bodyPost_ret (results_arr_tmp Tryz.results57 _ _ (w.heap.size + 1 + 1) _ _ rfl HRR.out) rfl ?_
    exact ⟨_, rfl, arr_zero _ _ _, below_setCell (below_setCell BW2.out (by omega) _ _) (by omega) _ _⟩
end Go.Proofs.YtnkacfgbkfkhdaaGreat
