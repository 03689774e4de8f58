/-
  Walks: the program's Turn.
-/
import Derived.Test.YtckbmbidpppncaoImplMake5
import Derived.Test.YtckbmbidpppncaoImplArr2
namespace Go.Proofs.Ytckbmbidpppncao
open Go.RowKit
set_option linter.unusedVariables false
set_option linter.unusedSimpArgs false
/-- A cell of a number. -/
theorem cell_keep5 {w w' : World} {o : Nat} {x : Value} (h : w.cell? ⟨o, 0, none⟩ = some x) (ho : o < w.heap.size) (hb : Below w.heap.size w w') : w'.cell? ⟨o, 0, none⟩ = some x := by rw [hb.cell (p := ⟨o, 0, none⟩) ho]; exact h
/-- Turn's closure. -/
theorem turn1_impl {N : Int} {k o : Nat} {W : World} (h : W.cell? ⟨o, 0, none⟩ = some (.int .i64 N)) (h0 : 0 ≤ N) (h1 : N ≤ 300) (hk : (k : Int) ≤ 300) :
    Calls Try.prog 54 #[.int .i64 (k : Int), .pointer (some ⟨o, 0, none⟩)] W fun r W' => r = .returned (.int .i64 (N - 1 - (k : Int))) ∧ W' = W := by
  go_enter Try.func54, Try.ntmps54
  go_wp2
  go_ret
  exact ⟨by go_num, rfl⟩
theorem cons5 {s : List Int} (h : s ≠ []) : s.getD 0 0 :: s.drop 1 = s := by cases s with | nil => exact absurd rfl h | cons _ _ => rfl
theorem turn_chosen {s d : List Int} (ho : arrOk s d = true) (hs : s ≠ []) : chosenD s d (fun k => s.getD 0 0 - 1 - (k : Int)) (rowsN s) = turnD s d := by
  have e := (rowsN5 ho).2
  unfold chosenD turnD
  rw [if_neg hs, List.flatMap_def, List.flatMap_def]
  congr 1
  apply List.map_congr_left
  intro i hi
  have hi' : i < rowsN s := by simpa using hi
  dsimp only
  unfold chosenRow
  rw [if_pos (by omega)]
  congr 1
  omega
theorem okC_zero {s d : List Int} (h : okC s d = 0) : arrOk s d = true := by
  unfold okC at h
  by_cases e : arrOk s d = true
  · exact e
  · rw [if_neg e] at h; cases h
theorem turnD_len {s d : List Int} (h : okC s d = 0) : (turnD s d).length = d.length := by
  have ho := okC_zero h
  by_cases hs : s = []
  · unfold turnD; rw [if_pos hs]
  · rw [← turn_chosen ho hs, chosenD_length ho hs, rows5 ho hs]
set_option maxRecDepth 20000 in
set_option maxHeartbeats 4000000 in
/-- Turn. -/
theorem turn_impl {s d : List Int} {w : World} {v : Value} (h : ArrI w v s d) (hs : s.length ≤ 1048576) (hd : d.length ≤ 1048576) :
    Calls Try.prog 23 #[v] w fun r w' => ∃ v', r = .returned (.tuple #[v', .int .i64 (turnR s d).1]) ∧ Arr w.heap.size w'.heap.size w' v' (turnR s d).2.1 (turnR s d).2.2 ∧ Below w.heap.size w w' := by
  have H : Hid (ArrI w v s d) := h
  have HD : Hid (∀ W, Below w.heap.size w W → Calls Try.prog 30 #[v] W fun r w' => r = .returned (.bool (arrOk s d)) ∧ Below W.heap.size W w') := fun W hb => arrOk_impl (h.keep hb) hd
  have HCO : Hid (∀ W, Below w.heap.size w W → Calls Try.prog 52 #[v] W fun e w' => ∃ v', e = .returned v' ∧ Arr W.heap.size w'.heap.size w' v' s d ∧ Below W.heap.size W w') := fun W hb => copyOf_impl (h.keep hb) hs hd
  have HCH : Hid (arrOk s d = true → s ≠ [] → ∀ (W : World) (o : Nat), Below w.heap.size w W → W.cell? ⟨o, 0, none⟩ = some (.int .i64 (s.getD 0 0)) → o < W.heap.size → Calls Try.prog 53 #[v, .int .i64 (s.getD 0 0), .func (.func 54) #[] #[.pointer (some ⟨o, 0, none⟩)]] W fun e w' => ∃ v', e = .returned v' ∧ Arr W.heap.size w'.heap.size w' v' s (turnD s d) ∧ Below W.heap.size W w') := fun ho hn W o hb hc hoW => by
    obtain ⟨e1, e2⟩ := rowsN5 ho
    have q := chosen_impl (s := s) (d := d) (w := W) (v := v) (p := .pointer (some ⟨o, 0, none⟩)) (f := 54) (n := rowsN s) (φ := fun k => s.getD 0 0 - 1 - (k : Int)) e2 (enters_of Try.func54 (by kernel_rfl) rfl) (h.keep hb) ho hn (by rw [← e2, cons5 hn]; exact arrOk_shape ho) (fun W' k hk hb' => by
      refine (turn1_impl (cell_keep5 hc hoW hb') (by omega) (by omega) (by omega)).mono ?_
      rintro r w' ⟨rfl, rfl⟩
      exact ⟨rfl, Below.refl _ _⟩)
    rw [turn_chosen ho hn, ← e2, cons5 hn] at q
    exact q
  obtain ⟨a, c, b, e, rfl, ia, ib, ga, gb⟩ := h
  obtain ⟨x, hx⟩ : ∃ x, x = (turnR s d).1 := ⟨_, rfl⟩
  obtain ⟨S, hS⟩ : ∃ S, S = (turnR s d).2.1 := ⟨_, rfl⟩
  obtain ⟨D, hD⟩ : ∃ D, D = (turnR s d).2.2 := ⟨_, rfl⟩
  rw [← hx, ← hS, ← hD]
  have E1 : Hid (arrOk s d = false → x = 1 ∧ S = [] ∧ D = []) := fun h => by
    rw [hx, hS, hD]; unfold turnR okC; rw [if_neg (by rw [h]; simp), mkR_bad (by decide)]; exact ⟨rfl, rfl, rfl⟩
  have E2 : Hid (arrOk s d = true → x = 0 ∧ S = s ∧ D = turnD s d) := fun h => by
    rw [hx, hS, hD]; unfold turnR okC; rw [if_pos h, mkR_good]; exact ⟨rfl, rfl, rfl⟩
  have HI : Hid (Ints w a s) := ia
  clear hx hS hD ia ib ga gb hs hd
  by_cases hn : s = []
  · have ET : Hid (turnD s d = d) := by show _ = _; unfold turnD; rw [if_pos hn]
    subst hn
    generalize arrOk [] d = z at *
    clear HCH
    simp only [List.length_nil] at *
    go_enter Try.func23, Try.ntmps23
    go_wp2_with fail
    refine (HD.out _ (bAlloc (bAlloc (Below.refl _ _) _) _)).mono ?_
    rintro r w1 ⟨rfl, hb⟩
    have HB1 : Hid (Below w.heap.size w w1) := bTrans (bAlloc (bAlloc (Below.refl _ _) _) _) hb
    have X1 : Hid (Box w1 w.heap.size (.slice a 0 c) (.slice b d.length e) 26) := ((box_new w _ _ _).keep (bAlloc (Below.refl _ _) _)).keep hb
    have R1 : Hid (Box w1 (w.heap.size + 1) (.slice none 0 0) (.slice none 0 0) 26) := (box_new2 w _ _ _ _).keep hb
    clear hb
    cases z
    · obtain ⟨rfl, rfl, rfl⟩ := E1.out (by trivial)
      clear E1 E2
      have y0 := R1.out.c0
      have y1 := R1.out.c1
      have f0 : w1.frozen? ⟨w.heap.size + 1, 0, none⟩ = false := free_at R1.out 0
      have f1 : w1.frozen? ⟨w.heap.size + 1, 1, none⟩ = false := free_at R1.out 1
      have HR : Hid (((w1.setCell ⟨w.heap.size + 1, 0, none⟩ (.slice none 0 0)).setCell ⟨w.heap.size + 1, 1, none⟩ (.slice none 0 0)).heap[w.heap.size + 1]? = some (.cells #[.slice none 0 0, .slice none 0 0] 26 (0, 0))) := arr_stored R1.out
      go_wp2
      refine bodyPost_ret (results_arr_tmp Try.results23 _ _ (w.heap.size + 1) _ _ rfl HR.out) rfl ?_
      exact ⟨_, rfl, arr_zero _ _ _, below_setCell (below_setCell HB1.out (by omega) _ _) (by omega) _ _⟩
    · obtain ⟨rfl, eS, eD⟩ := E2.out (by trivial)
      have ES : Hid (S = [] ∧ D = d) := ⟨eS, eD.trans ET.out⟩
      clear E1 E2 eS eD ET
      have x0 := X1.out.c0
      have x1 := X1.out.c1
      go_wp2_with fail
      refine (HCO.out _ HB1.out).mono ?_
      rintro r w2 ⟨v', rfl, ha, hb⟩
      obtain ⟨a2, c2, b2, e2, rfl, _, _, _, _⟩ := ha.arrI
      have HA : Hid (Arr w1.heap.size w2.heap.size w2 (.agg #[.slice a2 ([] : List Int).length c2, .slice b2 d.length e2]) [] d) := ha
      have HB2 : Hid (Below w.heap.size w w2) := bTrans HB1.out hb
      have R2 : Hid (Box w2 (w.heap.size + 1) (.slice none 0 0) (.slice none 0 0) 26) := R1.out.keep hb
      have LT : Hid (w.heap.size + 1 < w1.heap.size) := R1.out.lt
      clear ha hb x0 x1
      have y0 := R2.out.c0
      have y1 := R2.out.c1
      have f0 : w2.frozen? ⟨w.heap.size + 1, 0, none⟩ = false := free_at R2.out 0
      have f1 : w2.frozen? ⟨w.heap.size + 1, 1, none⟩ = false := free_at R2.out 1
      have HR : Hid (((w2.setCell ⟨w.heap.size + 1, 0, none⟩ (.slice a2 ([] : List Int).length c2)).setCell ⟨w.heap.size + 1, 1, none⟩ (.slice b2 d.length e2)).heap[w.heap.size + 1]? = some (.cells #[.slice a2 ([] : List Int).length c2, .slice b2 d.length e2] 26 (0, 0))) := arr_stored R2.out
      go_wp2
      refine bodyPost_ret (results_arr_tmp Try.results23 _ _ (w.heap.size + 1) _ _ rfl HR.out) rfl ?_
      refine ⟨_, rfl, ?_, below_setCell (below_setCell HB2.out (by omega) _ _) (by omega) _ _⟩
      have L := LT.out
      rw [ES.out.1, ES.out.2]
      exact ((HA.out.setCell L _ _).setCell L _ _).mono (by omega) (by simp [size_setCell])
  · have hsp : 0 < s.length := List.length_pos_iff.2 hn
    have hne : ((s.length : Int) == 0) = false := by simp; exact hn
    have HCH' : Hid (arrOk s d = true → ∀ (W : World) (o : Nat), Below w.heap.size w W → W.cell? ⟨o, 0, none⟩ = some (.int .i64 (s.getD 0 0)) → o < W.heap.size → Calls Try.prog 53 #[.agg #[.slice a s.length c, .slice b d.length e], .int .i64 (s.getD 0 0), .func (.func 54) #[] #[.pointer (some ⟨o, 0, none⟩)]] W fun e w' => ∃ v', e = .returned v' ∧ Arr W.heap.size w'.heap.size w' v' s (turnD s d) ∧ Below W.heap.size W w') := fun ho => HCH.out ho hn
    obtain ⟨ab, ao, rfl, _, _⟩ := HI.out.at hsp
    have HN0 : Hid (∀ W, Below w.heap.size w W → W.cell? ⟨ab, ao, none⟩ = some (.int .i64 (s.getD 0 0))) := fun W hb => ints_cell5 (HI.out.keep hb) hsp
    clear HCH hn
    generalize s.getD 0 0 = N at *
    generalize turnD s d = TD at *
    generalize arrOk s d = z at *
    go_enter Try.func23, Try.ntmps23
    go_wp2_with fail
    refine (HD.out _ (bAlloc (bAlloc (Below.refl _ _) _) _)).mono ?_
    rintro r w1 ⟨rfl, hb⟩
    have HB1 : Hid (Below w.heap.size w w1) := bTrans (bAlloc (bAlloc (Below.refl _ _) _) _) hb
    have X1 : Hid (Box w1 w.heap.size (.slice (some ⟨ab, ao, none⟩) s.length c) (.slice b d.length e) 26) := ((box_new w _ _ _).keep (bAlloc (Below.refl _ _) _)).keep hb
    have R1 : Hid (Box w1 (w.heap.size + 1) (.slice none 0 0) (.slice none 0 0) 26) := (box_new2 w _ _ _ _).keep hb
    clear hb
    cases z
    · obtain ⟨rfl, rfl, rfl⟩ := E1.out (by trivial)
      clear E1 E2
      have y0 := R1.out.c0
      have y1 := R1.out.c1
      have f0 : w1.frozen? ⟨w.heap.size + 1, 0, none⟩ = false := free_at R1.out 0
      have f1 : w1.frozen? ⟨w.heap.size + 1, 1, none⟩ = false := free_at R1.out 1
      have HR : Hid (((w1.setCell ⟨w.heap.size + 1, 0, none⟩ (.slice none 0 0)).setCell ⟨w.heap.size + 1, 1, none⟩ (.slice none 0 0)).heap[w.heap.size + 1]? = some (.cells #[.slice none 0 0, .slice none 0 0] 26 (0, 0))) := arr_stored R1.out
      go_wp2
      refine bodyPost_ret (results_arr_tmp Try.results23 _ _ (w.heap.size + 1) _ _ rfl HR.out) rfl ?_
      exact ⟨_, rfl, arr_zero _ _ _, below_setCell (below_setCell HB1.out (by omega) _ _) (by omega) _ _⟩
    · obtain ⟨rfl, eS, eD⟩ := E2.out (by trivial)
      have ES : Hid (S = s ∧ D = TD) := ⟨eS, eD⟩
      have HCH2 : Hid (∀ (W : World) (o : Nat), Below w.heap.size w W → W.cell? ⟨o, 0, none⟩ = some (.int .i64 N) → o < W.heap.size → Calls Try.prog 53 #[.agg #[.slice (some ⟨ab, ao, none⟩) s.length c, .slice b d.length e], .int .i64 N, .func (.func 54) #[] #[.pointer (some ⟨o, 0, none⟩)]] W fun e w' => ∃ v', e = .returned v' ∧ Arr W.heap.size w'.heap.size w' v' s TD ∧ Below W.heap.size W w') := HCH'.out (by trivial)
      clear E1 E2 eS eD HCH' HCO HD
      have x0 := X1.out.c0
      have x1 := X1.out.c1
      have xn := HN0.out _ HB1.out
      have z0 := (X1.out.keep (bAlloc (Below.refl w1.heap.size w1) (.cells #[.int .i64 N] 3))).c0
      have z1 := (X1.out.keep (bAlloc (Below.refl w1.heap.size w1) (.cells #[.int .i64 N] 3))).c1
      go_wp2_with fail
      refine (HCH2.out _ _ (bTrans HB1.out (bAlloc (Below.refl _ _) _)) (cell_at (cs := #[.int .i64 N]) (heap_alloc_new w1 _) rfl) (by simp)).mono ?_
      rintro r w2 ⟨v', rfl, ha, hb⟩
      obtain ⟨a2, c2, b2, e2, rfl, _, _, _, _⟩ := ha.arrI
      have HA : Hid (Arr w1.heap.size w2.heap.size w2 (.agg #[.slice a2 s.length c2, .slice b2 TD.length e2]) s TD) := ha.mono (by simp) (Nat.le_refl _)
      have HB2 : Hid (Below w.heap.size w w2) := bTrans HB1.out (bTrans (bAlloc (Below.refl _ _) _) hb)
      have R2 : Hid (Box w2 (w.heap.size + 1) (.slice none 0 0) (.slice none 0 0) 26) := (R1.out.keep (bAlloc (Below.refl _ _) _)).keep hb
      have LT : Hid (w.heap.size + 1 < w1.heap.size) := R1.out.lt
      clear ha hb x0 x1 xn z0 z1
      have y0 := R2.out.c0
      have y1 := R2.out.c1
      have f0 : w2.frozen? ⟨w.heap.size + 1, 0, none⟩ = false := free_at R2.out 0
      have f1 : w2.frozen? ⟨w.heap.size + 1, 1, none⟩ = false := free_at R2.out 1
      have HR : Hid (((w2.setCell ⟨w.heap.size + 1, 0, none⟩ (.slice a2 s.length c2)).setCell ⟨w.heap.size + 1, 1, none⟩ (.slice b2 TD.length e2)).heap[w.heap.size + 1]? = some (.cells #[.slice a2 s.length c2, .slice b2 TD.length e2] 26 (0, 0))) := arr_stored R2.out
      go_wp2
      refine bodyPost_ret (results_arr_tmp Try.results23 _ _ (w.heap.size + 1) _ _ rfl HR.out) rfl ?_
      refine ⟨_, rfl, ?_, below_setCell (below_setCell HB2.out (by omega) _ _) (by omega) _ _⟩
      have L := LT.out
      rw [ES.out.1, ES.out.2]
      exact ((HA.out.setCell L _ _).setCell L _ _).mono (by omega) (by simp [size_setCell])
end Go.Proofs.Ytckbmbidpppncao
