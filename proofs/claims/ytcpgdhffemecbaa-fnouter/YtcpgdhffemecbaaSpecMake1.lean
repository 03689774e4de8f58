
/-
  Walks: the specification's ShapeOf, Ravel, l5Vector, l5Right.
-/
import Derived.Test.YtcpgdhffemecbaaMakeM
import Derived.Test.YtcpgdhffemecbaaSpecArr2
import Derived.Test.YtcpgdhffemecbaaLaw3
namespace Go.Proofs.Ytcpgdhffemecbaa
open Go.RowKit
set_option linter.unusedVariables false
set_option linter.unusedSimpArgs false
theorem okC_good {s d : List Int} (h : arrOk s d = true) : okC s d = 0 := by unfold okC; rw [if_pos h]
theorem okC_bad {s d : List Int} (h : ¬ arrOk s d = true) : okC s d = 1 := by unfold okC; rw [if_neg h]
set_option maxRecDepth 20000 in
set_option maxHeartbeats 2000000 in
/-- ShapeOf. -/
theorem shapeOf_spec {s d : List Int} {w : World} {v : Value} (h : ArrI w v s d) (hs : s.length ≤ 1048576) (hd : d.length ≤ 1048576) :
    Calls Try.prog 24 #[v] w fun e w' => ∃ v', e = .returned (.tuple #[v', .int .i64 (shapeOfR s d).1]) ∧ Arr w.heap.size w'.heap.size w' v' (shapeOfR s d).2.1 (shapeOfR s d).2.2 ∧ Below w.heap.size w w' := by
  have H : Hid (ArrI w v s d) := h
  obtain ⟨a, c, b, f, rfl, h1, h2, _, _⟩ := h
  have H1 : Hid (Ints w a s) := h1
  have H2 : Hid (Ints w b d) := h2
  have HS : Hid (s.length ≤ 1048576) := hs
  have HD : Hid (d.length ≤ 1048576) := hd
  clear h1 h2 hs hd
  by_cases ho : arrOk s d = true
  · have HO : Hid (arrOk s d = true) := ho
    obtain ⟨Z, hZ⟩ : ∃ Z : List Int, Z = [(s.length : Int)] := ⟨_, rfl⟩
    have ER : shapeOfR s d = (0, Z, s) := by unfold shapeOfR; rw [okC_good ho, hZ]; rfl
    have HV : Hid (∀ W, Ints W a s → Calls Try.prog 67 #[.slice a s.length c] W fun e w' => ∃ v, e = .returned v ∧ Arr W.heap.size w'.heap.size w' v Z s ∧ Below W.heap.size W w') := fun W h => by rw [hZ]; exact vector_spec c h HS.out
    rw [ER]
    clear ho ER hZ
    go_enter Try.func24, Try.ntmps24
    go_wp2_with fail
    refine (arrOk_spec (H.out.keep (bAlloc (bAlloc (Below.refl _ _) _) _)) HD.out).mono ?_
    rintro r w1 ⟨rfl, hb⟩
    have HB1 : Hid (Below w.heap.size w w1) := bTrans (bAlloc (bAlloc (Below.refl _ _) _) _) hb
    have X1 : Hid (Box w1 w.heap.size (.slice a s.length c) (.slice b d.length f) 26) := ((box_new w _ _ _).keep (bAlloc (Below.refl _ _) _)).keep hb
    have Y1 : Hid (Box w1 (w.heap.size + 1) (.slice none 0 0) (.slice none 0 0) 26) := (box_new2 w _ _ _ _).keep hb
    have x0 := X1.out.c0
    have x1 := X1.out.c1
    have L1 : Hid (w.heap.size + 1 < w1.heap.size) := Y1.out.lt
    clear hb
    rw [HO.out]
    go_wp2_with fail
    refine (HV.out _ (H1.out.keep HB1.out)).mono ?_
    rintro r w2 ⟨v', rfl, ha, hb⟩
    obtain ⟨a', c', b', f', rfl, _, _, _, _⟩ := ha.arrI
    have HA : Hid (Arr w1.heap.size w2.heap.size w2 (.agg #[.slice a' Z.length c', .slice b' s.length f']) Z s) := ha
    have HB2 : Hid (Below w.heap.size w w2) := bTrans HB1.out hb
    have Y2 : Hid (Box w2 (w.heap.size + 1) (.slice none 0 0) (.slice none 0 0) 26) := Y1.out.keep hb
    clear ha hb x0 x1
    have y0 := Y2.out.c0
    have y1 := Y2.out.c1
    have f0 : w2.frozen? ⟨w.heap.size + 1, 0, none⟩ = false := free_at Y2.out 0
    have f1 : w2.frozen? ⟨w.heap.size + 1, 1, none⟩ = false := free_at Y2.out 1
    have HR : Hid (((w2.setCell ⟨w.heap.size + 1, 0, none⟩ (.slice a' Z.length c')).setCell ⟨w.heap.size + 1, 1, none⟩ (.slice b' s.length f')).heap[w.heap.size + 1]? = some (.cells #[.slice a' Z.length c', .slice b' s.length f'] 26 (0, 0))) := arr_stored Y2.out
    go_wp2
    refine bodyPost_ret (results_arr_tmp Try.results24 _ _ (w.heap.size + 1) _ _ rfl HR.out) rfl ?_
    refine ⟨_, rfl, ?_, below_setCell (below_setCell HB2.out (by omega) _ _) (by omega) _ _⟩
    have L := L1.out
    exact ((HA.out.setCell L _ _).setCell L _ _).mono (by omega) (by simp only [size_setCell]; omega)
  · have HO : Hid (arrOk s d = false) := by show _ = _; simpa using ho
    have ER : shapeOfR s d = (1, [], []) := by unfold shapeOfR; rw [okC_bad ho]; rfl
    rw [ER]
    clear ho ER
    go_enter Try.func24, Try.ntmps24
    go_wp2_with fail
    refine (arrOk_spec (H.out.keep (bAlloc (bAlloc (Below.refl _ _) _) _)) HD.out).mono ?_
    rintro r w1 ⟨rfl, hb⟩
    have HB1 : Hid (Below w.heap.size w w1) := bTrans (bAlloc (bAlloc (Below.refl _ _) _) _) hb
    have Y1 : Hid (Box w1 (w.heap.size + 1) (.slice none 0 0) (.slice none 0 0) 26) := (box_new2 w _ _ _ _).keep hb
    clear hb
    rw [HO.out]
    have y0 := Y1.out.c0
    have y1 := Y1.out.c1
    have f0 : w1.frozen? ⟨w.heap.size + 1, 0, none⟩ = false := free_at Y1.out 0
    have f1 : w1.frozen? ⟨w.heap.size + 1, 1, none⟩ = false := free_at Y1.out 1
    have HR : Hid (((w1.setCell ⟨w.heap.size + 1, 0, none⟩ (.slice none 0 0)).setCell ⟨w.heap.size + 1, 1, none⟩ (.slice none 0 0)).heap[w.heap.size + 1]? = some (.cells #[.slice none 0 0, .slice none 0 0] 26 (0, 0))) := arr_stored Y1.out
    go_wp2
    refine bodyPost_ret (results_arr_tmp Try.results24 _ _ (w.heap.size + 1) _ _ rfl HR.out) rfl ?_
    exact ⟨_, rfl, arr_zero _ _ _, below_setCell (below_setCell HB1.out (by omega) _ _) (by omega) _ _⟩
/-- What l5Right makes of an array. -/
def rightR (s d : List Int) : Int × List Int × List Int := mkR (if arrOk s d = true then 0 else 6) s d
end Go.Proofs.Ytcpgdhffemecbaa
