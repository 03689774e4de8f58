/-
  Walks: the program's ShapeOf, Ravel.
-/
import Derived.Test.YtckbmbidpppncacImplMake1
namespace Go.Proofs.Ytckbmbidpppncac
open Go.RowKit
set_option linter.unusedVariables false
set_option linter.unusedSimpArgs false
set_option maxRecDepth 20000 in
set_option maxHeartbeats 2000000 in
/-- ShapeOf. -/
theorem shapeOf_impl {s d : List Int} {w : World} {v : Value} (h : ArrI w v s d) (hs : s.length ≤ 1048576) (hd : d.length ≤ 1048576) :
    Calls Try.prog 25 #[v] w fun r w' => ∃ v', r = .returned (.tuple #[v', .int .i64 (shapeOfR s d).1]) ∧ Arr w.heap.size w'.heap.size w' v' (shapeOfR s d).2.1 (shapeOfR s d).2.2 ∧ Below w.heap.size w w' := by
  have H : Hid (ArrI w v s d) := h
  have HD : Hid (∀ W, Below w.heap.size w W → Calls Try.prog 14 #[v] W fun r w' => r = .returned (.bool (arrOk s d)) ∧ Below W.heap.size W w') := fun W hb => arrOk_impl (h.keep hb) hd
  obtain ⟨a, c, b, e, rfl, ia, ib, ga, gb⟩ := h
  have HC : Hid (∀ W, Below w.heap.size w W → Calls Try.prog 72 #[.slice a s.length c] W fun r w' => ∃ v', r = .returned v' ∧ Arr W.heap.size w'.heap.size w' v' [(s.length : Int)] s ∧ Below W.heap.size W w') := fun W hb => vecCopy_impl (IntsI.keep ⟨a, c, rfl, ga, ia⟩ hb) hs
  obtain ⟨x, hx⟩ : ∃ x, x = (shapeOfR s d).1 := ⟨_, rfl⟩
  obtain ⟨S, hS⟩ : ∃ S, S = (shapeOfR s d).2.1 := ⟨_, rfl⟩
  obtain ⟨D, hD⟩ : ∃ D, D = (shapeOfR s d).2.2 := ⟨_, rfl⟩
  rw [← hx, ← hS, ← hD]
  have E1 : Hid (arrOk s d = false → x = 1 ∧ S = [] ∧ D = []) := fun h => by
    rw [hx, hS, hD]; unfold shapeOfR okC; rw [if_neg (by rw [h]; simp), mkR_bad (by decide)]; exact ⟨rfl, rfl, rfl⟩
  have E2 : Hid (arrOk s d = true → x = 0 ∧ S = [(s.length : Int)] ∧ D = s) := fun h => by
    rw [hx, hS, hD]; unfold shapeOfR okC; rw [if_pos h, mkR_good]; exact ⟨rfl, rfl, rfl⟩
  clear hx hS hD ia ib ga gb hs hd
  generalize arrOk s d = z at *
  go_enter Try.func25, Try.ntmps25
  go_wp2_with fail
  refine (HD.out _ (bAlloc (bAlloc (Below.refl _ _) _) _)).mono ?_
  rintro r w1 ⟨rfl, hb⟩
  have HB : Hid (Below w.heap.size w w1) := bTrans (bAlloc (bAlloc (Below.refl _ _) _) _) hb
  have X : Hid (Box w1 w.heap.size (.slice a s.length c) (.slice b d.length e) 26) := ((box_new w _ _ _).keep (bAlloc (Below.refl _ _) _)).keep hb
  have Y : Hid (Box w1 (w.heap.size + 1) (.slice none 0 0) (.slice none 0 0) 26) := (box_new2 w _ _ _ _).keep hb
  have x0 := X.out.c0
  clear hb
  cases z
  · obtain ⟨rfl, rfl, rfl⟩ := E1.out (by trivial)
    clear E1 E2
    have y0 := Y.out.c0
    have y1 := Y.out.c1
    have f0 : w1.frozen? ⟨w.heap.size + 1, 0, none⟩ = false := free_at Y.out 0
    have f1 : w1.frozen? ⟨w.heap.size + 1, 1, none⟩ = false := free_at Y.out 1
    have HR : Hid (((w1.setCell ⟨w.heap.size + 1, 0, none⟩ (.slice none 0 0)).setCell ⟨w.heap.size + 1, 1, none⟩ (.slice none 0 0)).heap[w.heap.size + 1]? = some (.cells #[.slice none 0 0, .slice none 0 0] 26 (0, 0))) := arr_stored Y.out
    go_wp2
    refine bodyPost_ret (results_arr_tmp Try.results25 _ _ (w.heap.size + 1) _ _ rfl HR.out) rfl ?_
    exact ⟨_, rfl, arr_zero _ _ _, below_setCell (below_setCell HB.out (by omega) _ _) (by omega) _ _⟩
  · obtain ⟨rfl, eS, eD⟩ := E2.out (by trivial)
    have ES : Hid (S = [(s.length : Int)] ∧ D = s) := ⟨eS, eD⟩
    clear E1 E2 eS eD
    go_wp2_with fail
    refine (HC.out _ HB.out).mono ?_
    rintro r w2 ⟨v', rfl, ha, hb⟩
    obtain ⟨a', c', b', e', rfl, _, _, _, _⟩ := ha.arrI
    have HA : Hid (Arr w1.heap.size w2.heap.size w2 (.agg #[.slice a' 1 c', .slice b' s.length e']) [(s.length : Int)] s) := ha
    have HB2 : Hid (Below w.heap.size w w2) := bTrans HB.out hb
    have Y2 : Hid (Box w2 (w.heap.size + 1) (.slice none 0 0) (.slice none 0 0) 26) := Y.out.keep hb
    have LT : Hid (w.heap.size + 1 < w1.heap.size) := Y.out.lt
    clear ha hb x0
    have y0 := Y2.out.c0
    have y1 := Y2.out.c1
    have f0 : w2.frozen? ⟨w.heap.size + 1, 0, none⟩ = false := free_at Y2.out 0
    have f1 : w2.frozen? ⟨w.heap.size + 1, 1, none⟩ = false := free_at Y2.out 1
    have HR : Hid (((w2.setCell ⟨w.heap.size + 1, 0, none⟩ (.slice a' 1 c')).setCell ⟨w.heap.size + 1, 1, none⟩ (.slice b' s.length e')).heap[w.heap.size + 1]? = some (.cells #[.slice a' 1 c', .slice b' s.length e'] 26 (0, 0))) := arr_stored Y2.out
    simp only [List.length_cons, List.length_nil, Nat.zero_add]
    go_wp2
    refine bodyPost_ret (results_arr_tmp Try.results25 _ _ (w.heap.size + 1) _ _ rfl HR.out) rfl ?_
    refine ⟨_, rfl, ?_, below_setCell (below_setCell HB2.out (by omega) _ _) (by omega) _ _⟩
    have L := LT.out
    rw [ES.out.1, ES.out.2]
    exact ((HA.out.setCell L _ _).setCell L _ _).mono (by omega) (by simp [size_setCell])
set_option maxRecDepth 20000 in
set_option maxHeartbeats 2000000 in
/-- Ravel. -/
theorem ravel_impl {s d : List Int} {w : World} {v : Value} (h : ArrI w v s d) (hs : s.length ≤ 1048576) (hd : d.length ≤ 1048576) :
    Calls Try.prog 27 #[v] w fun r w' => ∃ v', r = .returned (.tuple #[v', .int .i64 (ravelR s d).1]) ∧ Arr w.heap.size w'.heap.size w' v' (ravelR s d).2.1 (ravelR s d).2.2 ∧ Below w.heap.size w w' := by
  have H : Hid (ArrI w v s d) := h
  have HD : Hid (∀ W, Below w.heap.size w W → Calls Try.prog 14 #[v] W fun r w' => r = .returned (.bool (arrOk s d)) ∧ Below W.heap.size W w') := fun W hb => arrOk_impl (h.keep hb) hd
  obtain ⟨a, c, b, e, rfl, ia, ib, ga, gb⟩ := h
  have HC : Hid (∀ W, Below w.heap.size w W → Calls Try.prog 72 #[.slice b d.length e] W fun r w' => ∃ v', r = .returned v' ∧ Arr W.heap.size w'.heap.size w' v' [(d.length : Int)] d ∧ Below W.heap.size W w') := fun W hb => vecCopy_impl (IntsI.keep ⟨b, e, rfl, gb, ib⟩ hb) hd
  obtain ⟨x, hx⟩ : ∃ x, x = (ravelR s d).1 := ⟨_, rfl⟩
  obtain ⟨S, hS⟩ : ∃ S, S = (ravelR s d).2.1 := ⟨_, rfl⟩
  obtain ⟨D, hD⟩ : ∃ D, D = (ravelR s d).2.2 := ⟨_, rfl⟩
  rw [← hx, ← hS, ← hD]
  have E1 : Hid (arrOk s d = false → x = 1 ∧ S = [] ∧ D = []) := fun h => by
    rw [hx, hS, hD]; unfold ravelR okC; rw [if_neg (by rw [h]; simp), mkR_bad (by decide)]; exact ⟨rfl, rfl, rfl⟩
  have E2 : Hid (arrOk s d = true → x = 0 ∧ S = [(d.length : Int)] ∧ D = d) := fun h => by
    rw [hx, hS, hD]; unfold ravelR okC; rw [if_pos h, mkR_good]; exact ⟨rfl, rfl, rfl⟩
  clear hx hS hD ia ib ga gb hs hd
  generalize arrOk s d = z at *
  go_enter Try.func27, Try.ntmps27
  go_wp2_with fail
  refine (HD.out _ (bAlloc (bAlloc (Below.refl _ _) _) _)).mono ?_
  rintro r w1 ⟨rfl, hb⟩
  have HB : Hid (Below w.heap.size w w1) := bTrans (bAlloc (bAlloc (Below.refl _ _) _) _) hb
  have X : Hid (Box w1 w.heap.size (.slice a s.length c) (.slice b d.length e) 26) := ((box_new w _ _ _).keep (bAlloc (Below.refl _ _) _)).keep hb
  have Y : Hid (Box w1 (w.heap.size + 1) (.slice none 0 0) (.slice none 0 0) 26) := (box_new2 w _ _ _ _).keep hb
  have x1 := X.out.c1
  clear hb
  cases z
  · obtain ⟨rfl, rfl, rfl⟩ := E1.out (by trivial)
    clear E1 E2
    have y0 := Y.out.c0
    have y1 := Y.out.c1
    have f0 : w1.frozen? ⟨w.heap.size + 1, 0, none⟩ = false := free_at Y.out 0
    have f1 : w1.frozen? ⟨w.heap.size + 1, 1, none⟩ = false := free_at Y.out 1
    have HR : Hid (((w1.setCell ⟨w.heap.size + 1, 0, none⟩ (.slice none 0 0)).setCell ⟨w.heap.size + 1, 1, none⟩ (.slice none 0 0)).heap[w.heap.size + 1]? = some (.cells #[.slice none 0 0, .slice none 0 0] 26 (0, 0))) := arr_stored Y.out
    go_wp2
    refine bodyPost_ret (results_arr_tmp Try.results27 _ _ (w.heap.size + 1) _ _ rfl HR.out) rfl ?_
    exact ⟨_, rfl, arr_zero _ _ _, below_setCell (below_setCell HB.out (by omega) _ _) (by omega) _ _⟩
  · obtain ⟨rfl, eS, eD⟩ := E2.out (by trivial)
    have ES : Hid (S = [(d.length : Int)] ∧ D = d) := ⟨eS, eD⟩
    clear E1 E2 eS eD
    go_wp2_with fail
    refine (HC.out _ HB.out).mono ?_
    rintro r w2 ⟨v', rfl, ha, hb⟩
    obtain ⟨a', c', b', e', rfl, _, _, _, _⟩ := ha.arrI
    have HA : Hid (Arr w1.heap.size w2.heap.size w2 (.agg #[.slice a' 1 c', .slice b' d.length e']) [(d.length : Int)] d) := ha
    have HB2 : Hid (Below w.heap.size w w2) := bTrans HB.out hb
    have Y2 : Hid (Box w2 (w.heap.size + 1) (.slice none 0 0) (.slice none 0 0) 26) := Y.out.keep hb
    have LT : Hid (w.heap.size + 1 < w1.heap.size) := Y.out.lt
    clear ha hb x1
    have y0 := Y2.out.c0
    have y1 := Y2.out.c1
    have f0 : w2.frozen? ⟨w.heap.size + 1, 0, none⟩ = false := free_at Y2.out 0
    have f1 : w2.frozen? ⟨w.heap.size + 1, 1, none⟩ = false := free_at Y2.out 1
    have HR : Hid (((w2.setCell ⟨w.heap.size + 1, 0, none⟩ (.slice a' 1 c')).setCell ⟨w.heap.size + 1, 1, none⟩ (.slice b' d.length e')).heap[w.heap.size + 1]? = some (.cells #[.slice a' 1 c', .slice b' d.length e'] 26 (0, 0))) := arr_stored Y2.out
    simp only [List.length_cons, List.length_nil, Nat.zero_add]
    go_wp2
    refine bodyPost_ret (results_arr_tmp Try.results27 _ _ (w.heap.size + 1) _ _ rfl HR.out) rfl ?_
    refine ⟨_, rfl, ?_, below_setCell (below_setCell HB2.out (by omega) _ _) (by omega) _ _⟩
    have L := LT.out
    rw [ES.out.1, ES.out.2]
    exact ((HA.out.setCell L _ _).setCell L _ _).mono (by omega) (by simp [size_setCell])
end Go.Proofs.Ytckbmbidpppncac
