
/-
  Walks: the specification's ShapeOf, Ravel, l5Vector, l5Right.
-/
import Derived.Test.YtfmheanmkfdjnapRowsM
import Derived.Test.YtfmheanmkfdjnapSpecArr2
import Derived.Test.YtfmheanmkfdjnapLaw3
namespace Go.Proofs.Ytfmheanmkfdjnap
open Go.RowKit
set_option linter.unusedVariables false
set_option linter.unusedSimpArgs false
theorem okC_good {s d : List Int} (h : arrOk s d = true) : okC s d = 0 := by unfold okC; rw [if_pos h]
theorem okC_bad {s d : List Int} (h : ¬ arrOk s d = true) : okC s d = 1 := by unfold okC; rw [if_neg h]
set_option maxRecDepth 20000 in
set_option maxHeartbeats 2000000 in
/-- l5Vector: the array itself, or a vector of it. -/
theorem vec5_spec {s d : List Int} {w : World} {v : Value} (h : ArrI w v s d) (hd : d.length ≤ 1048576) :
    Calls Try.prog 41 #[v] w fun e w' => ∃ v', e = .returned v' ∧ ArrI w' v' (vecS s d) d ∧ Below w.heap.size w w' := by
  have H : Hid (ArrI w v s d) := h
  obtain ⟨a, c, b, f, rfl, h1, h2, _, _⟩ := h
  have H2 : Hid (Ints w b d) := h2
  have HD : Hid (d.length ≤ 1048576) := hd
  clear h1 h2 hd
  by_cases e : s = []
  · subst e
    obtain ⟨Z, hZ⟩ : ∃ Z : List Int, Z = [(d.length : Int)] := ⟨_, rfl⟩
    have EV : vecS [] d = Z := by unfold vecS; rw [if_pos rfl, hZ]
    have HV : Hid (∀ W, Ints W b d → Calls Try.prog 66 #[.slice b d.length f] W fun e w' => ∃ v, e = .returned v ∧ Arr W.heap.size w'.heap.size w' v Z d ∧ Below W.heap.size W w') := fun W h => by rw [hZ]; exact vector_spec f h HD.out
    rw [EV]
    clear EV hZ
    go_enter Try.func41, Try.ntmps41
    go_wp2_with fail
    refine (HV.out _ (H2.out.keep (bAlloc (bAlloc (Below.refl _ _) _) _))).mono ?_
    rintro r w2 ⟨v', rfl, ha, hb⟩
    obtain ⟨a', c', b', f', rfl, _, _, _, _⟩ := ha.arrI
    have HA : Hid (Arr (w.heap.size + 2) w2.heap.size w2 (.agg #[.slice a' Z.length c', .slice b' d.length f']) Z d) := ha.mono (by simp) (Nat.le_refl _)
    have HB2 : Hid (Below w.heap.size w w2) := bTrans (bAlloc (bAlloc (Below.refl _ _) _) _) hb
    have Y2 : Hid (Box w2 (w.heap.size + 1) (.slice none 0 0) (.slice none 0 0) 26) := (box_new2 w _ _ _ _).keep hb
    clear ha hb
    have y0 := Y2.out.c0
    have y1 := Y2.out.c1
    have f0 : w2.frozen? ⟨w.heap.size + 1, 0, none⟩ = false := free_at Y2.out 0
    have f1 : w2.frozen? ⟨w.heap.size + 1, 1, none⟩ = false := free_at Y2.out 1
    have HR : Hid (((w2.setCell ⟨w.heap.size + 1, 0, none⟩ (.slice a' Z.length c')).setCell ⟨w.heap.size + 1, 1, none⟩ (.slice b' d.length f')).heap[w.heap.size + 1]? = some (.cells #[.slice a' Z.length c', .slice b' d.length f'] 26 (0, 0))) := arr_stored Y2.out
    go_wp2
    refine bodyPost_ret (v := .agg #[.slice a' Z.length c', .slice b' d.length f']) (results_arr rfl _ _ (w.heap.size + 1) _ _ rfl HR.out) rfl ?_
    refine ⟨_, rfl, ?_, below_setCell (below_setCell HB2.out (by omega) _ _) (by omega) _ _⟩
    exact ((HA.out.setCell (by omega) _ _).setCell (by omega) _ _).arrI
  · have EV : vecS s d = s := by unfold vecS; rw [if_neg e]
    have n1 : ((s.length : Int) == 0) = false := by
      have := List.length_pos_iff.2 e
      simp; omega
    rw [EV]
    clear EV e
    go_enter Try.func41, Try.ntmps41
    go_wp2
    refine bodyPost_ret (v := .agg #[.slice a s.length c, .slice b d.length f]) (results_arr rfl _ _ (w.heap.size + 1) _ _ rfl (box_new2 w _ _ _ _)) rfl ?_
    exact ⟨_, rfl, H.out.keep (bAlloc (bAlloc (Below.refl _ _) _) _), bAlloc (bAlloc (Below.refl _ _) _) _⟩
/-- What l5Right makes of an array. -/
def rightR (s d : List Int) : Int × List Int × List Int := mkR (if arrOk s d = true then 0 else 6) s d
end Go.Proofs.Ytfmheanmkfdjnap
