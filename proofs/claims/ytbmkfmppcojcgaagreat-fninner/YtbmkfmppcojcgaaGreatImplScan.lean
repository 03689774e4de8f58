
/-
  Walks: the program's Scan.
-/
import Derived.Test.YtbmkfmppcojcgaaGreatScanN
import Derived.Test.YtbmkfmppcojcgaaGreatImplRed3
import Derived.Test.YtbmkfmppcojcgaaGreatImplOut1
import Derived.Test.YtbmkfmppcojcgaaGreatImplMake9
import Derived.Test.YtbmkfmppcojcgaaGreatSpecScan
namespace Go.Proofs.YtbmkfmppcojcgaaGreat
open Go.RowKit
set_option linter.unusedVariables false
set_option linter.unusedSimpArgs false
set_option maxHeartbeats 1000000 in
/-- reducing. -/
theorem reducing_impl (g : Int) (w : World) :
    Calls Tryz.prog 40 #[.int .i64 g] w fun r w' => r = .returned (.func (.func 68) #[] #[.pointer (some ⟨w.heap.size, 0, none⟩)]) ∧ w' = w.alloc (.cells #[.int .i64 g] 3) := by
  go_enter Tryz.func40, Tryz.ntmps40
  go_wp2
  go_ret
  exact ⟨rfl, rfl⟩
set_option maxRecDepth 20000 in
set_option maxHeartbeats 4000000 in
/-- alongRows, whatever the operator is. -/
theorem along_impl {g C : Int} {s d S D : List Int} {w : World} {v p : Value} {f : Nat} (hE : ∀ (args : Array Value) (w : World), (callFunc f args).run Tryz.prog w = .ok (.enter f args) w) (hA : ArrI w v s d) (hs : s.length ≤ 1048576) (hd : d.length ≤ 1048576)
    (hbad : ¬ (sign2 g = true ∧ arrOk s d = true) → C = 1 ∧ S = [] ∧ D = []) (hnil : sign2 g = true ∧ arrOk s d = true → s = [] → C = 0 ∧ S = [] ∧ D = d)
    (hV : ∀ (W : World) (u : Value), sign2 g = true → arrOk s d = true → s ≠ [] → Below w.heap.size w W → ArrI W u s d → Calls Tryz.prog f #[u, p] W fun r W' => ∃ v', r = .returned (.tuple #[v', .int .i64 C]) ∧ Arr W.heap.size W'.heap.size W' v' S D ∧ Below W.heap.size W W') :
    Calls Tryz.prog 39 #[.int .i64 g, v, .func (.func f) #[] #[p]] w fun r w' => ∃ v', r = .returned (.tuple #[v', .int .i64 C]) ∧ Arr w.heap.size w'.heap.size w' v' S D ∧ Below w.heap.size w w' := by
  have H : Hid (ArrI w v s d) := hA
  obtain ⟨a, c, b, e, rfl, _, _, _, _⟩ := hA
  have HD : Hid (d.length ≤ 1048576) := hd
  have HS : Hid (s.length ≤ 1048576) := hs
  have HV : Hid (∀ (W : World) (u : Value), sign2 g = true → arrOk s d = true → s ≠ [] → Below w.heap.size w W → ArrI W u s d → Calls Tryz.prog f #[u, p] W fun r W' => ∃ v', r = .returned (.tuple #[v', .int .i64 C]) ∧ Arr W.heap.size W'.heap.size W' v' S D ∧ Below W.heap.size W W') := hV
  have Hbad : Hid (¬ (sign2 g = true ∧ arrOk s d = true) → C = 1 ∧ S = [] ∧ D = []) := hbad
  have Hnil : Hid (sign2 g = true ∧ arrOk s d = true → s = [] → C = 0 ∧ S = [] ∧ D = d) := hnil
  clear hV hbad hnil hd hs
  obtain ⟨W1, hW1⟩ : ∃ W1, W1 = (w.alloc (.cells #[.slice a s.length c, .slice b d.length e] 26)).alloc (.cells #[.slice none 0 0, .slice none 0 0] 26) := ⟨_, rfl⟩
  have BW1 : Hid (Below w.heap.size w W1) := by rw [hW1]; exact bAlloc (bAlloc (Below.refl _ _) _) _
  have X1 : Hid (Box W1 w.heap.size (.slice a s.length c) (.slice b d.length e) 26) := by rw [hW1]; exact heap_alloc2_old w _ _
  have Y1 : Hid (Box W1 (w.heap.size + 1) (.slice none 0 0) (.slice none 0 0) 26) := by rw [hW1]; exact heap_alloc2_new w _ _
  go_enter Tryz.func39, Tryz.ntmps39
  go_wp2_with fail
  rw [← hW1]
  clear hW1
  refine (knownTwo_impl g _).mono ?_
  rintro r w2 ⟨rfl, hb⟩
  have B2 : Hid (Below w.heap.size w w2) := bTrans BW1.out hb
  have X2 : Hid (Box w2 w.heap.size (.slice a s.length c) (.slice b d.length e) 26) := X1.out.keep hb
  have Y2 : Hid (Box w2 (w.heap.size + 1) (.slice none 0 0) (.slice none 0 0) 26) := Y1.out.keep hb
  clear hb
  cases hg : sign2 g with
  | false =>
    obtain ⟨rfl, rfl, rfl⟩ := Hbad.out (by rw [hg]; simp)
    have y3 := Y2.out.c0
    have y4 := Y2.out.c1
    have f0 := free_at Y2.out 0
    have f1 := free_at Y2.out 1
    have HRR : Hid (_ = _) := arr_stored (x' := .slice none 0 0) (y' := .slice none 0 0) Y2.out
    go_wp2
    refine bodyPost_ret (results_arr_tmp Tryz.results39 _ _ (w.heap.size + 1) _ _ rfl HRR.out) rfl ?_
    exact ⟨_, rfl, arr_zero _ _ _, below_setCell (below_setCell B2.out (by omega) _ _) (by omega) _ _⟩
  | true =>
    have HG : Hid (sign2 g = true) := hg
    have x0 := X2.out.c0
    have x1 := X2.out.c1
    clear hg
    go_wp2_with fail
    refine (arrOk_impl (H.out.keep B2.out) HD.out).mono ?_
    rintro r w3 ⟨rfl, hb⟩
    have B3 : Hid (Below w.heap.size w w3) := bTrans B2.out hb
    have X3 : Hid (Box w3 w.heap.size (.slice a s.length c) (.slice b d.length e) 26) := X2.out.keep hb
    have Y3 : Hid (Box w3 (w.heap.size + 1) (.slice none 0 0) (.slice none 0 0) 26) := Y2.out.keep hb
    clear hb x0 x1
    cases ho : arrOk s d with
    | false =>
      obtain ⟨rfl, rfl, rfl⟩ := Hbad.out (by rw [ho]; simp)
      have y3 := Y3.out.c0
      have y4 := Y3.out.c1
      have f0 := free_at Y3.out 0
      have f1 := free_at Y3.out 1
      have HRR : Hid (_ = _) := arr_stored (x' := .slice none 0 0) (y' := .slice none 0 0) Y3.out
      go_wp2
      refine bodyPost_ret (results_arr_tmp Tryz.results39 _ _ (w.heap.size + 1) _ _ rfl HRR.out) rfl ?_
      exact ⟨_, rfl, arr_zero _ _ _, below_setCell (below_setCell B3.out (by omega) _ _) (by omega) _ _⟩
    | true =>
      have HO : Hid (arrOk s d = true) := ho
      have L3 : Hid (w.heap.size + 1 < w3.heap.size) := Y3.out.lt
      have x0 := X3.out.c0
      have x1 := X3.out.c1
      clear ho
      by_cases hs0 : s = []
      · obtain ⟨rfl, rfl, rfl⟩ := Hnil.out ⟨HG.out, HO.out⟩ hs0
        subst hs0
        have hl0 : (((0 : Nat) : Int) == 0) = true := rfl
        simp only [List.length_nil] at x0
        go_wp2_with fail
        refine (copyOf_impl (H.out.keep B3.out) HS.out HD.out).mono ?_
        rintro r w4 ⟨v4, rfl, ha, hb⟩
        obtain ⟨xa, xc, ya, yc, rfl, _, _, _, _⟩ := ha.arrI
        have HA : Hid (Arr w3.heap.size w4.heap.size w4 (.agg #[.slice xa 0 xc, .slice ya D.length yc]) [] D) := ha
        have B4 : Hid (Below w.heap.size w w4) := bTrans B3.out hb
        have Y4 : Hid (Box w4 (w.heap.size + 1) (.slice none 0 0) (.slice none 0 0) 26) := Y3.out.keep hb
        clear ha hb x0 x1
        simp only [List.length_nil]
        have y3 := Y4.out.c0
        have y4 := Y4.out.c1
        have f0 := free_at Y4.out 0
        have f1 := free_at Y4.out 1
        have HRR : Hid (_ = _) := arr_stored (x' := .slice xa 0 xc) (y' := .slice ya D.length yc) Y4.out
        go_wp2
        refine bodyPost_ret (results_arr_tmp Tryz.results39 _ _ (w.heap.size + 1) _ _ rfl HRR.out) rfl ?_
        refine ⟨_, rfl, ?_, below_setCell (below_setCell B4.out (by omega) _ _) (by omega) _ _⟩
        have L := L3.out
        exact ((HA.out.setCell (by omega) _ _).setCell (by omega) _ _).mono (by omega) (by simp only [size_setCell]; omega)
      · have n1 : ((s.length : Int) == 0) = false := by
          have := List.length_pos_iff.2 hs0
          simp; omega
        have HS0 : Hid (s ≠ []) := hs0
        clear hs0
        go_wp2_with fail
        refine (HV.out _ _ HG.out HO.out HS0.out B3.out (H.out.keep B3.out)).mono ?_
        rintro r w4 ⟨v4, rfl, ha, hb⟩
        obtain ⟨xa, xc, ya, yc, rfl, _, _, _, _⟩ := ha.arrI
        have HA : Hid (Arr w3.heap.size w4.heap.size w4 (.agg #[.slice xa S.length xc, .slice ya D.length yc]) S D) := ha
        have B4 : Hid (Below w.heap.size w w4) := bTrans B3.out hb
        have Y4 : Hid (Box w4 (w.heap.size + 1) (.slice none 0 0) (.slice none 0 0) 26) := Y3.out.keep hb
        clear ha hb x0 x1
        have y3 := Y4.out.c0
        have y4 := Y4.out.c1
        have f0 := free_at Y4.out 0
        have f1 := free_at Y4.out 1
        have HRR : Hid (_ = _) := arr_stored (x' := .slice xa S.length xc) (y' := .slice ya D.length yc) Y4.out
        go_wp2
        refine bodyPost_ret (results_arr_tmp Tryz.results39 _ _ (w.heap.size + 1) _ _ rfl HRR.out) rfl ?_
        refine ⟨_, rfl, ?_, below_setCell (below_setCell B4.out (by omega) _ _) (by omega) _ _⟩
        have L := L3.out
        exact ((HA.out.setCell (by omega) _ _).setCell (by omega) _ _).mono (by omega) (by simp only [size_setCell]; omega)
end Go.Proofs.YtbmkfmppcojcgaaGreat
