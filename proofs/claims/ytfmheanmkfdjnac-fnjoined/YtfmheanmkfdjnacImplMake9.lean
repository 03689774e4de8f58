/-
  Walks: the program's rowsFrom.
-/
import Derived.Test.YtfmheanmkfdjnacImplMake5
import Derived.Test.YtfmheanmkfdjnacMakeQ
namespace Go.Proofs.Ytfmheanmkfdjnac
open Go.RowKit
set_option linter.unusedVariables false
set_option linter.unusedSimpArgs false
theorem cell_keep6 {w w' : World} {o : Nat} {x : Value} (h : w.cell? ⟨o, 0, none⟩ = some x) (ho : o < w.heap.size) (hb : Below w.heap.size w w') : w'.cell? ⟨o, 0, none⟩ = some x := by rw [hb.cell (p := ⟨o, 0, none⟩) ho]; exact h
theorem from1_impl {N : Int} {k o : Nat} {W : World} (h : W.cell? ⟨o, 0, none⟩ = some (.int .i64 N)) (h0 : -2000000000000 ≤ N) (h1 : N ≤ 2000000000000) (hk : (k : Int) ≤ 300) :
    Calls Try.prog 128 #[.int .i64 (k : Int), .pointer (some ⟨o, 0, none⟩)] W fun r W' => r = .returned (.int .i64 (N + (k : Int))) ∧ W' = W := by
  go_enter Try.func128, Try.ntmps128
  go_wp2
  go_ret
  exact ⟨by go_num, rfl⟩
theorem three5 (w : World) (A B C : Obj) :
    (((w.alloc A).alloc B).alloc C).heap[w.heap.size]? = some A ∧ (((w.alloc A).alloc B).alloc C).heap[w.heap.size + 1]? = some B ∧ (((w.alloc A).alloc B).alloc C).heap[w.heap.size + 1 + 1]? = some C := by
  have e1 := heap_alloc_new w A
  have e2 := heap_alloc_new (w.alloc A) B
  have e3 := heap_alloc_new ((w.alloc A).alloc B) C
  simp only [World.size_alloc] at e2 e3
  refine ⟨?_, ?_, e3⟩
  · rw [heap_alloc_old _ _ (by simp only [World.size_alloc]; omega), heap_alloc_old _ _ (by simp only [World.size_alloc]; omega)]; exact e1
  · rw [heap_alloc_old _ _ (by simp only [World.size_alloc]; omega)]; exact e2
set_option maxRecDepth 20000 in
set_option maxHeartbeats 4000000 in
/-- rowsFrom. -/
theorem from_impl {s d : List Int} {w : World} {v : Value} {N z : Int} {n : Nat} (hzn : z = (n : Int)) (h : ArrI w v s d) (ho : arrOk s d = true) (hs : s ≠ []) (hz : 0 ≤ sizeV ((n : Int) :: s.drop 1)) (h0 : -2000000000000 ≤ N) (h1 : N ≤ 2000000000000) :
    Calls Try.prog 92 #[v, .int .i64 N, .int .i64 z] w fun r w' => ∃ v', r = .returned v' ∧ Arr w.heap.size w'.heap.size w' v' ((n : Int) :: s.drop 1) (chosenD s d (fun k => N + (k : Int)) n) ∧ Below w.heap.size w w' := by
  have hn3 := dim5 hz
  have HCH : Hid (∀ (W : World) (o : Nat), Below w.heap.size w W → W.cell? ⟨o, 0, none⟩ = some (.int .i64 N) → o < W.heap.size → Calls Try.prog 127 #[v, .int .i64 z, .func (.func 128) #[] #[.pointer (some ⟨o, 0, none⟩)]] W fun r w' => ∃ v', r = .returned v' ∧ Arr W.heap.size w'.heap.size w' v' ((n : Int) :: s.drop 1) (chosenD s d (fun k => N + (k : Int)) n) ∧ Below W.heap.size W w') := fun W o hb hc hoW =>
    chosen_impl (s := s) (d := d) (w := W) (v := v) (p := .pointer (some ⟨o, 0, none⟩)) (f := 128) (n := n) (φ := fun k => N + (k : Int)) hzn (enters_of Try.func128 (by kernel_rfl) rfl) (h.keep hb) ho hs hz (fun W' k hk hb' => by
      refine (from1_impl (cell_keep6 hc hoW hb') h0 h1 (by omega)).mono ?_
      rintro r w' ⟨rfl, rfl⟩
      exact ⟨rfl, Below.refl _ _⟩)
  obtain ⟨a, c, b, e, rfl, ia, ib, ga, gb⟩ := h
  generalize (n : Int) :: s.drop 1 = S at *
  generalize chosenD s d (fun k => N + (k : Int)) n = D at *
  clear ia ib ga gb hz ho hs h0 h1 hn3 hzn
  go_enter Try.func92, Try.ntmps92
  have q3 := three5 w (.cells #[.slice a s.length c, .slice b d.length e] 26) (.cells #[.int .i64 N] 3) (.cells #[.slice none 0 0, .slice none 0 0] 26)
  have HQ : Hid (_ ∧ _ ∧ _) := q3
  clear q3
  go_wp2_with fail
  refine (HCH.out _ _ (bAlloc (bAlloc (bAlloc (Below.refl _ _) _) _) _) (cell_at (cs := #[.int .i64 N]) HQ.out.2.1 rfl) (lt_of_heapA HQ.out.2.1)).mono ?_
  rintro r w1 ⟨v', rfl, ha, hb⟩
  obtain ⟨a2, c2, b2, e2, rfl, _, _, _, _⟩ := ha.arrI
  have HA : Hid (Arr (w.heap.size + 1 + 1 + 1) w1.heap.size w1 (.agg #[.slice a2 S.length c2, .slice b2 D.length e2]) S D) := ha.mono (by simp) (Nat.le_refl _)
  have HB : Hid (Below w.heap.size w w1) := bTrans (bAlloc (bAlloc (bAlloc (Below.refl _ _) _) _) _) hb
  have R : Hid (Box w1 (w.heap.size + 1 + 1) (.slice none 0 0) (.slice none 0 0) 26) := Box.keep HQ.out.2.2 hb
  clear ha hb HQ
  have y0 := R.out.c0
  have y1 := R.out.c1
  have f0 : w1.frozen? ⟨w.heap.size + 1 + 1, 0, none⟩ = false := free_at R.out 0
  have f1 : w1.frozen? ⟨w.heap.size + 1 + 1, 1, none⟩ = false := free_at R.out 1
  have HR : Hid (((w1.setCell ⟨w.heap.size + 1 + 1, 0, none⟩ (.slice a2 S.length c2)).setCell ⟨w.heap.size + 1 + 1, 1, none⟩ (.slice b2 D.length e2)).heap[w.heap.size + 1 + 1]? = some (.cells #[.slice a2 S.length c2, .slice b2 D.length e2] 26 (0, 0))) := arr_stored R.out
  go_wp2
  refine bodyPost_ret (v := .agg #[.slice a2 S.length c2, .slice b2 D.length e2]) (results_arr rfl _ _ (w.heap.size + 1 + 1) _ _ rfl HR.out) rfl ?_
  refine ⟨_, rfl, ?_, below_setCell (below_setCell HB.out (by omega) _ _) (by omega) _ _⟩
  exact ((HA.out.setCell (by omega) _ _).setCell (by omega) _ _).mono (by omega) (by simp [size_setCell])
end Go.Proofs.Ytfmheanmkfdjnac
