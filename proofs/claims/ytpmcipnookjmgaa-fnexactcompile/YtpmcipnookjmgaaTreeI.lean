/-
  Walks: the program's nodeOk and takenBy.
-/
import Derived.Test.YtpmcipnookjmgaaTreeM
import Derived.Test.YtpmcipnookjmgaaTreeQ
import Derived.Test.YtpmcipnookjmgaaCodeI
namespace Go.Proofs.Ytpmcipnookjmgaa
open Go.RowKit
set_option linter.unusedVariables false
set_option linter.unusedSimpArgs false
section
variable {e1 e2 e3 e4 e5 : Int} {l : List Int} {w : World} {xa : Option Addr} {xc : Nat}
set_option maxRecDepth 20000 in
set_option maxHeartbeats 8000000 in
theorem nodeOk1 (h : IntsI w (.slice xa l.length xc) l) (hl : l.length ≤ 1048576) : Calls Try.prog 28 #[.agg #[.int .i64 1, .int .i64 e1, .int .i64 e2, .int .i64 e3, .int .i64 e4, .int .i64 e5, .slice xa l.length xc]] w fun r w' => r = .returned (.bool (decide (e1 = 0) && decide (e2 = 0) && noFun e3 e4 e5 && numsB l)) ∧ Below w.heap.size w w' := by
  obtain ⟨_, _, ev, _, hi⟩ := h
  cases ev
  have HN : Hid (∀ W, Below w.heap.size w W → Calls Try.prog 40 #[.slice xa l.length xc] W fun e w' => e = .returned (.bool (numsB l)) ∧ w' = W) := fun W hb => numsOk_impl xc (hi.keep hb) hl
  clear hi
  generalize numsB l = q at *
  go_enter Try.func28, Try.ntmps28
  go_wp2_with (go_at_call 40; refine (HN.out _ one_below).mono ?_; rintro r w1 ⟨rfl, hw⟩; subst w1)
  all_goals
    go_ret
    refine ⟨ret_bool ?_, one_below⟩
    simp_all [noFun]
set_option maxRecDepth 20000 in
set_option maxHeartbeats 8000000 in
theorem nodeOk2 (h : IntsI w (.slice xa l.length xc) l) (hl : l.length ≤ 1048576) : Calls Try.prog 28 #[.agg #[.int .i64 2, .int .i64 e1, .int .i64 e2, .int .i64 e3, .int .i64 e4, .int .i64 e5, .slice xa l.length xc]] w fun r w' => r = .returned (.bool (decide (0 ≤ e1 ∧ e1 ≤ 25) && decide (e2 = 0) && noFun e3 e4 e5 && decide (l.length = 0))) ∧ Below w.heap.size w w' := by
  clear h
  generalize l.length = n at *
  have HI : Hid (∀ W, Calls Try.prog 41 #[.int .i64 e1] W fun r w' => r = .returned (.bool (decide (0 ≤ e1 ∧ e1 ≤ 25))) ∧ w' = W) := fun W => isLetter_impl e1 W
  generalize decide (0 ≤ e1 ∧ e1 ≤ 25) = q at *
  cases q
  · go_enter Try.func28, Try.ntmps28
    go_wp2_with (go_at_call 41; refine (HI.out _).mono ?_; rintro r w1 ⟨rfl, hw⟩; subst w1)
    all_goals
      go_ret
      exact ⟨by simp, one_below⟩
  · go_enter Try.func28, Try.ntmps28
    go_wp2_with (go_at_call 41; refine (HI.out _).mono ?_; rintro r w1 ⟨rfl, hw⟩; subst w1)
    all_goals
      go_ret
      refine ⟨ret_bool ?_, one_below⟩
      first | (simp_all [noFun]; done) | (simp_all [noFun]; rw [Bool.eq_iff_iff]; simp; done) | (simp_all [noFun]; rw [Bool.eq_iff_iff]; simp; omega)
set_option maxRecDepth 20000 in
set_option maxHeartbeats 8000000 in
theorem nodeOk3 (h : IntsI w (.slice xa l.length xc) l) (hl : l.length ≤ 1048576) : Calls Try.prog 28 #[.agg #[.int .i64 3, .int .i64 e1, .int .i64 e2, .int .i64 e3, .int .i64 e4, .int .i64 e5, .slice xa l.length xc]] w fun r w' => r = .returned (.bool (decide (0 ≤ e1 ∧ e1 ≤ 25) && noFun e3 e4 e5 && decide (l.length = 0))) ∧ Below w.heap.size w w' := by
  clear h
  generalize l.length = n at *
  have HI : Hid (∀ W, Calls Try.prog 41 #[.int .i64 e1] W fun r w' => r = .returned (.bool (decide (0 ≤ e1 ∧ e1 ≤ 25))) ∧ w' = W) := fun W => isLetter_impl e1 W
  generalize decide (0 ≤ e1 ∧ e1 ≤ 25) = q at *
  cases q
  · go_enter Try.func28, Try.ntmps28
    go_wp2_with (go_at_call 41; refine (HI.out _).mono ?_; rintro r w1 ⟨rfl, hw⟩; subst w1)
    all_goals
      go_ret
      exact ⟨by simp, one_below⟩
  · go_enter Try.func28, Try.ntmps28
    go_wp2_with (go_at_call 41; refine (HI.out _).mono ?_; rintro r w1 ⟨rfl, hw⟩; subst w1)
    all_goals
      go_ret
      refine ⟨ret_bool ?_, one_below⟩
      first | (simp_all [noFun]; done) | (simp_all [noFun]; rw [Bool.eq_iff_iff]; simp; done) | (simp_all [noFun]; rw [Bool.eq_iff_iff]; simp; omega)
set_option maxRecDepth 20000 in
set_option maxHeartbeats 8000000 in
theorem nodeOk4 (h : IntsI w (.slice xa l.length xc) l) (hl : l.length ≤ 1048576) : Calls Try.prog 28 #[.agg #[.int .i64 4, .int .i64 e1, .int .i64 e2, .int .i64 e3, .int .i64 e4, .int .i64 e5, .slice xa l.length xc]] w fun r w' => r = .returned (.bool (decide (e1 = 0) && funOneB e3 e4 e5 && decide (l.length = 0))) ∧ Below w.heap.size w w' := by
  clear h
  generalize l.length = n at *
  by_cases h1 : e1 = 0
  · subst h1
    have HF : Hid (∀ W, Calls Try.prog 42 #[.agg #[.int .i64 e3, .int .i64 e4, .int .i64 e5]] W fun e w' => e = .returned (.bool (funOneB e3 e4 e5)) ∧ Below W.heap.size W w') := fun W => funOne_impl _ _ _ _
    generalize funOneB e3 e4 e5 = q at *
    go_enter Try.func28, Try.ntmps28
    go_wp2_with fail
    refine (HF.out _).mono ?_
    rintro r w1 ⟨rfl, hb⟩
    have B1 : Hid (Below w.heap.size w w1) := bTrans one_below hb
    have c6 : w1.cell? ⟨w.heap.size, 6, none⟩ = some (.slice xa n xc) := (hb.cell (p := ⟨w.heap.size, 6, none⟩) (by simp)).trans (cell_at (heap_alloc_new w (.cells #[.int .i64 4, .int .i64 0, .int .i64 e2, .int .i64 e3, .int .i64 e4, .int .i64 e5, .slice xa n xc] 44)) rfl)
    clear hb HF
    cases q
    · go_wp2
      go_ret
      exact ⟨by simp, B1.out⟩
    · go_wp2
      all_goals
        go_ret
        refine ⟨ret_bool ?_, B1.out⟩
        first | (simp_all [noFun]; done) | (simp_all [noFun]; rw [Bool.eq_iff_iff]; simp; done) | (simp_all [noFun]; rw [Bool.eq_iff_iff]; simp; omega)
  · have b1 : (e1 == 0) = false := by simpa using h1
    have d1 : decide (e1 = 0) = false := decide_eq_false h1
    rw [d1]
    clear h1
    go_enter Try.func28, Try.ntmps28
    go_wp2
    go_ret
    exact ⟨by simp, one_below⟩
set_option maxRecDepth 20000 in
set_option maxHeartbeats 8000000 in
theorem nodeOk5 (h : IntsI w (.slice xa l.length xc) l) (hl : l.length ≤ 1048576) : Calls Try.prog 28 #[.agg #[.int .i64 5, .int .i64 e1, .int .i64 e2, .int .i64 e3, .int .i64 e4, .int .i64 e5, .slice xa l.length xc]] w fun r w' => r = .returned (.bool (funTwoB e3 e4 e5 && decide (l.length = 0))) ∧ Below w.heap.size w w' := by
  clear h
  generalize l.length = n at *
  have HF : Hid (∀ W, Calls Try.prog 43 #[.agg #[.int .i64 e3, .int .i64 e4, .int .i64 e5]] W fun e w' => e = .returned (.bool (funTwoB e3 e4 e5)) ∧ Below W.heap.size W w') := fun W => funTwo_impl _ _ _ _
  generalize funTwoB e3 e4 e5 = q at *
  go_enter Try.func28, Try.ntmps28
  go_wp2_with fail
  refine (HF.out _).mono ?_
  rintro r w1 ⟨rfl, hb⟩
  have B1 : Hid (Below w.heap.size w w1) := bTrans one_below hb
  have c6 : w1.cell? ⟨w.heap.size, 6, none⟩ = some (.slice xa n xc) := (hb.cell (p := ⟨w.heap.size, 6, none⟩) (by simp)).trans (cell_at (heap_alloc_new w (.cells #[.int .i64 5, .int .i64 e1, .int .i64 e2, .int .i64 e3, .int .i64 e4, .int .i64 e5, .slice xa n xc] 44)) rfl)
  clear hb HF
  cases q
  · go_wp2
    go_ret
    exact ⟨by simp, B1.out⟩
  · go_wp2
    all_goals
      go_ret
      refine ⟨ret_bool ?_, B1.out⟩
      first | (simp_all [noFun]; done) | (simp_all [noFun]; rw [Bool.eq_iff_iff]; simp; done) | (simp_all [noFun]; rw [Bool.eq_iff_iff]; simp; omega)
set_option maxRecDepth 20000 in
set_option maxHeartbeats 8000000 in
theorem nodeOk0 {e0 : Int} (h1 : e0 ≠ 1) (h2 : e0 ≠ 2) (h3 : e0 ≠ 3) (h4 : e0 ≠ 4) (h5 : e0 ≠ 5) : Calls Try.prog 28 #[.agg #[.int .i64 e0, .int .i64 e1, .int .i64 e2, .int .i64 e3, .int .i64 e4, .int .i64 e5, .slice xa l.length xc]] w fun r w' => r = .returned (.bool false) ∧ Below w.heap.size w w' := by
  have b1 : (e0 == 1) = false := by simpa using h1
  have b2 : (e0 == 2) = false := by simpa using h2
  have b3 : (e0 == 3) = false := by simpa using h3
  have b4 : (e0 == 4) = false := by simpa using h4
  have b5 : (e0 == 5) = false := by simpa using h5
  clear h1 h2 h3 h4 h5
  go_enter Try.func28, Try.ntmps28
  go_wp2
  go_ret
  exact ⟨rfl, one_below⟩
end
/-- The program's nodeOk. -/
theorem nodeOk_impl (e : Nat → Int) {l : List Int} {w : World} {xa : Option Addr} {xc : Nat} (h : IntsI w (.slice xa l.length xc) l) (hl : l.length ≤ 1048576) : Calls Try.prog 28 #[.agg #[.int .i64 (e 0), .int .i64 (e 1), .int .i64 (e 2), .int .i64 (e 3), .int .i64 (e 4), .int .i64 (e 5), .slice xa l.length xc]] w fun r w' => r = .returned (.bool (nodeB e l)) ∧ Below w.heap.size w w' := by
  unfold nodeB
  by_cases h1 : e 0 = 1
  · rw [if_pos h1, h1]; exact nodeOk1 h hl
  rw [if_neg h1]
  by_cases h2 : e 0 = 2
  · rw [if_pos h2, h2]; exact nodeOk2 h hl
  rw [if_neg h2]
  by_cases h3 : e 0 = 3
  · rw [if_pos h3, h3]; exact nodeOk3 h hl
  rw [if_neg h3]
  by_cases h4 : e 0 = 4
  · rw [if_pos h4, h4]; exact nodeOk4 h hl
  rw [if_neg h4]
  by_cases h5 : e 0 = 5
  · rw [if_pos h5, h5]; exact nodeOk5 h hl
  rw [if_neg h5]
  exact nodeOk0 h1 h2 h3 h4 h5
theorem ints_new2 (w : World) (A : Obj) (l : List Int) (t : TypeId) : Ints ((w.alloc A).alloc (.cells (vals l) t)) (some ⟨w.heap.size + 1, 0, none⟩) l := by
  have := ints_new (w.alloc A) l t
  rwa [World.size_alloc] at this
/-- What takenBy answers. -/
def TakPost (w : World) (L : List Int) (r : Ending) (w' : World) : Prop := ∃ a c, r = .returned (.slice a L.length c) ∧ Ints w' a L ∧ Below w.heap.size w w'
section
variable {e0 e1 e2 e3 e4 e5 : Int} {n : Nat} {w : World} {xa : Option Addr} {xc : Nat}
set_option maxRecDepth 20000 in
set_option maxHeartbeats 8000000 in
theorem taken3 : Calls Try.prog 27 #[.agg #[.int .i64 3, .int .i64 e1, .int .i64 e2, .int .i64 e3, .int .i64 e4, .int .i64 e5, .slice xa n xc]] w fun r w' => TakPost w [e2] r w' := by
  go_enter Try.func27, Try.ntmps27
  go_wp2
  go_ret
  exact ⟨_, _, rfl, ints_new2 w _ [e2] _, two_below⟩
set_option maxRecDepth 20000 in
set_option maxHeartbeats 8000000 in
theorem taken4 : Calls Try.prog 27 #[.agg #[.int .i64 4, .int .i64 e1, .int .i64 e2, .int .i64 e3, .int .i64 e4, .int .i64 e5, .slice xa n xc]] w fun r w' => TakPost w [e2] r w' := by
  go_enter Try.func27, Try.ntmps27
  go_wp2
  go_ret
  exact ⟨_, _, rfl, ints_new2 w _ [e2] _, two_below⟩
set_option maxRecDepth 20000 in
set_option maxHeartbeats 8000000 in
theorem taken5 : Calls Try.prog 27 #[.agg #[.int .i64 5, .int .i64 e1, .int .i64 e2, .int .i64 e3, .int .i64 e4, .int .i64 e5, .slice xa n xc]] w fun r w' => TakPost w [e2, e1] r w' := by
  go_enter Try.func27, Try.ntmps27
  go_wp2
  go_ret
  exact ⟨_, _, rfl, ints_new2 w _ [e2, e1] _, two_below⟩
set_option maxRecDepth 20000 in
set_option maxHeartbeats 8000000 in
theorem taken0 (h3 : e0 ≠ 3) (h4 : e0 ≠ 4) (h5 : e0 ≠ 5) : Calls Try.prog 27 #[.agg #[.int .i64 e0, .int .i64 e1, .int .i64 e2, .int .i64 e3, .int .i64 e4, .int .i64 e5, .slice xa n xc]] w fun r w' => TakPost w [] r w' := by
  have b3 : (e0 == 3) = false := by simpa using h3
  have b4 : (e0 == 4) = false := by simpa using h4
  have b5 : (e0 == 5) = false := by simpa using h5
  clear h3 h4 h5
  go_enter Try.func27, Try.ntmps27
  go_wp2
  go_ret
  exact ⟨_, _, rfl, .inl rfl, one_below⟩
end
/-- takenBy. -/
theorem takenBy_impl (e : Nat → Int) {n : Nat} {w : World} {xa : Option Addr} {xc : Nat} : Calls Try.prog 27 #[.agg #[.int .i64 (e 0), .int .i64 (e 1), .int .i64 (e 2), .int .i64 (e 3), .int .i64 (e 4), .int .i64 (e 5), .slice xa n xc]] w fun r w' => TakPost w (takL e) r w' := by
  unfold takL
  by_cases h3 : e 0 = 3
  · rw [if_pos (.inl h3), h3]; exact taken3
  by_cases h4 : e 0 = 4
  · rw [if_pos (.inr h4), h4]; exact taken4
  rw [if_neg (fun h => h.elim h3 h4)]
  by_cases h5 : e 0 = 5
  · rw [if_pos h5, h5]; exact taken5
  rw [if_neg h5]
  exact taken0 h3 h4 h5
end Go.Proofs.Ytpmcipnookjmgaa
