/-
  Walks: the specification's l11Instr.
-/
import Derived.Test.YtpommfkbkknjaaaCodeS
namespace Go.Proofs.Ytpommfkbkknjaaa
open Go.RowKit
set_option linter.unusedVariables false
set_option linter.unusedSimpArgs false
section
variable {e1 e2 e3 e4 : Int} {l : List Int} {w : World} {xa : Option Addr} {xc : Nat}
set_option maxRecDepth 20000 in
set_option maxHeartbeats 8000000 in
theorem ins_spec1 (h : IntsI w (.slice xa l.length xc) l) (hl : l.length ≤ 1048576) : Calls Try.prog 25 #[.agg #[.int .i64 1, .int .i64 e1, .int .i64 e2, .int .i64 e3, .int .i64 e4, .slice xa l.length xc]] w fun r w' => r = .returned (.bool (decide (e1 = 0) && noFun e2 e3 e4 && numsB l)) ∧ Below w.heap.size w w' := by
  obtain ⟨_, _, ev, _, hi⟩ := h
  cases ev
  have HN : Hid (∀ W, Below w.heap.size w W → Calls Try.prog 36 #[.slice xa l.length xc] W fun e w' => e = .returned (.bool (numsB l)) ∧ w' = W) := fun W hb => nums9_spec xc (hi.keep hb) hl
  clear hi
  generalize numsB l = q at *
  go_enter Try.func25, Try.ntmps25
  go_wp2_with (go_at_call 36; refine (HN.out _ two_below).mono ?_; rintro r w1 ⟨rfl, hw⟩; subst w1)
  all_goals
    go_ret
    refine ⟨ret_bool ?_, two_below⟩
    simp_all [noFun]
set_option maxRecDepth 20000 in
set_option maxHeartbeats 8000000 in
theorem ins_spec2 (h : IntsI w (.slice xa l.length xc) l) (hl : l.length ≤ 1048576) : Calls Try.prog 25 #[.agg #[.int .i64 2, .int .i64 e1, .int .i64 e2, .int .i64 e3, .int .i64 e4, .slice xa l.length xc]] w fun r w' => r = .returned (.bool (decide (0 ≤ e1 ∧ e1 ≤ 25) && noFun e2 e3 e4 && decide (l.length = 0))) ∧ Below w.heap.size w w' := by
  have E : decide (0 ≤ e1 ∧ e1 ≤ 25) = (decide (0 ≤ e1) && decide (e1 ≤ 25)) := by rw [Bool.eq_iff_iff]; simp
  rw [E]
  clear E h
  generalize l.length = n at *
  cases hq : (decide (0 ≤ e1) && decide (e1 ≤ 25))
  · go_enter Try.func25, Try.ntmps25
    go_wp2_with (go_at_call 24; refine (in_spec _ _ _ _).mono ?_; rintro r w1 ⟨rfl, hw⟩; subst w1; rw [hq])
    all_goals
      go_ret
      exact ⟨by simp, two_below⟩
  · go_enter Try.func25, Try.ntmps25
    go_wp2_with (go_at_call 24; refine (in_spec _ _ _ _).mono ?_; rintro r w1 ⟨rfl, hw⟩; subst w1; rw [hq])
    all_goals
      go_ret
      refine ⟨ret_bool ?_, two_below⟩
      clear hq
      first | (simp_all [noFun]; done) | (simp_all [noFun]; rw [Bool.eq_iff_iff]; simp; done) | (simp_all [noFun]; rw [Bool.eq_iff_iff]; simp; omega)
set_option maxRecDepth 20000 in
set_option maxHeartbeats 8000000 in
theorem ins_spec3 (h : IntsI w (.slice xa l.length xc) l) (hl : l.length ≤ 1048576) : Calls Try.prog 25 #[.agg #[.int .i64 3, .int .i64 e1, .int .i64 e2, .int .i64 e3, .int .i64 e4, .slice xa l.length xc]] w fun r w' => r = .returned (.bool (decide (0 ≤ e1 ∧ e1 ≤ 25) && noFun e2 e3 e4 && decide (l.length = 0))) ∧ Below w.heap.size w w' := by
  have E : decide (0 ≤ e1 ∧ e1 ≤ 25) = (decide (0 ≤ e1) && decide (e1 ≤ 25)) := by rw [Bool.eq_iff_iff]; simp
  rw [E]
  clear E h
  generalize l.length = n at *
  cases hq : (decide (0 ≤ e1) && decide (e1 ≤ 25))
  · go_enter Try.func25, Try.ntmps25
    go_wp2_with (go_at_call 24; refine (in_spec _ _ _ _).mono ?_; rintro r w1 ⟨rfl, hw⟩; subst w1; rw [hq])
    all_goals
      go_ret
      exact ⟨by simp, two_below⟩
  · go_enter Try.func25, Try.ntmps25
    go_wp2_with (go_at_call 24; refine (in_spec _ _ _ _).mono ?_; rintro r w1 ⟨rfl, hw⟩; subst w1; rw [hq])
    all_goals
      go_ret
      refine ⟨ret_bool ?_, two_below⟩
      clear hq
      first | (simp_all [noFun]; done) | (simp_all [noFun]; rw [Bool.eq_iff_iff]; simp; done) | (simp_all [noFun]; rw [Bool.eq_iff_iff]; simp; omega)
set_option maxRecDepth 20000 in
set_option maxHeartbeats 8000000 in
theorem ins_spec4 (h : IntsI w (.slice xa l.length xc) l) (hl : l.length ≤ 1048576) : Calls Try.prog 25 #[.agg #[.int .i64 4, .int .i64 e1, .int .i64 e2, .int .i64 e3, .int .i64 e4, .slice xa l.length xc]] w fun r w' => r = .returned (.bool (decide (e1 = 0) && funOneB e2 e3 e4 && decide (l.length = 0))) ∧ Below w.heap.size w w' := by
  clear h
  generalize l.length = n at *
  by_cases h1 : e1 = 0
  · subst h1
    have HF : Hid (∀ W, Calls Try.prog 37 #[.agg #[.int .i64 e2, .int .i64 e3, .int .i64 e4]] W fun e w' => e = .returned (.bool (funOneB e2 e3 e4)) ∧ Below W.heap.size W w') := fun W => funOne_spec _ _ _ _
    generalize funOneB e2 e3 e4 = q at *
    go_enter Try.func25, Try.ntmps25
    go_wp2_with fail
    refine (HF.out _).mono ?_
    rintro r w1 ⟨rfl, hb⟩
    have B1 : Hid (Below w.heap.size w w1) := bTrans two_below hb
    have c5 : w1.cell? ⟨w.heap.size, 5, none⟩ = some (.slice xa n xc) := (hb.cell (p := ⟨w.heap.size, 5, none⟩) (by simp; omega)).trans (cell_at (two_blocks9 w (.cells #[.int .i64 4, .int .i64 0, .int .i64 e2, .int .i64 e3, .int .i64 e4, .slice xa n xc] 44) (.cells #[.int .i64 0, .int .i64 0, .int .i64 0] 42)).1 rfl)
    clear hb HF
    cases q
    · go_wp2
      go_ret
      exact ⟨by simp, B1.out⟩
    · go_wp2
      all_goals
        go_ret
        refine ⟨ret_bool ?_, B1.out⟩
        first | (simp_all; done) | (simp_all; rw [Bool.eq_iff_iff]; simp; done) | (simp_all; rw [Bool.eq_iff_iff]; simp; omega)
  · have b1 : (e1 == 0) = false := by simpa using h1
    have d1 : decide (e1 = 0) = false := decide_eq_false h1
    rw [d1]
    clear h1
    go_enter Try.func25, Try.ntmps25
    go_wp2
    go_ret
    exact ⟨by simp, two_below⟩
set_option maxRecDepth 20000 in
set_option maxHeartbeats 8000000 in
theorem ins_spec5 (h : IntsI w (.slice xa l.length xc) l) (hl : l.length ≤ 1048576) : Calls Try.prog 25 #[.agg #[.int .i64 5, .int .i64 e1, .int .i64 e2, .int .i64 e3, .int .i64 e4, .slice xa l.length xc]] w fun r w' => r = .returned (.bool (decide (e1 = 0) && funTwoB e2 e3 e4 && decide (l.length = 0))) ∧ Below w.heap.size w w' := by
  clear h
  generalize l.length = n at *
  by_cases h1 : e1 = 0
  · subst h1
    have HF : Hid (∀ W, Calls Try.prog 38 #[.agg #[.int .i64 e2, .int .i64 e3, .int .i64 e4]] W fun e w' => e = .returned (.bool (funTwoB e2 e3 e4)) ∧ Below W.heap.size W w') := fun W => funTwo_spec _ _ _ _
    generalize funTwoB e2 e3 e4 = q at *
    go_enter Try.func25, Try.ntmps25
    go_wp2_with fail
    refine (HF.out _).mono ?_
    rintro r w1 ⟨rfl, hb⟩
    have B1 : Hid (Below w.heap.size w w1) := bTrans two_below hb
    have c5 : w1.cell? ⟨w.heap.size, 5, none⟩ = some (.slice xa n xc) := (hb.cell (p := ⟨w.heap.size, 5, none⟩) (by simp; omega)).trans (cell_at (two_blocks9 w (.cells #[.int .i64 5, .int .i64 0, .int .i64 e2, .int .i64 e3, .int .i64 e4, .slice xa n xc] 44) (.cells #[.int .i64 0, .int .i64 0, .int .i64 0] 42)).1 rfl)
    clear hb HF
    cases q
    · go_wp2
      go_ret
      exact ⟨by simp, B1.out⟩
    · go_wp2
      all_goals
        go_ret
        refine ⟨ret_bool ?_, B1.out⟩
        first | (simp_all; done) | (simp_all; rw [Bool.eq_iff_iff]; simp; done) | (simp_all; rw [Bool.eq_iff_iff]; simp; omega)
  · have b1 : (e1 == 0) = false := by simpa using h1
    have d1 : decide (e1 = 0) = false := decide_eq_false h1
    rw [d1]
    clear h1
    go_enter Try.func25, Try.ntmps25
    go_wp2
    go_ret
    exact ⟨by simp, two_below⟩
set_option maxRecDepth 20000 in
set_option maxHeartbeats 8000000 in
theorem ins_spec0 {e0 : Int} (h1 : e0 ≠ 1) (h2 : e0 ≠ 2) (h3 : e0 ≠ 3) (h4 : e0 ≠ 4) (h5 : e0 ≠ 5) : Calls Try.prog 25 #[.agg #[.int .i64 e0, .int .i64 e1, .int .i64 e2, .int .i64 e3, .int .i64 e4, .slice xa l.length xc]] w fun r w' => r = .returned (.bool false) ∧ Below w.heap.size w w' := by
  have b1 : (e0 == 1) = false := by simpa using h1
  have b2 : (e0 == 2) = false := by simpa using h2
  have b3 : (e0 == 3) = false := by simpa using h3
  have b4 : (e0 == 4) = false := by simpa using h4
  have b5 : (e0 == 5) = false := by simpa using h5
  clear h1 h2 h3 h4 h5
  go_enter Try.func25, Try.ntmps25
  go_wp2
  go_ret
  exact ⟨rfl, two_below⟩
end
theorem insB_of (e : Nat → Int) (l : List Int) : insB e l = if e 0 = 1 then decide (e 1 = 0) && noFun (e 2) (e 3) (e 4) && numsB l
  else if e 0 = 2 ∨ e 0 = 3 then decide (0 ≤ e 1 ∧ e 1 ≤ 25) && noFun (e 2) (e 3) (e 4) && decide (l.length = 0)
  else if e 0 = 4 then decide (e 1 = 0) && funOneB (e 2) (e 3) (e 4) && decide (l.length = 0)
  else if e 0 = 5 then decide (e 1 = 0) && funTwoB (e 2) (e 3) (e 4) && decide (l.length = 0)
  else false := rfl
/-- The specification's l11Instr. -/
theorem ins_spec (e : Nat → Int) {l : List Int} {w : World} {xa : Option Addr} {xc : Nat} (h : IntsI w (.slice xa l.length xc) l) (hl : l.length ≤ 1048576) : Calls Try.prog 25 #[.agg #[.int .i64 (e 0), .int .i64 (e 1), .int .i64 (e 2), .int .i64 (e 3), .int .i64 (e 4), .slice xa l.length xc]] w fun r w' => r = .returned (.bool (insB e l)) ∧ Below w.heap.size w w' := by
  rw [insB_of]
  by_cases h1 : e 0 = 1
  · rw [if_pos h1, h1]; exact ins_spec1 h hl
  rw [if_neg h1]
  by_cases h2 : e 0 = 2
  · rw [if_pos (.inl h2), h2]; exact ins_spec2 h hl
  by_cases h3 : e 0 = 3
  · rw [if_pos (.inr h3), h3]; exact ins_spec3 h hl
  rw [if_neg (fun h => h.elim h2 h3)]
  by_cases h4 : e 0 = 4
  · rw [if_pos h4, h4]; exact ins_spec4 h hl
  rw [if_neg h4]
  by_cases h5 : e 0 = 5
  · rw [if_pos h5, h5]; exact ins_spec5 h hl
  rw [if_neg h5]
  exact ins_spec0 h1 h2 h3 h4 h5
end Go.Proofs.Ytpommfkbkknjaaa
