/-
  Walks: the program's hasJustNums, hasJustLetter, hasJustFunOne, hasJustFunTwo, opRules.
-/
import Derived.Test.YtpommfkbkknjaaaCodeI
namespace Go.Proofs.Ytpommfkbkknjaaa
open Go.RowKit
set_option linter.unusedVariables false
set_option linter.unusedSimpArgs false
section
variable {e0 e1 e2 e3 e4 : Int} {l : List Int} {w : World} {xa : Option Addr} {xc : Nat}
set_option maxRecDepth 20000 in
set_option maxHeartbeats 8000000 in
theorem justNums_impl (h : IntsI w (.slice xa l.length xc) l) (hl : l.length ≤ 1048576) : Calls Try.prog 46 #[.agg #[.int .i64 e0, .int .i64 e1, .int .i64 e2, .int .i64 e3, .int .i64 e4, .slice xa l.length xc]] w fun r w' => r = .returned (.bool (decide (e1 = 0) && noFun e2 e3 e4 && numsB l)) ∧ Below w.heap.size w w' := by
  obtain ⟨_, _, ev, _, hi⟩ := h
  cases ev
  have HN : Hid (∀ W, Below w.heap.size w W → Calls Try.prog 52 #[.slice xa l.length xc] W fun e w' => e = .returned (.bool (numsB l)) ∧ w' = W) := fun W hb => numsOk_impl xc (hi.keep hb) hl
  clear hi
  generalize numsB l = q at *
  go_enter Try.func46, Try.ntmps46
  go_wp2_with (go_at_call 52; refine (HN.out _ one_below).mono ?_; rintro r w1 ⟨rfl, hw⟩; subst w1)
  all_goals
    go_ret
    refine ⟨ret_bool ?_, one_below⟩
    simp_all [noFun]
set_option maxRecDepth 20000 in
set_option maxHeartbeats 8000000 in
theorem justLetter_impl (h : IntsI w (.slice xa l.length xc) l) (hl : l.length ≤ 1048576) : Calls Try.prog 47 #[.agg #[.int .i64 e0, .int .i64 e1, .int .i64 e2, .int .i64 e3, .int .i64 e4, .slice xa l.length xc]] w fun r w' => r = .returned (.bool (decide (0 ≤ e1 ∧ e1 ≤ 25) && noFun e2 e3 e4 && decide (l.length = 0))) ∧ Below w.heap.size w w' := by
  clear h
  generalize l.length = n at *
  have HI : Hid (∀ W, Calls Try.prog 53 #[.int .i64 e1] W fun r w' => r = .returned (.bool (decide (0 ≤ e1 ∧ e1 ≤ 25))) ∧ w' = W) := fun W => isLetter_impl e1 W
  generalize decide (0 ≤ e1 ∧ e1 ≤ 25) = q at *
  cases q
  · go_enter Try.func47, Try.ntmps47
    go_wp2_with (go_at_call 53; refine (HI.out _).mono ?_; rintro r w1 ⟨rfl, hw⟩; subst w1)
    all_goals
      go_ret
      exact ⟨by simp, one_below⟩
  · go_enter Try.func47, Try.ntmps47
    go_wp2_with (go_at_call 53; refine (HI.out _).mono ?_; rintro r w1 ⟨rfl, hw⟩; subst w1)
    all_goals
      go_ret
      refine ⟨ret_bool ?_, one_below⟩
      first | (simp_all [noFun]; done) | (simp_all [noFun]; rw [Bool.eq_iff_iff]; simp; done) | (simp_all [noFun]; rw [Bool.eq_iff_iff]; simp; omega)
set_option maxRecDepth 20000 in
set_option maxHeartbeats 8000000 in
theorem justFunOne_impl (h : IntsI w (.slice xa l.length xc) l) (hl : l.length ≤ 1048576) : Calls Try.prog 48 #[.agg #[.int .i64 e0, .int .i64 e1, .int .i64 e2, .int .i64 e3, .int .i64 e4, .slice xa l.length xc]] w fun r w' => r = .returned (.bool (decide (e1 = 0) && funOneB e2 e3 e4 && decide (l.length = 0))) ∧ Below w.heap.size w w' := by
  clear h
  generalize l.length = n at *
  by_cases h1 : e1 = 0
  · subst h1
    have HF : Hid (∀ W, Calls Try.prog 54 #[.agg #[.int .i64 e2, .int .i64 e3, .int .i64 e4]] W fun e w' => e = .returned (.bool (funOneB e2 e3 e4)) ∧ Below W.heap.size W w') := fun W => funOne_impl _ _ _ _
    generalize funOneB e2 e3 e4 = q at *
    go_enter Try.func48, Try.ntmps48
    go_wp2_with fail
    refine (HF.out _).mono ?_
    rintro r w1 ⟨rfl, hb⟩
    have B1 : Hid (Below w.heap.size w w1) := bTrans one_below hb
    have c5 : w1.cell? ⟨w.heap.size, 5, none⟩ = some (.slice xa n xc) := (hb.cell (p := ⟨w.heap.size, 5, none⟩) (by simp)).trans (cell_at (heap_alloc_new w (.cells #[.int .i64 e0, .int .i64 0, .int .i64 e2, .int .i64 e3, .int .i64 e4, .slice xa n xc] 44)) rfl)
    clear hb HF
    cases q
    · go_wp2
      go_ret
      exact ⟨by simp, B1.out⟩
    · go_wp2
      all_goals
        go_ret
        refine ⟨ret_bool ?_, B1.out⟩
        first | (simp_all; done) | (simp_all; rw [Bool.eq_iff_iff]; simp; done) | (simp_all; rw [Bool.eq_iff_iff]; simp; omega)
  · have b1 : (e1 == 0) = false := by simpa using h1
    have d1 : decide (e1 = 0) = false := decide_eq_false h1
    rw [d1]
    clear h1
    go_enter Try.func48, Try.ntmps48
    go_wp2
    go_ret
    exact ⟨by simp, one_below⟩
set_option maxRecDepth 20000 in
set_option maxHeartbeats 8000000 in
theorem justFunTwo_impl (h : IntsI w (.slice xa l.length xc) l) (hl : l.length ≤ 1048576) : Calls Try.prog 49 #[.agg #[.int .i64 e0, .int .i64 e1, .int .i64 e2, .int .i64 e3, .int .i64 e4, .slice xa l.length xc]] w fun r w' => r = .returned (.bool (decide (e1 = 0) && funTwoB e2 e3 e4 && decide (l.length = 0))) ∧ Below w.heap.size w w' := by
  clear h
  generalize l.length = n at *
  by_cases h1 : e1 = 0
  · subst h1
    have HF : Hid (∀ W, Calls Try.prog 55 #[.agg #[.int .i64 e2, .int .i64 e3, .int .i64 e4]] W fun e w' => e = .returned (.bool (funTwoB e2 e3 e4)) ∧ Below W.heap.size W w') := fun W => funTwo_impl _ _ _ _
    generalize funTwoB e2 e3 e4 = q at *
    go_enter Try.func49, Try.ntmps49
    go_wp2_with fail
    refine (HF.out _).mono ?_
    rintro r w1 ⟨rfl, hb⟩
    have B1 : Hid (Below w.heap.size w w1) := bTrans one_below hb
    have c5 : w1.cell? ⟨w.heap.size, 5, none⟩ = some (.slice xa n xc) := (hb.cell (p := ⟨w.heap.size, 5, none⟩) (by simp)).trans (cell_at (heap_alloc_new w (.cells #[.int .i64 e0, .int .i64 0, .int .i64 e2, .int .i64 e3, .int .i64 e4, .slice xa n xc] 44)) rfl)
    clear hb HF
    cases q
    · go_wp2
      go_ret
      exact ⟨by simp, B1.out⟩
    · go_wp2
      all_goals
        go_ret
        refine ⟨ret_bool ?_, B1.out⟩
        first | (simp_all; done) | (simp_all; rw [Bool.eq_iff_iff]; simp; done) | (simp_all; rw [Bool.eq_iff_iff]; simp; omega)
  · have b1 : (e1 == 0) = false := by simpa using h1
    have d1 : decide (e1 = 0) = false := decide_eq_false h1
    rw [d1]
    clear h1
    go_enter Try.func49, Try.ntmps49
    go_wp2
    go_ret
    exact ⟨by simp, one_below⟩
end
def rulesOp : Value := .agg #[.nilFunc, .int .i64 0, .func (.func 46) #[] #[], .int .i64 0, .func (.func 47) #[] #[], .int .i64 0, .func (.func 47) #[] #[], .int .i64 1, .func (.func 48) #[] #[], .int .i64 1, .func (.func 49) #[] #[], .int .i64 2]
set_option maxRecDepth 20000 in
set_option maxHeartbeats 8000000 in
theorem opRules_impl (w : World) : Calls Try.prog 42 #[] w fun e w' => e = .returned rulesOp ∧ Below w.heap.size w w' := by
  go_enter Try.func42, Try.ntmps42
  go_wp2
  exact bodyPost_ret (v := rulesOp) (by simp [results, Try.results42, go_sem, rulesOp]) rfl ⟨rfl, bAlloc (Below.refl _ _) _⟩
theorem ixOp1 (w : World) : (Instr.index 68 rulesOp (.int .i64 1)).run Try.prog w = .ok (.agg #[.func (.func 46) #[] #[], .int .i64 0]) w := by kernel_rfl
theorem ixOp2 (w : World) : (Instr.index 68 rulesOp (.int .i64 2)).run Try.prog w = .ok (.agg #[.func (.func 47) #[] #[], .int .i64 0]) w := by kernel_rfl
theorem ixOp3 (w : World) : (Instr.index 68 rulesOp (.int .i64 3)).run Try.prog w = .ok (.agg #[.func (.func 47) #[] #[], .int .i64 1]) w := by kernel_rfl
theorem ixOp4 (w : World) : (Instr.index 68 rulesOp (.int .i64 4)).run Try.prog w = .ok (.agg #[.func (.func 48) #[] #[], .int .i64 1]) w := by kernel_rfl
theorem ixOp5 (w : World) : (Instr.index 68 rulesOp (.int .i64 5)).run Try.prog w = .ok (.agg #[.func (.func 49) #[] #[], .int .i64 2]) w := by kernel_rfl
theorem fldOp0 (f : Nat) (k : Int) (w : World) : (Instr.field 67 (.agg #[.func (.func f) #[] #[], .int .i64 k]) 0).run Try.prog w = .ok (.func (.func f) #[] #[]) w := by kernel_rfl
theorem fldOp1 (f : Nat) (k : Int) (w : World) : (Instr.field 67 (.agg #[.func (.func f) #[] #[], .int .i64 k]) 1).run Try.prog w = .ok (.int .i64 k) w := by kernel_rfl
end Go.Proofs.Ytpommfkbkknjaaa
