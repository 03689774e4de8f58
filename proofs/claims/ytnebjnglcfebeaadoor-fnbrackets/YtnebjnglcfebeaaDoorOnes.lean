/-
  Walks: the program's One, whatever it is given.
-/
import Derived.Test.YtnebjnglcfebeaaDoorSmall
namespace Go.Proofs.YtnebjnglcfebeaaDoor
open Go.RowKit
def rulesOne : Value := .agg #[.int .i64 43, .func (.func 86) #[] #[], .int .i64 45, .func (.func 87) #[] #[], .int .i64 42, .func (.func 88) #[] #[], .int .i64 124, .func (.func 89) #[] #[], .int .i64 126, .func (.func 90) #[] #[]]
set_option maxHeartbeats 400000 in
theorem oneRules_impl (w : World) : Calls Tryd.prog 83 #[] w fun e w' => e = .returned rulesOne ∧ ∃ c : Array Value, w' = w.alloc (.cells c 111) := by
  go_enter Tryd.func83, Tryd.ntmps83
  go_wp2
  exact bodyPost_ret (v := rulesOne) (by simp [results, Tryd.results83, go_sem, rulesOne]) rfl ⟨rfl, _, rfl⟩
theorem ixOne0 (w : World) : (Instr.index 111 rulesOne (.int .i64 0)).run Tryd.prog w = .ok (.agg #[.int .i64 43, .func (.func 86) #[] #[]]) w := by kernel_rfl
theorem ixOne1 (w : World) : (Instr.index 111 rulesOne (.int .i64 1)).run Tryd.prog w = .ok (.agg #[.int .i64 45, .func (.func 87) #[] #[]]) w := by kernel_rfl
theorem ixOne2 (w : World) : (Instr.index 111 rulesOne (.int .i64 2)).run Tryd.prog w = .ok (.agg #[.int .i64 42, .func (.func 88) #[] #[]]) w := by kernel_rfl
theorem ixOne3 (w : World) : (Instr.index 111 rulesOne (.int .i64 3)).run Tryd.prog w = .ok (.agg #[.int .i64 124, .func (.func 89) #[] #[]]) w := by kernel_rfl
theorem ixOne4 (w : World) : (Instr.index 111 rulesOne (.int .i64 4)).run Tryd.prog w = .ok (.agg #[.int .i64 126, .func (.func 90) #[] #[]]) w := by kernel_rfl

set_option maxHeartbeats 1000000 in
theorem one_impl0 (x : Int) (h1 : -1000000000000 ≤ x) (h2 : x ≤ 1000000000000) (w : World) : Calls Tryd.prog 80 #[.int .i64 43, .int .i64 x] w fun e w' => e = .returned (.tuple #[.int .i64 x, .int .i64 0]) ∧ Below w.heap.size w w' := by
  have hk := ok_mk h1 h2
  have i0 := ixOne0
  go_enter Tryd.func80, Tryd.ntmps80
  go_wp2_with (first | (go_at_call 58; refine (numOk_impl _ _).mono ?_; rintro e w' ⟨rfl, rfl⟩) | (go_at_call 83; refine (oneRules_impl _).mono ?_; rintro e w' ⟨rfl, c, rfl⟩))
  refine wp_loop_rounds 1 ?_

  rw [rounds_succ]
  go_wp2_with (go_at_call 86; refine (itself_impl _ _).mono ?_; rintro e w' ⟨rfl, rfl⟩)
  go_ret2
  exact ⟨rfl, by repeat (first | exact Below.refl _ _ | apply bAlloc)⟩
set_option maxHeartbeats 1000000 in
theorem one_impl1 (x : Int) (h1 : -1000000000000 ≤ x) (h2 : x ≤ 1000000000000) (w : World) : Calls Tryd.prog 80 #[.int .i64 45, .int .i64 x] w fun e w' => e = .returned (.tuple #[.int .i64 (-x), .int .i64 0]) ∧ Below w.heap.size w w' := by
  have hk := ok_mk h1 h2
  have i0 := ixOne0
  have i1 := ixOne1
  go_enter Tryd.func80, Tryd.ntmps80
  go_wp2_with (first | (go_at_call 58; refine (numOk_impl _ _).mono ?_; rintro e w' ⟨rfl, rfl⟩) | (go_at_call 83; refine (oneRules_impl _).mono ?_; rintro e w' ⟨rfl, c, rfl⟩))
  refine wp_loop_rounds 2 ?_
  rw [rounds_succ]
  go_wp2
  rw [rounds_succ]
  go_wp2_with (go_at_call 87; refine (negated_impl _ h1 h2 _).mono ?_; rintro e w' ⟨rfl, rfl⟩)
  go_ret2
  exact ⟨rfl, by repeat (first | exact Below.refl _ _ | apply bAlloc)⟩
set_option maxHeartbeats 1000000 in
theorem one_impl2 (x : Int) (h1 : -1000000000000 ≤ x) (h2 : x ≤ 1000000000000) (w : World) : Calls Tryd.prog 80 #[.int .i64 42, .int .i64 x] w fun e w' => e = .returned (.tuple #[.int .i64 (sgn x), .int .i64 0]) ∧ Below w.heap.size w w' := by
  have hk := ok_mk h1 h2
  have i0 := ixOne0
  have i1 := ixOne1
  have i2 := ixOne2
  go_enter Tryd.func80, Tryd.ntmps80
  go_wp2_with (first | (go_at_call 58; refine (numOk_impl _ _).mono ?_; rintro e w' ⟨rfl, rfl⟩) | (go_at_call 83; refine (oneRules_impl _).mono ?_; rintro e w' ⟨rfl, c, rfl⟩))
  refine wp_loop_rounds 3 ?_
  rw [rounds_succ]
  go_wp2
  rw [rounds_succ]
  go_wp2
  rw [rounds_succ]
  go_wp2_with (go_at_call 88; refine (direction_impl _ _).mono ?_; rintro e w' ⟨rfl, rfl⟩)
  go_ret2
  exact ⟨rfl, by repeat (first | exact Below.refl _ _ | apply bAlloc)⟩
set_option maxHeartbeats 1000000 in
theorem one_impl3 (x : Int) (h1 : -1000000000000 ≤ x) (h2 : x ≤ 1000000000000) (w : World) : Calls Tryd.prog 80 #[.int .i64 124, .int .i64 x] w fun e w' => e = .returned (.tuple #[.int .i64 (mag x), .int .i64 0]) ∧ Below w.heap.size w w' := by
  have hk := ok_mk h1 h2
  have i0 := ixOne0
  have i1 := ixOne1
  have i2 := ixOne2
  have i3 := ixOne3
  go_enter Tryd.func80, Tryd.ntmps80
  go_wp2_with (first | (go_at_call 58; refine (numOk_impl _ _).mono ?_; rintro e w' ⟨rfl, rfl⟩) | (go_at_call 83; refine (oneRules_impl _).mono ?_; rintro e w' ⟨rfl, c, rfl⟩))
  refine wp_loop_rounds 4 ?_
  rw [rounds_succ]
  go_wp2
  rw [rounds_succ]
  go_wp2
  rw [rounds_succ]
  go_wp2
  rw [rounds_succ]
  go_wp2_with (go_at_call 89; refine (magnitude_impl _ h1 h2 _).mono ?_; rintro e w' ⟨rfl, rfl⟩)
  go_ret2
  exact ⟨rfl, by repeat (first | exact Below.refl _ _ | apply bAlloc)⟩
set_option maxHeartbeats 1000000 in
theorem one_impl4 (x : Int) (h1 : -1000000000000 ≤ x) (h2 : x ≤ 1000000000000) (w : World) : Calls Tryd.prog 80 #[.int .i64 126, .int .i64 x] w fun e w' => e = .returned (.tuple #[.int .i64 (invV x), .int .i64 (invC x)]) ∧ Below w.heap.size w w' := by
  have hk := ok_mk h1 h2
  have i0 := ixOne0
  have i1 := ixOne1
  have i2 := ixOne2
  have i3 := ixOne3
  have i4 := ixOne4
  go_enter Tryd.func80, Tryd.ntmps80
  go_wp2_with (first | (go_at_call 58; refine (numOk_impl _ _).mono ?_; rintro e w' ⟨rfl, rfl⟩) | (go_at_call 83; refine (oneRules_impl _).mono ?_; rintro e w' ⟨rfl, c, rfl⟩))
  refine wp_loop_rounds 5 ?_
  rw [rounds_succ]
  go_wp2
  rw [rounds_succ]
  go_wp2
  rw [rounds_succ]
  go_wp2
  rw [rounds_succ]
  go_wp2
  rw [rounds_succ]
  go_wp2_with (go_at_call 90; refine (inverted_impl _ h1 h2 _).mono ?_; rintro e w' ⟨rfl, rfl⟩)
  go_ret2
  exact ⟨rfl, by repeat (first | exact Below.refl _ _ | apply bAlloc)⟩
set_option maxHeartbeats 1000000 in
theorem one_implNone (s x : Int) (h1 : -1000000000000 ≤ x) (h2 : x ≤ 1000000000000) (n0 : ((43 : Int) == s) = false) (n1 : ((45 : Int) == s) = false) (n2 : ((42 : Int) == s) = false) (n3 : ((124 : Int) == s) = false) (n4 : ((126 : Int) == s) = false) (w : World) :
    Calls Tryd.prog 80 #[.int .i64 s, .int .i64 x] w fun e w' => e = .returned (.tuple #[.int .i64 0, .int .i64 1]) ∧ Below w.heap.size w w' := by
  have hk := ok_mk h1 h2
  have i0 := ixOne0
  have i1 := ixOne1
  have i2 := ixOne2
  have i3 := ixOne3
  have i4 := ixOne4
  go_enter Tryd.func80, Tryd.ntmps80
  go_wp2_with (first | (go_at_call 58; refine (numOk_impl _ _).mono ?_; rintro e w' ⟨rfl, rfl⟩) | (go_at_call 83; refine (oneRules_impl _).mono ?_; rintro e w' ⟨rfl, c, rfl⟩))
  refine wp_loop_rounds 6 ?_
  rw [rounds_succ]
  go_wp2
  rw [rounds_succ]
  go_wp2
  rw [rounds_succ]
  go_wp2
  rw [rounds_succ]
  go_wp2
  rw [rounds_succ]
  go_wp2
  rw [rounds_succ]
  go_wp2
  go_ret2
  exact ⟨rfl, by repeat (first | exact Below.refl _ _ | apply bAlloc)⟩
set_option maxHeartbeats 1000000 in
theorem one_implBad (s x : Int) (h : ok x = false) (w : World) : Calls Tryd.prog 80 #[.int .i64 s, .int .i64 x] w fun e w' => e = .returned (.tuple #[.int .i64 0, .int .i64 1]) ∧ Below w.heap.size w w' := by
  go_enter Tryd.func80, Tryd.ntmps80
  go_wp2_with (go_at_call 58; refine (numOk_impl _ _).mono ?_; rintro e w' ⟨rfl, rfl⟩)
  go_ret2
  exact ⟨rfl, Below.refl _ _⟩
/-- The program's One, whatever it is given. -/
theorem one_impl (s x : Int) (w : World) :
    Calls Tryd.prog 80 #[.int .i64 s, .int .i64 x] w fun e w' => e = .returned (.tuple #[.int .i64 (oneV s x).1, .int .i64 (oneV s x).2]) ∧ Below w.heap.size w w' := by
  by_cases hx : ok x = true
  · obtain ⟨h1, h2⟩ := ok_bd hx
    by_cases hs : sign1 s = true
    · rcases sign1_of hs with rfl | rfl | rfl | rfl | rfl
      · rw [oneV_43 hx]; exact one_impl0 x h1 h2 w
      · rw [oneV_45 hx]; exact one_impl1 x h1 h2 w
      · rw [oneV_42 hx]; exact one_impl2 x h1 h2 w
      · rw [oneV_124 hx]; exact one_impl3 x h1 h2 w
      · rw [oneV_126 hx]; exact one_impl4 x h1 h2 w
    · have hs : sign1 s = false := by simpa using hs
      rw [oneV_none hs]
      simp [sign1] at hs
      exact one_implNone s x h1 h2 (by simp; omega) (by simp; omega) (by simp; omega) (by simp; omega) (by simp; omega) w
  · have hx : ok x = false := by simpa using hx
    rw [oneV_bad hx]
    exact one_implBad s x hx w
end Go.Proofs.YtnebjnglcfebeaaDoor
