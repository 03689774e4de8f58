/-
  Walks: what the functions of Chapter 1 on one number (program and specification) answer, whatever they are given.
-/
import Derived.Test.YtckbmbidpppncacBase
import Derived.Test.YtckbmbidpppncacMath
import Derived.Laws.EntriesVeiled
namespace Go.Proofs.Ytckbmbidpppncac
open Go.RowKit
set_option maxHeartbeats 400000 in
theorem numOk_impl (x : Int) (w : World) : Calls Try.prog 50 #[.int .i64 x] w fun e w' => e = .returned (.bool (ok x)) ∧ w' = w := by
  go_enter Try.func50, Try.ntmps50
  go_wp2
  all_goals
    go_ret
    refine ⟨?_, rfl⟩
    simp_all [ok] <;> omega
set_option maxHeartbeats 400000 in
theorem in_spec (x l h : Int) (w : World) : Calls Try.prog 86 #[.int .i64 x, .int .i64 l, .int .i64 h] w fun e w' => e = .returned (.bool (decide (l ≤ x) && decide (x ≤ h))) ∧ w' = w := by
  go_enter Try.func86, Try.ntmps86
  go_wp2
  all_goals
    go_ret
    refine ⟨?_, rfl⟩
    simp_all <;> omega
set_option maxHeartbeats 400000 in
theorem numOk_spec (x : Int) (w : World) : Calls Try.prog 61 #[.int .i64 x] w fun e w' => e = .returned (.bool (ok x)) ∧ w' = w := by
  go_enter Try.func61, Try.ntmps61
  go_wp2_with (go_at_call 86; refine (in_spec _ _ _ _).mono ?_; rintro e w' ⟨rfl, rfl⟩)
  go_ret
  exact ⟨by simp [ok], rfl⟩
set_option maxHeartbeats 400000 in
theorem bit_spec (b : Bool) (w : World) : Calls Try.prog 91 #[.bool b] w fun e w' => e = .returned (.int .i64 (bit b)) ∧ w' = w := by
  cases b <;> (go_enter Try.func91, Try.ntmps91; go_wp2; go_ret; exact ⟨rfl, rfl⟩)
set_option maxHeartbeats 400000 in
theorem max_spec (a b : Int) (w : World) : Calls Try.prog 90 #[.int .i64 a, .int .i64 b] w fun e w' => e = .returned (.int .i64 (mx a b)) ∧ w' = w := by
  go_enter Try.func90, Try.ntmps90
  go_wp2
  all_goals
    go_ret
    refine ⟨?_, rfl⟩
    simp_all [mx] <;> omega
set_option maxHeartbeats 400000 in
theorem min_spec (a b : Int) (w : World) : Calls Try.prog 89 #[.int .i64 a, .int .i64 b] w fun e w' => e = .returned (.int .i64 (mn a b)) ∧ w' = w := by
  go_enter Try.func89, Try.ntmps89
  go_wp2
  all_goals
    go_ret
    refine ⟨?_, rfl⟩
    simp_all [mn] <;> omega
set_option maxHeartbeats 400000 in
theorem itself_impl (x : Int) (w : World) : Calls Try.prog 108 #[.int .i64 x] w fun e w' => e = .returned (.tuple #[.int .i64 x, .int .i64 0]) ∧ w' = w := by
  go_enter Try.func108, Try.ntmps108
  go_wp2
  go_ret2
  exact ⟨rfl, rfl⟩
set_option maxHeartbeats 400000 in
theorem negated_impl (x : Int) (h1 : -1000000000000 ≤ x) (h2 : x ≤ 1000000000000) (w : World) : Calls Try.prog 109 #[.int .i64 x] w fun e w' => e = .returned (.tuple #[.int .i64 (-x), .int .i64 0]) ∧ w' = w := by
  go_enter Try.func109, Try.ntmps109
  go_wp2
  go_ret2
  exact ⟨rfl, rfl⟩
set_option maxHeartbeats 400000 in
theorem direction_impl (x : Int) (w : World) : Calls Try.prog 110 #[.int .i64 x] w fun e w' => e = .returned (.tuple #[.int .i64 (sgn x), .int .i64 0]) ∧ w' = w := by
  go_enter Try.func110, Try.ntmps110
  go_wp2
  all_goals
    go_ret2
    refine ⟨?_, rfl⟩
    simp_all [sgn] <;> omega
set_option maxHeartbeats 400000 in
theorem withoutSign_impl (x : Int) (h1 : -1000000000000 ≤ x) (h2 : x ≤ 1000000000000) (w : World) : Calls Try.prog 122 #[.int .i64 x] w fun e w' => e = .returned (.int .i64 (mag x)) ∧ w' = w := by
  go_enter Try.func122, Try.ntmps122
  go_wp2
  all_goals
    go_ret
    refine ⟨?_, rfl⟩
    simp_all [mag] <;> omega
set_option maxHeartbeats 400000 in
theorem magnitude_impl (x : Int) (h1 : -1000000000000 ≤ x) (h2 : x ≤ 1000000000000) (w : World) : Calls Try.prog 111 #[.int .i64 x] w fun e w' => e = .returned (.tuple #[.int .i64 (mag x), .int .i64 0]) ∧ w' = w := by
  go_enter Try.func111, Try.ntmps111
  go_wp2_with (go_at_call 122; refine (withoutSign_impl _ h1 h2 _).mono ?_; rintro e w' ⟨rfl, rfl⟩)
  go_ret2
  exact ⟨rfl, rfl⟩
set_option maxHeartbeats 400000 in
theorem inverted_impl (x : Int) (h1 : -1000000000000 ≤ x) (h2 : x ≤ 1000000000000) (w : World) : Calls Try.prog 112 #[.int .i64 x] w fun e w' => e = .returned (.tuple #[.int .i64 (invV x), .int .i64 (invC x)]) ∧ w' = w := by
  go_enter Try.func112, Try.ntmps112
  go_wp2
  all_goals
    go_ret2
    refine ⟨?_, rfl⟩
    simp_all [invV, invC] <;> omega
end Go.Proofs.Ytckbmbidpppncac
