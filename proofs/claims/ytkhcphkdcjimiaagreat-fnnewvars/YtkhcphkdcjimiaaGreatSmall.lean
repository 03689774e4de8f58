
/-
  Walks: what the functions of Chapter 1 on one number (program and specification) answer, whatever they are given.
-/
import Derived.Test.YtkhcphkdcjimiaaGreatBase
import Derived.Test.YtkhcphkdcjimiaaGreatMath
import Derived.Laws.EntriesVeiled
namespace Go.Proofs.YtkhcphkdcjimiaaGreat
open Go.RowKit
set_option maxHeartbeats 400000 in
theorem numOk_impl (x : Int) (w : World) : Calls Tryz.prog 86 #[.int .i64 x] w fun e w' => e = .returned (.bool (ok x)) ∧ w' = w := by
  go_enter Tryz.func86, Tryz.ntmps86
  go_wp2
  all_goals
    go_ret
    refine ⟨?_, rfl⟩
    simp_all [ok] <;> omega
set_option maxHeartbeats 400000 in
theorem itself_impl (x : Int) (w : World) : Calls Tryz.prog 133 #[.int .i64 x] w fun e w' => e = .returned (.tuple #[.int .i64 x, .int .i64 0]) ∧ w' = w := by
  go_enter Tryz.func133, Tryz.ntmps133
  go_wp2
  go_ret2
  exact ⟨rfl, rfl⟩
set_option maxHeartbeats 400000 in
theorem negated_impl (x : Int) (h1 : -1000000000000 ≤ x) (h2 : x ≤ 1000000000000) (w : World) : Calls Tryz.prog 134 #[.int .i64 x] w fun e w' => e = .returned (.tuple #[.int .i64 (-x), .int .i64 0]) ∧ w' = w := by
  go_enter Tryz.func134, Tryz.ntmps134
  go_wp2
  go_ret2
  exact ⟨rfl, rfl⟩
set_option maxHeartbeats 400000 in
theorem direction_impl (x : Int) (w : World) : Calls Tryz.prog 135 #[.int .i64 x] w fun e w' => e = .returned (.tuple #[.int .i64 (sgn x), .int .i64 0]) ∧ w' = w := by
  go_enter Tryz.func135, Tryz.ntmps135
  go_wp2
  all_goals
    go_ret2
    refine ⟨?_, rfl⟩
    simp_all [sgn] <;> omega
set_option maxHeartbeats 400000 in
theorem withoutSign_impl (x : Int) (h1 : -1000000000000 ≤ x) (h2 : x ≤ 1000000000000) (w : World) : Calls Tryz.prog 155 #[.int .i64 x] w fun e w' => e = .returned (.int .i64 (mag x)) ∧ w' = w := by
  go_enter Tryz.func155, Tryz.ntmps155
  go_wp2
  all_goals
    go_ret
    refine ⟨?_, rfl⟩
    simp_all [mag] <;> omega
set_option maxHeartbeats 400000 in
theorem magnitude_impl (x : Int) (h1 : -1000000000000 ≤ x) (h2 : x ≤ 1000000000000) (w : World) : Calls Tryz.prog 136 #[.int .i64 x] w fun e w' => e = .returned (.tuple #[.int .i64 (mag x), .int .i64 0]) ∧ w' = w := by
  go_enter Tryz.func136, Tryz.ntmps136
  go_wp2_with (go_at_call 155; refine (withoutSign_impl _ h1 h2 _).mono ?_; rintro e w' ⟨rfl, rfl⟩)
  go_ret2
  exact ⟨rfl, rfl⟩
set_option maxHeartbeats 400000 in
theorem inverted_impl (x : Int) (h1 : -1000000000000 ≤ x) (h2 : x ≤ 1000000000000) (w : World) : Calls Tryz.prog 137 #[.int .i64 x] w fun e w' => e = .returned (.tuple #[.int .i64 (invV x), .int .i64 (invC x)]) ∧ w' = w := by
  go_enter Tryz.func137, Tryz.ntmps137
  go_wp2
  all_goals
    go_ret2
    refine ⟨?_, rfl⟩
    simp_all [invV, invC] <;> omega
end Go.Proofs.YtkhcphkdcjimiaaGreat
