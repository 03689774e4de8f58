/-
  Walks: the program's shapes by value: the place that an index reckons to, and the index of a place.
-/
import Derived.Test.YtkhcphkdcjimiaaGreatExtent
namespace Go.Proofs.YtkhcphkdcjimiaaGreat
open Go.RowKit
set_option linter.unusedVariables false
set_option maxRecDepth 20000 in
set_option maxHeartbeats 2000000 in
theorem reck_0_ext (w : World) :
    Calls Tryz.prog 140 #[.agg #[.int .i64 0, .int .i64 0, .int .i64 0, .int .i64 0], .agg #[.int .i64 0, .int .i64 0, .int .i64 0]] w fun e w' => e = .returned (.int .i64 (0)) ∧ ∃ o p, w' = (w.alloc o).alloc p := by
  go_enter Tryz.func140, Tryz.ntmps140
  go_wp2
  refine wp_loop_rounds 1 ?_
  rw [rounds_succ]
  go_wp2
  go_returns
  exact ⟨rfl, _, _, rfl⟩
set_option maxRecDepth 20000 in
set_option maxHeartbeats 2000000 in
theorem reck_1_ext (x : Int) (i : Int) (w : World) :
    Calls Tryz.prog 140 #[.agg #[.int .i64 1, .int .i64 x, .int .i64 0, .int .i64 0], .agg #[.int .i64 i, .int .i64 0, .int .i64 0]] w fun e w' => e = .returned (.int .i64 (wrap64 i)) ∧ ∃ o p, w' = (w.alloc o).alloc p := by
  go_enter Tryz.func140, Tryz.ntmps140
  go_wp2
  refine wp_loop_rounds 2 ?_
  rw [rounds_succ]
  go_wp2
  rw [rounds_succ]
  go_wp2
  go_returns
  exact ⟨rfl, _, _, rfl⟩
set_option maxRecDepth 20000 in
set_option maxHeartbeats 2000000 in
theorem reck_2_ext (x y : Int) (i j : Int) (w : World) :
    Calls Tryz.prog 140 #[.agg #[.int .i64 2, .int .i64 x, .int .i64 y, .int .i64 0], .agg #[.int .i64 i, .int .i64 j, .int .i64 0]] w fun e w' => e = .returned (.int .i64 (wrap64 (wrap64 (wrap64 i * y) + j))) ∧ ∃ o p, w' = (w.alloc o).alloc p := by
  go_enter Tryz.func140, Tryz.ntmps140
  go_wp2
  refine wp_loop_rounds 3 ?_
  rw [rounds_succ]
  go_wp2
  rw [rounds_succ]
  go_wp2
  rw [rounds_succ]
  go_wp2
  go_returns
  exact ⟨rfl, _, _, rfl⟩
set_option maxRecDepth 20000 in
set_option maxHeartbeats 2000000 in
theorem reck_3_ext (x y z : Int) (i j k : Int) (w : World) :
    Calls Tryz.prog 140 #[.agg #[.int .i64 3, .int .i64 x, .int .i64 y, .int .i64 z], .agg #[.int .i64 i, .int .i64 j, .int .i64 k]] w fun e w' => e = .returned (.int .i64 (wrap64 (wrap64 (wrap64 (wrap64 (wrap64 i * y) + j) * z) + k))) ∧ ∃ o p, w' = (w.alloc o).alloc p := by
  go_enter Tryz.func140, Tryz.ntmps140
  go_wp2
  refine wp_loop_rounds 4 ?_
  rw [rounds_succ]
  go_wp2
  rw [rounds_succ]
  go_wp2
  rw [rounds_succ]
  go_wp2
  rw [rounds_succ]
  go_wp2
  go_returns
  exact ⟨rfl, _, _, rfl⟩
set_option maxRecDepth 20000 in
set_option maxHeartbeats 2000000 in
theorem idx_0_neg (p : Int) (w : World) (q1 : p < 0) :
    Calls Tryz.prog 139 #[.agg #[.int .i64 0, .int .i64 0, .int .i64 0, .int .i64 0], .int .i64 p] w fun e w' => e = .returned (.tuple #[.agg #[.int .i64 0, .int .i64 0, .int .i64 0], .bool false]) ∧ ∃ o0 o1 o2, w' = (((w.alloc o0).alloc o1).alloc o2) := by
  go_enter Tryz.func139, Tryz.ntmps139
  go_wp2
  go_returns
  exact ⟨rfl, _, _, _, rfl⟩
set_option maxRecDepth 20000 in
set_option maxHeartbeats 2000000 in
theorem idx_0_much (p : Int) (w : World)  (q1 : 0 ≤ p) (q2 : 1 ≤ p) :
    Calls Tryz.prog 139 #[.agg #[.int .i64 0, .int .i64 0, .int .i64 0, .int .i64 0], .int .i64 p] w fun e w' => e = .returned (.tuple #[.agg #[.int .i64 0, .int .i64 0, .int .i64 0], .bool false]) ∧ ∃ o0 o1 o2 o3, w' = ((((w.alloc o0).alloc o1).alloc o2).alloc o3) := by
  go_enter Tryz.func139, Tryz.ntmps139
  go_wp2_with (go_at_call 85; refine (size_0_ext  _ ).mono ?_; rintro e w' ⟨rfl, hw⟩; subst w')
  go_returns
  exact ⟨rfl, _, _, _, _, rfl⟩
set_option maxRecDepth 20000 in
set_option maxHeartbeats 2000000 in
theorem idx_0_in (p : Int) (w : World)  (q1 : 0 ≤ p) (q2 : p < 1) (q3 : p < 300) :
    Calls Tryz.prog 139 #[.agg #[.int .i64 0, .int .i64 0, .int .i64 0, .int .i64 0], .int .i64 p] w fun e w' => e = .returned (.tuple #[.agg #[.int .i64 0, .int .i64 0, .int .i64 0], .bool true]) ∧ ∃ o0 o1 o2 o3, w' = ((((w.alloc o0).alloc o1).alloc o2).alloc o3) := by
  go_enter Tryz.func139, Tryz.ntmps139
  go_wp2_with (go_at_call 85; refine (size_0_ext  _ ).mono ?_; rintro e w' ⟨rfl, hw⟩; subst w')
  refine wp_loop_rounds 1 ?_
  rw [rounds_succ]
  go_wp2
  go_returns
  exact ⟨rfl, _, _, _, _, rfl⟩
set_option maxRecDepth 20000 in
set_option maxHeartbeats 2000000 in
theorem idx_1_neg (x : Int) (p : Int) (w : World) (q1 : p < 0) :
    Calls Tryz.prog 139 #[.agg #[.int .i64 1, .int .i64 x, .int .i64 0, .int .i64 0], .int .i64 p] w fun e w' => e = .returned (.tuple #[.agg #[.int .i64 0, .int .i64 0, .int .i64 0], .bool false]) ∧ ∃ o0 o1 o2, w' = (((w.alloc o0).alloc o1).alloc o2) := by
  go_enter Tryz.func139, Tryz.ntmps139
  go_wp2
  go_returns
  exact ⟨rfl, _, _, _, rfl⟩
set_option maxRecDepth 20000 in
set_option maxHeartbeats 2000000 in
theorem idx_1_much (x : Int) (p : Int) (w : World) (x0 : 0 ≤ x) (x1 : x ≤ 300) (q1 : 0 ≤ p) (q2 : x ≤ p) :
    Calls Tryz.prog 139 #[.agg #[.int .i64 1, .int .i64 x, .int .i64 0, .int .i64 0], .int .i64 p] w fun e w' => e = .returned (.tuple #[.agg #[.int .i64 0, .int .i64 0, .int .i64 0], .bool false]) ∧ ∃ o0 o1 o2 o3, w' = ((((w.alloc o0).alloc o1).alloc o2).alloc o3) := by
  go_enter Tryz.func139, Tryz.ntmps139
  go_wp2_with (go_at_call 85; refine (size_1_ext x _ x0 x1).mono ?_; rintro e w' ⟨rfl, hw⟩; subst w')
  go_returns
  exact ⟨rfl, _, _, _, _, rfl⟩
set_option maxRecDepth 20000 in
set_option maxHeartbeats 2000000 in
theorem idx_1_in (x : Int) (p : Int) (w : World) (x0 : 0 < x) (x1 : x ≤ 300) (q1 : 0 ≤ p) (q2 : p < x) (q3 : p < 300) :
    Calls Tryz.prog 139 #[.agg #[.int .i64 1, .int .i64 x, .int .i64 0, .int .i64 0], .int .i64 p] w fun e w' => e = .returned (.tuple #[.agg #[.int .i64 (p % x), .int .i64 0, .int .i64 0], .bool true]) ∧ ∃ o0 o1 o2 o3, w' = ((((w.alloc o0).alloc o1).alloc o2).alloc o3) := by
  go_enter Tryz.func139, Tryz.ntmps139
  go_wp2_with (go_at_call 85; refine (size_1_ext x _ (Int.le_of_lt x0) x1).mono ?_; rintro e w' ⟨rfl, hw⟩; subst w')
  refine wp_loop_rounds 2 ?_
  rw [rounds_succ]
  go_wp2
  rw [rounds_succ]
  go_wp2
  go_returns
  exact ⟨rfl, _, _, _, _, rfl⟩
set_option maxRecDepth 20000 in
set_option maxHeartbeats 2000000 in
theorem idx_2_neg (x y : Int) (p : Int) (w : World) (q1 : p < 0) :
    Calls Tryz.prog 139 #[.agg #[.int .i64 2, .int .i64 x, .int .i64 y, .int .i64 0], .int .i64 p] w fun e w' => e = .returned (.tuple #[.agg #[.int .i64 0, .int .i64 0, .int .i64 0], .bool false]) ∧ ∃ o0 o1 o2, w' = (((w.alloc o0).alloc o1).alloc o2) := by
  go_enter Tryz.func139, Tryz.ntmps139
  go_wp2
  go_returns
  exact ⟨rfl, _, _, _, rfl⟩
set_option maxRecDepth 20000 in
set_option maxHeartbeats 2000000 in
theorem idx_2_much (x y : Int) (p : Int) (w : World) (x0 : 0 ≤ x) (x1 : x ≤ 300) (y0 : 0 ≤ y) (y1 : y ≤ 300) (q1 : 0 ≤ p) (q2 : x * y ≤ p) :
    Calls Tryz.prog 139 #[.agg #[.int .i64 2, .int .i64 x, .int .i64 y, .int .i64 0], .int .i64 p] w fun e w' => e = .returned (.tuple #[.agg #[.int .i64 0, .int .i64 0, .int .i64 0], .bool false]) ∧ ∃ o0 o1 o2 o3, w' = ((((w.alloc o0).alloc o1).alloc o2).alloc o3) := by
  go_enter Tryz.func139, Tryz.ntmps139
  go_wp2_with (go_at_call 85; refine (size_2_ext x y _ x0 x1 y0 y1).mono ?_; rintro e w' ⟨rfl, hw⟩; subst w')
  go_returns
  exact ⟨rfl, _, _, _, _, rfl⟩
set_option maxRecDepth 20000 in
set_option maxHeartbeats 2000000 in
theorem idx_2_in (x y : Int) (p : Int) (w : World) (x0 : 0 < x) (x1 : x ≤ 300) (y0 : 0 < y) (y1 : y ≤ 300) (q1 : 0 ≤ p) (q2 : p < x * y) (q3 : p < 300) :
    Calls Tryz.prog 139 #[.agg #[.int .i64 2, .int .i64 x, .int .i64 y, .int .i64 0], .int .i64 p] w fun e w' => e = .returned (.tuple #[.agg #[.int .i64 (p / y % x), .int .i64 (p % y), .int .i64 0], .bool true]) ∧ ∃ o0 o1 o2 o3, w' = ((((w.alloc o0).alloc o1).alloc o2).alloc o3) := by
  have d1 : 0 ≤ p / y := Int.ediv_nonneg q1 (by omega)
  have d2 : p / y ≤ p := Int.ediv_le_self _ q1
  go_enter Tryz.func139, Tryz.ntmps139
  go_wp2_with (go_at_call 85; refine (size_2_ext x y _ (Int.le_of_lt x0) x1 (Int.le_of_lt y0) y1).mono ?_; rintro e w' ⟨rfl, hw⟩; subst w')
  refine wp_loop_rounds 3 ?_
  rw [rounds_succ]
  go_wp2
  rw [rounds_succ]
  go_wp2
  rw [rounds_succ]
  go_wp2
  go_returns
  exact ⟨rfl, _, _, _, _, rfl⟩
set_option maxRecDepth 20000 in
set_option maxHeartbeats 2000000 in
theorem idx_3_neg (x y z : Int) (p : Int) (w : World) (q1 : p < 0) :
    Calls Tryz.prog 139 #[.agg #[.int .i64 3, .int .i64 x, .int .i64 y, .int .i64 z], .int .i64 p] w fun e w' => e = .returned (.tuple #[.agg #[.int .i64 0, .int .i64 0, .int .i64 0], .bool false]) ∧ ∃ o0 o1 o2, w' = (((w.alloc o0).alloc o1).alloc o2) := by
  go_enter Tryz.func139, Tryz.ntmps139
  go_wp2
  go_returns
  exact ⟨rfl, _, _, _, rfl⟩
set_option maxRecDepth 20000 in
set_option maxHeartbeats 2000000 in
theorem idx_3_much (x y z : Int) (p : Int) (w : World) (x0 : 0 ≤ x) (x1 : x ≤ 300) (y0 : 0 ≤ y) (y1 : y ≤ 300) (z0 : 0 ≤ z) (z1 : z ≤ 300) (q1 : 0 ≤ p) (q2 : x * y * z ≤ p) :
    Calls Tryz.prog 139 #[.agg #[.int .i64 3, .int .i64 x, .int .i64 y, .int .i64 z], .int .i64 p] w fun e w' => e = .returned (.tuple #[.agg #[.int .i64 0, .int .i64 0, .int .i64 0], .bool false]) ∧ ∃ o0 o1 o2 o3, w' = ((((w.alloc o0).alloc o1).alloc o2).alloc o3) := by
  go_enter Tryz.func139, Tryz.ntmps139
  go_wp2_with (go_at_call 85; refine (size_3_ext x y z _ x0 x1 y0 y1 z0 z1).mono ?_; rintro e w' ⟨rfl, hw⟩; subst w')
  go_returns
  exact ⟨rfl, _, _, _, _, rfl⟩
set_option maxRecDepth 20000 in
set_option maxHeartbeats 2000000 in
theorem idx_3_in (x y z : Int) (p : Int) (w : World) (x0 : 0 < x) (x1 : x ≤ 300) (y0 : 0 < y) (y1 : y ≤ 300) (z0 : 0 < z) (z1 : z ≤ 300) (q1 : 0 ≤ p) (q2 : p < x * y * z) (q3 : p < 300) :
    Calls Tryz.prog 139 #[.agg #[.int .i64 3, .int .i64 x, .int .i64 y, .int .i64 z], .int .i64 p] w fun e w' => e = .returned (.tuple #[.agg #[.int .i64 (p / z / y % x), .int .i64 (p / z % y), .int .i64 (p % z)], .bool true]) ∧ ∃ o0 o1 o2 o3, w' = ((((w.alloc o0).alloc o1).alloc o2).alloc o3) := by
  have d1 : 0 ≤ p / z := Int.ediv_nonneg q1 (by omega)
  have d2 : p / z ≤ p := Int.ediv_le_self _ q1
  have d3 : 0 ≤ p / z / y := Int.ediv_nonneg d1 (by omega)
  have d4 : p / z / y ≤ p / z := Int.ediv_le_self _ d1
  go_enter Tryz.func139, Tryz.ntmps139
  go_wp2_with (go_at_call 85; refine (size_3_ext x y z _ (Int.le_of_lt x0) x1 (Int.le_of_lt y0) y1 (Int.le_of_lt z0) z1).mono ?_; rintro e w' ⟨rfl, hw⟩; subst w')
  refine wp_loop_rounds 4 ?_
  rw [rounds_succ]
  go_wp2
  rw [rounds_succ]
  go_wp2
  rw [rounds_succ]
  go_wp2
  rw [rounds_succ]
  go_wp2
  go_returns
  exact ⟨rfl, _, _, _, _, rfl⟩
end Go.Proofs.YtkhcphkdcjimiaaGreat
