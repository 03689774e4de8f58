
/-
  Walks: the specification's One and Two, whatever they are given.
-/
import Derived.Test.YtnebjnglcfebeaaDoorSmall
namespace Go.Proofs.YtnebjnglcfebeaaDoor
open Go.RowKit
theorem ret_int' {k : IntKind} {a b : Int} (h : a = b) : Ending.returned (.int k a) = .returned (.int k b) := by rw [h]
theorem ret_two' {a b c d : Int} (h : a = b) (h' : c = d) : Ending.returned (.tuple #[.int .i64 a, .int .i64 c]) = .returned (.tuple #[.int .i64 b, .int .i64 d]) := by rw [h, h']
theorem ret_bool {a b : Bool} (h : a = b) : Ending.returned (.bool a) = .returned (.bool b) := by rw [h]
set_option maxHeartbeats 400000 in
theorem sign1_spec (s : Int) (w : World) : Calls Tryd.prog 57 #[.int .i64 s] w fun e w' => e = .returned (.bool (sign1 s)) ∧ w' = w := by
  go_enter Tryd.func57, Tryd.ntmps57
  go_wp2
  all_goals
    go_ret
    refine ⟨ret_bool ?_, rfl⟩
    simp_all [sign1]
set_option maxHeartbeats 400000 in
theorem sign2_spec (s : Int) (w : World) : Calls Tryd.prog 56 #[.int .i64 s] w fun e w' => e = .returned (.bool (sign2 s)) ∧ w' = w := by
  go_enter Tryd.func56, Tryd.ntmps56
  go_wp2
  all_goals
    go_ret
    refine ⟨ret_bool ?_, rfl⟩
    simp_all [sign2]
end Go.Proofs.YtnebjnglcfebeaaDoor
