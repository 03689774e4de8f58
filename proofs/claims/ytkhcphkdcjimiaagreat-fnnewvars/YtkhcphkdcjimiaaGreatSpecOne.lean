
/-
  Walks: the specification's One and Two, whatever they are given.
-/
import Derived.Test.YtkhcphkdcjimiaaGreatSmall
namespace Go.Proofs.YtkhcphkdcjimiaaGreat
open Go.RowKit
theorem ret_int' {k : IntKind} {a b : Int} (h : a = b) : Ending.returned (.int k a) = .returned (.int k b) := by rw [h]
theorem ret_two' {a b c d : Int} (h : a = b) (h' : c = d) : Ending.returned (.tuple #[.int .i64 a, .int .i64 c]) = .returned (.tuple #[.int .i64 b, .int .i64 d]) := by rw [h, h']
theorem ret_bool {a b : Bool} (h : a = b) : Ending.returned (.bool a) = .returned (.bool b) := by rw [h]
end Go.Proofs.YtkhcphkdcjimiaaGreat
