/-
  The contracts of Chapter 1 at answers that are known, for the laws; and how worlds follow one another.
-/
import Derived.Test.YtidhfgncebaphabTwo
import Derived.Test.YtidhfgncebaphabSpecTwo
import Derived.Test.YtidhfgncebaphabOnes
import Derived.Test.YtidhfgncebaphabNeutralI
import Derived.Test.YtidhfgncebaphabDraws
namespace Go.Proofs.Ytidhfgncebaphab
open Go.RowKit
theorem bTrans {w a b : World} (h : Below w.heap.size w a) (k : Below a.heap.size a b) : Below w.heap.size w b := h.trans (k.mono h.size)
theorem two_at {s a b x c : Int} (h : twoV s a b = (x, c)) (w : World) : Calls Try.prog 7 #[.int .i64 s, .int .i64 a, .int .i64 b] w fun e w' => e = .returned (.tuple #[.int .i64 x, .int .i64 c]) ∧ Below w.heap.size w w' := by
  have := two_impl s a b w
  rw [h] at this
  exact this
theorem two_spec_at {s a b x c : Int} (h : twoV s a b = (x, c)) (w : World) : Calls Try.prog 8 #[.int .i64 s, .int .i64 a, .int .i64 b] w fun e w' => e = .returned (.tuple #[.int .i64 x, .int .i64 c]) ∧ w' = w := by
  have := two_spec s a b w
  rw [h] at this
  exact this
theorem one_at {s a x c : Int} (h : oneV s a = (x, c)) (w : World) : Calls Try.prog 9 #[.int .i64 s, .int .i64 a] w fun e w' => e = .returned (.tuple #[.int .i64 x, .int .i64 c]) ∧ Below w.heap.size w w' := by
  have := one_impl s a w
  rw [h] at this
  exact this
theorem one_spec_at {s a x c : Int} (h : oneV s a = (x, c)) (w : World) : Calls Try.prog 10 #[.int .i64 s, .int .i64 a] w fun e w' => e = .returned (.tuple #[.int .i64 x, .int .i64 c]) ∧ w' = w := by
  have := one_spec s a w
  rw [h] at this
  exact this
theorem neu_at {s x : Int} {b : Bool} (h : neu s = (x, b)) (w : World) : Calls Try.prog 12 #[.int .i64 s] w fun e w' => e = .returned (.tuple #[.int .i64 x, .bool b]) ∧ w' = w := by
  have := neutral_impl s w
  rw [h] at this
  exact this
end Go.Proofs.Ytidhfgncebaphab
