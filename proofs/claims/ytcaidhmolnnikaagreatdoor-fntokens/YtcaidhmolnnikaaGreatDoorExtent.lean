
/-
  Walks: the program's shapes by value: size, and how a list is made one.
-/
import Derived.Test.YtcaidhmolnnikaaGreatDoorSpecIndex
import Derived.Test.YtcaidhmolnnikaaGreatDoorOwn
import Derived.Test.YtcaidhmolnnikaaGreatDoorShapeP
namespace Go.Proofs.YtcaidhmolnnikaaGreatDoor
open Go.RowKit
set_option linter.unusedVariables false
/-- A shape by value: its rank and its numbers, noughts behind them. -/
def extC (l : List Int) : Array Value := #[.int .i64 l.length, .int .i64 (l.getD 0 0), .int .i64 (l.getD 1 0), .int .i64 (l.getD 2 0)]
/-- An index by value. -/
def axC (l : List Int) : Array Value := #[.int .i64 (l.getD 0 0), .int .i64 (l.getD 1 0), .int .i64 (l.getD 2 0)]
end Go.Proofs.YtcaidhmolnnikaaGreatDoor
