/-
  Walks: the program's shapes by value: size, and how a list is made one.
-/
import Derived.Test.YtcaidhmolnnikaaDoorSpecIndex
import Derived.Test.YtcaidhmolnnikaaDoorOwn
import Derived.Test.YtcaidhmolnnikaaDoorShapeP
namespace Go.Proofs.YtcaidhmolnnikaaDoor
open Go.RowKit
set_option linter.unusedVariables false
/-- A shape by value: its rank and its numbers, noughts behind them. -/
def extC (l : List Int) : Array Value := #[.int .i64 l.length, .int .i64 (l.getD 0 0), .int .i64 (l.getD 1 0), .int .i64 (l.getD 2 0)]
/-- An index by value. -/
def axC (l : List Int) : Array Value := #[.int .i64 (l.getD 0 0), .int .i64 (l.getD 1 0), .int .i64 (l.getD 2 0)]
set_option maxRecDepth 20000 in
set_option maxHeartbeats 2000000 in
theorem size_0_ext (w : World)  :
    Calls Tryd.prog 89 #[.agg #[.int .i64 0, .int .i64 0, .int .i64 0, .int .i64 0]] w fun e w' => e = .returned (.int .i64 1) ∧ w' = w.alloc (.cells #[.int .i64 0, .int .i64 0, .int .i64 0, .int .i64 0] 132) := by
  go_enter Tryd.func89, Tryd.ntmps89
  go_wp2
  refine wp_loop_rounds 1 ?_
  rw [rounds_succ]
  go_wp2
  go_ret
  exact ⟨rfl, rfl⟩
set_option maxRecDepth 20000 in
set_option maxHeartbeats 2000000 in
theorem size_1_ext (x : Int) (w : World) (x0 : 0 ≤ x) (x1 : x ≤ 300) :
    Calls Tryd.prog 89 #[.agg #[.int .i64 1, .int .i64 x, .int .i64 0, .int .i64 0]] w fun e w' => e = .returned (.int .i64 x) ∧ w' = w.alloc (.cells #[.int .i64 1, .int .i64 x, .int .i64 0, .int .i64 0] 132) := by
  go_enter Tryd.func89, Tryd.ntmps89
  go_wp2
  refine wp_loop_rounds 2 ?_
  rw [rounds_succ]
  go_wp2
  rw [rounds_succ]
  go_wp2
  go_ret
  exact ⟨rfl, rfl⟩
set_option maxRecDepth 20000 in
set_option maxHeartbeats 2000000 in
theorem size_2_ext (x y : Int) (w : World) (x0 : 0 ≤ x) (x1 : x ≤ 300) (y0 : 0 ≤ y) (y1 : y ≤ 300) :
    Calls Tryd.prog 89 #[.agg #[.int .i64 2, .int .i64 x, .int .i64 y, .int .i64 0]] w fun e w' => e = .returned (.int .i64 (x * y)) ∧ w' = w.alloc (.cells #[.int .i64 2, .int .i64 x, .int .i64 y, .int .i64 0] 132) := by
  have h2 : 0 ≤ x * y := Int.mul_nonneg x0 y0
  have h3 : x * y ≤ 90000 := Int.le_trans (Int.mul_le_mul x1 y1 y0 (by omega)) (by decide)
  go_enter Tryd.func89, Tryd.ntmps89
  go_wp2
  refine wp_loop_rounds 3 ?_
  rw [rounds_succ]
  go_wp2
  rw [rounds_succ]
  go_wp2
  rw [rounds_succ]
  go_wp2
  go_ret
  exact ⟨rfl, rfl⟩
set_option maxRecDepth 20000 in
set_option maxHeartbeats 2000000 in
theorem size_3_ext (x y z : Int) (w : World) (x0 : 0 ≤ x) (x1 : x ≤ 300) (y0 : 0 ≤ y) (y1 : y ≤ 300) (z0 : 0 ≤ z) (z1 : z ≤ 300) :
    Calls Tryd.prog 89 #[.agg #[.int .i64 3, .int .i64 x, .int .i64 y, .int .i64 z]] w fun e w' => e = .returned (.int .i64 (x * y * z)) ∧ w' = w.alloc (.cells #[.int .i64 3, .int .i64 x, .int .i64 y, .int .i64 z] 132) := by
  have h2 : 0 ≤ x * y := Int.mul_nonneg x0 y0
  have h3 : x * y ≤ 90000 := Int.le_trans (Int.mul_le_mul x1 y1 y0 (by omega)) (by decide)
  have h4 : 0 ≤ x * y * z := Int.mul_nonneg h2 z0
  have h5 : x * y * z ≤ 27000000 := Int.le_trans (Int.mul_le_mul h3 z1 z0 (by omega)) (by decide)
  go_enter Tryd.func89, Tryd.ntmps89
  go_wp2
  refine wp_loop_rounds 4 ?_
  rw [rounds_succ]
  go_wp2
  rw [rounds_succ]
  go_wp2
  rw [rounds_succ]
  go_wp2
  rw [rounds_succ]
  go_wp2
  go_ret
  exact ⟨rfl, rfl⟩
set_option maxRecDepth 20000 in
set_option maxHeartbeats 2000000 in
theorem ext_0_ok (a : Option Addr) (c : Nat) (w : World) (h1 : Ints w a [])  :
    Calls Tryd.prog 88 #[.slice a 0 c] w fun e w' => e = .returned (.tuple #[.agg #[.int .i64 0, .int .i64 0, .int .i64 0, .int .i64 0], .bool true]) ∧ Below w.heap.size w w' := by
  go_enter Tryd.func88, Tryd.ntmps88
  go_wp2
  refine wp_loop_rounds 1 ?_
  rw [rounds_succ]
  go_wp2_with (go_at_call 89; refine (size_0_ext  _ ).mono ?_; rintro e w' ⟨rfl, hw⟩; subst w')
  go_returns
  exact ⟨rfl, by first | exact bAlloc (bAlloc (bAlloc (Below.refl _ _) _) _) _ | exact bAlloc (bAlloc (Below.refl _ _) _) _ | exact bAlloc (Below.refl _ _) _⟩
set_option maxRecDepth 20000 in
set_option maxHeartbeats 2000000 in
theorem ext_1_neg0 (x : Int) (a : Option Addr) (c : Nat) (w : World) (h1 : Ints w a [x])  (hb : x < 0) :
    Calls Tryd.prog 88 #[.slice a 1 c] w fun e w' => e = .returned (.tuple #[.agg #[.int .i64 0, .int .i64 0, .int .i64 0, .int .i64 0], .bool false]) ∧ Below w.heap.size w w' := by
  rcases h1 with h0 | ⟨b, off, rfl, hb, hc⟩
  · cases h0
  have c0 : w.cell? ⟨b, off, none⟩ = some (.int .i64 x) := hc 0 (by simp)
  clear hc
  go_enter Tryd.func88, Tryd.ntmps88
  go_wp2
  refine wp_loop_rounds 1 ?_
  rw [rounds_succ]
  go_wp2
  go_returns
  exact ⟨rfl, by first | exact bAlloc (bAlloc (bAlloc (Below.refl _ _) _) _) _ | exact bAlloc (bAlloc (Below.refl _ _) _) _ | exact bAlloc (Below.refl _ _) _⟩
set_option maxRecDepth 20000 in
set_option maxHeartbeats 2000000 in
theorem ext_1_great0 (x : Int) (a : Option Addr) (c : Nat) (w : World) (h1 : Ints w a [x])  (hb0 : 0 ≤ x) (hb : 300 < x) :
    Calls Tryd.prog 88 #[.slice a 1 c] w fun e w' => e = .returned (.tuple #[.agg #[.int .i64 0, .int .i64 0, .int .i64 0, .int .i64 0], .bool false]) ∧ Below w.heap.size w w' := by
  rcases h1 with h0 | ⟨b, off, rfl, hb, hc⟩
  · cases h0
  have c0 : w.cell? ⟨b, off, none⟩ = some (.int .i64 x) := hc 0 (by simp)
  clear hc
  go_enter Tryd.func88, Tryd.ntmps88
  go_wp2
  refine wp_loop_rounds 1 ?_
  rw [rounds_succ]
  go_wp2
  go_returns
  exact ⟨rfl, by first | exact bAlloc (bAlloc (bAlloc (Below.refl _ _) _) _) _ | exact bAlloc (bAlloc (Below.refl _ _) _) _ | exact bAlloc (Below.refl _ _) _⟩
set_option maxRecDepth 20000 in
set_option maxHeartbeats 2000000 in
theorem ext_1_ok (x : Int) (a : Option Addr) (c : Nat) (w : World) (h1 : Ints w a [x]) (x0 : 0 ≤ x) (x1 : x ≤ 300) :
    Calls Tryd.prog 88 #[.slice a 1 c] w fun e w' => e = .returned (.tuple #[.agg #[.int .i64 1, .int .i64 x, .int .i64 0, .int .i64 0], .bool true]) ∧ Below w.heap.size w w' := by
  rcases h1 with h0 | ⟨b, off, rfl, hb, hc⟩
  · cases h0
  have c0 : w.cell? ⟨b, off, none⟩ = some (.int .i64 x) := hc 0 (by simp)
  clear hc
  go_enter Tryd.func88, Tryd.ntmps88
  go_wp2
  refine wp_loop_rounds 2 ?_
  rw [rounds_succ]
  go_wp2
  rw [rounds_succ]
  go_wp2_with (go_at_call 89; refine (size_1_ext x _ x0 x1).mono ?_; rintro e w' ⟨rfl, hw⟩; subst w')
  go_returns
  exact ⟨rfl, by first | exact bAlloc (bAlloc (bAlloc (Below.refl _ _) _) _) _ | exact bAlloc (bAlloc (Below.refl _ _) _) _ | exact bAlloc (Below.refl _ _) _⟩
set_option maxRecDepth 20000 in
set_option maxHeartbeats 2000000 in
theorem ext_2_neg0 (x y : Int) (a : Option Addr) (c : Nat) (w : World) (h1 : Ints w a [x, y])  (hb : x < 0) :
    Calls Tryd.prog 88 #[.slice a 2 c] w fun e w' => e = .returned (.tuple #[.agg #[.int .i64 0, .int .i64 0, .int .i64 0, .int .i64 0], .bool false]) ∧ Below w.heap.size w w' := by
  rcases h1 with h0 | ⟨b, off, rfl, hb, hc⟩
  · cases h0
  have c0 : w.cell? ⟨b, off, none⟩ = some (.int .i64 x) := hc 0 (by simp)
  have c1 : w.cell? ⟨b, off + 1, none⟩ = some (.int .i64 y) := hc 1 (by simp)
  clear hc
  go_enter Tryd.func88, Tryd.ntmps88
  go_wp2
  refine wp_loop_rounds 1 ?_
  rw [rounds_succ]
  go_wp2
  go_returns
  exact ⟨rfl, by first | exact bAlloc (bAlloc (bAlloc (Below.refl _ _) _) _) _ | exact bAlloc (bAlloc (Below.refl _ _) _) _ | exact bAlloc (Below.refl _ _) _⟩
set_option maxRecDepth 20000 in
set_option maxHeartbeats 2000000 in
theorem ext_2_great0 (x y : Int) (a : Option Addr) (c : Nat) (w : World) (h1 : Ints w a [x, y])  (hb0 : 0 ≤ x) (hb : 300 < x) :
    Calls Tryd.prog 88 #[.slice a 2 c] w fun e w' => e = .returned (.tuple #[.agg #[.int .i64 0, .int .i64 0, .int .i64 0, .int .i64 0], .bool false]) ∧ Below w.heap.size w w' := by
  rcases h1 with h0 | ⟨b, off, rfl, hb, hc⟩
  · cases h0
  have c0 : w.cell? ⟨b, off, none⟩ = some (.int .i64 x) := hc 0 (by simp)
  have c1 : w.cell? ⟨b, off + 1, none⟩ = some (.int .i64 y) := hc 1 (by simp)
  clear hc
  go_enter Tryd.func88, Tryd.ntmps88
  go_wp2
  refine wp_loop_rounds 1 ?_
  rw [rounds_succ]
  go_wp2
  go_returns
  exact ⟨rfl, by first | exact bAlloc (bAlloc (bAlloc (Below.refl _ _) _) _) _ | exact bAlloc (bAlloc (Below.refl _ _) _) _ | exact bAlloc (Below.refl _ _) _⟩
set_option maxRecDepth 20000 in
set_option maxHeartbeats 2000000 in
theorem ext_2_neg1 (x y : Int) (a : Option Addr) (c : Nat) (w : World) (h1 : Ints w a [x, y]) (x0 : 0 ≤ x) (x1 : x ≤ 300) (hb : y < 0) :
    Calls Tryd.prog 88 #[.slice a 2 c] w fun e w' => e = .returned (.tuple #[.agg #[.int .i64 0, .int .i64 0, .int .i64 0, .int .i64 0], .bool false]) ∧ Below w.heap.size w w' := by
  rcases h1 with h0 | ⟨b, off, rfl, hb, hc⟩
  · cases h0
  have c0 : w.cell? ⟨b, off, none⟩ = some (.int .i64 x) := hc 0 (by simp)
  have c1 : w.cell? ⟨b, off + 1, none⟩ = some (.int .i64 y) := hc 1 (by simp)
  clear hc
  go_enter Tryd.func88, Tryd.ntmps88
  go_wp2
  refine wp_loop_rounds 2 ?_
  rw [rounds_succ]
  go_wp2
  rw [rounds_succ]
  go_wp2
  go_returns
  exact ⟨rfl, by first | exact bAlloc (bAlloc (bAlloc (Below.refl _ _) _) _) _ | exact bAlloc (bAlloc (Below.refl _ _) _) _ | exact bAlloc (Below.refl _ _) _⟩
set_option maxRecDepth 20000 in
set_option maxHeartbeats 2000000 in
theorem ext_2_great1 (x y : Int) (a : Option Addr) (c : Nat) (w : World) (h1 : Ints w a [x, y]) (x0 : 0 ≤ x) (x1 : x ≤ 300) (hb0 : 0 ≤ y) (hb : 300 < y) :
    Calls Tryd.prog 88 #[.slice a 2 c] w fun e w' => e = .returned (.tuple #[.agg #[.int .i64 0, .int .i64 0, .int .i64 0, .int .i64 0], .bool false]) ∧ Below w.heap.size w w' := by
  rcases h1 with h0 | ⟨b, off, rfl, hb, hc⟩
  · cases h0
  have c0 : w.cell? ⟨b, off, none⟩ = some (.int .i64 x) := hc 0 (by simp)
  have c1 : w.cell? ⟨b, off + 1, none⟩ = some (.int .i64 y) := hc 1 (by simp)
  clear hc
  go_enter Tryd.func88, Tryd.ntmps88
  go_wp2
  refine wp_loop_rounds 2 ?_
  rw [rounds_succ]
  go_wp2
  rw [rounds_succ]
  go_wp2
  go_returns
  exact ⟨rfl, by first | exact bAlloc (bAlloc (bAlloc (Below.refl _ _) _) _) _ | exact bAlloc (bAlloc (Below.refl _ _) _) _ | exact bAlloc (Below.refl _ _) _⟩
set_option maxRecDepth 20000 in
set_option maxHeartbeats 2000000 in
theorem ext_2_ok (x y : Int) (a : Option Addr) (c : Nat) (w : World) (h1 : Ints w a [x, y]) (x0 : 0 ≤ x) (x1 : x ≤ 300) (y0 : 0 ≤ y) (y1 : y ≤ 300) (hp : x * y ≤ 300) :
    Calls Tryd.prog 88 #[.slice a 2 c] w fun e w' => e = .returned (.tuple #[.agg #[.int .i64 2, .int .i64 x, .int .i64 y, .int .i64 0], .bool true]) ∧ Below w.heap.size w w' := by
  have h2 : 0 ≤ x * y := Int.mul_nonneg x0 y0
  have h3 : x * y ≤ 90000 := Int.le_trans (Int.mul_le_mul x1 y1 y0 (by omega)) (by decide)
  rcases h1 with h0 | ⟨b, off, rfl, hb, hc⟩
  · cases h0
  have c0 : w.cell? ⟨b, off, none⟩ = some (.int .i64 x) := hc 0 (by simp)
  have c1 : w.cell? ⟨b, off + 1, none⟩ = some (.int .i64 y) := hc 1 (by simp)
  clear hc
  go_enter Tryd.func88, Tryd.ntmps88
  go_wp2
  refine wp_loop_rounds 3 ?_
  rw [rounds_succ]
  go_wp2
  rw [rounds_succ]
  go_wp2
  rw [rounds_succ]
  go_wp2_with (go_at_call 89; refine (size_2_ext x y _ x0 x1 y0 y1).mono ?_; rintro e w' ⟨rfl, hw⟩; subst w')
  go_returns
  exact ⟨rfl, by first | exact bAlloc (bAlloc (bAlloc (Below.refl _ _) _) _) _ | exact bAlloc (bAlloc (Below.refl _ _) _) _ | exact bAlloc (Below.refl _ _) _⟩
set_option maxRecDepth 20000 in
set_option maxHeartbeats 2000000 in
theorem ext_2_much (x y : Int) (a : Option Addr) (c : Nat) (w : World) (h1 : Ints w a [x, y]) (x0 : 0 ≤ x) (x1 : x ≤ 300) (y0 : 0 ≤ y) (y1 : y ≤ 300) (hp : 300 < x * y) :
    Calls Tryd.prog 88 #[.slice a 2 c] w fun e w' => e = .returned (.tuple #[.agg #[.int .i64 0, .int .i64 0, .int .i64 0, .int .i64 0], .bool false]) ∧ Below w.heap.size w w' := by
  have h2 : 0 ≤ x * y := Int.mul_nonneg x0 y0
  have h3 : x * y ≤ 90000 := Int.le_trans (Int.mul_le_mul x1 y1 y0 (by omega)) (by decide)
  rcases h1 with h0 | ⟨b, off, rfl, hb, hc⟩
  · cases h0
  have c0 : w.cell? ⟨b, off, none⟩ = some (.int .i64 x) := hc 0 (by simp)
  have c1 : w.cell? ⟨b, off + 1, none⟩ = some (.int .i64 y) := hc 1 (by simp)
  clear hc
  go_enter Tryd.func88, Tryd.ntmps88
  go_wp2
  refine wp_loop_rounds 3 ?_
  rw [rounds_succ]
  go_wp2
  rw [rounds_succ]
  go_wp2
  rw [rounds_succ]
  go_wp2_with (go_at_call 89; refine (size_2_ext x y _ x0 x1 y0 y1).mono ?_; rintro e w' ⟨rfl, hw⟩; subst w')
  go_returns
  exact ⟨rfl, by first | exact bAlloc (bAlloc (bAlloc (Below.refl _ _) _) _) _ | exact bAlloc (bAlloc (Below.refl _ _) _) _ | exact bAlloc (Below.refl _ _) _⟩
set_option maxRecDepth 20000 in
set_option maxHeartbeats 2000000 in
theorem ext_3_neg0 (x y z : Int) (a : Option Addr) (c : Nat) (w : World) (h1 : Ints w a [x, y, z])  (hb : x < 0) :
    Calls Tryd.prog 88 #[.slice a 3 c] w fun e w' => e = .returned (.tuple #[.agg #[.int .i64 0, .int .i64 0, .int .i64 0, .int .i64 0], .bool false]) ∧ Below w.heap.size w w' := by
  rcases h1 with h0 | ⟨b, off, rfl, hb, hc⟩
  · cases h0
  have c0 : w.cell? ⟨b, off, none⟩ = some (.int .i64 x) := hc 0 (by simp)
  have c1 : w.cell? ⟨b, off + 1, none⟩ = some (.int .i64 y) := hc 1 (by simp)
  have c2 : w.cell? ⟨b, off + 2, none⟩ = some (.int .i64 z) := hc 2 (by simp)
  clear hc
  go_enter Tryd.func88, Tryd.ntmps88
  go_wp2
  refine wp_loop_rounds 1 ?_
  rw [rounds_succ]
  go_wp2
  go_returns
  exact ⟨rfl, by first | exact bAlloc (bAlloc (bAlloc (Below.refl _ _) _) _) _ | exact bAlloc (bAlloc (Below.refl _ _) _) _ | exact bAlloc (Below.refl _ _) _⟩
set_option maxRecDepth 20000 in
set_option maxHeartbeats 2000000 in
theorem ext_3_great0 (x y z : Int) (a : Option Addr) (c : Nat) (w : World) (h1 : Ints w a [x, y, z])  (hb0 : 0 ≤ x) (hb : 300 < x) :
    Calls Tryd.prog 88 #[.slice a 3 c] w fun e w' => e = .returned (.tuple #[.agg #[.int .i64 0, .int .i64 0, .int .i64 0, .int .i64 0], .bool false]) ∧ Below w.heap.size w w' := by
  rcases h1 with h0 | ⟨b, off, rfl, hb, hc⟩
  · cases h0
  have c0 : w.cell? ⟨b, off, none⟩ = some (.int .i64 x) := hc 0 (by simp)
  have c1 : w.cell? ⟨b, off + 1, none⟩ = some (.int .i64 y) := hc 1 (by simp)
  have c2 : w.cell? ⟨b, off + 2, none⟩ = some (.int .i64 z) := hc 2 (by simp)
  clear hc
  go_enter Tryd.func88, Tryd.ntmps88
  go_wp2
  refine wp_loop_rounds 1 ?_
  rw [rounds_succ]
  go_wp2
  go_returns
  exact ⟨rfl, by first | exact bAlloc (bAlloc (bAlloc (Below.refl _ _) _) _) _ | exact bAlloc (bAlloc (Below.refl _ _) _) _ | exact bAlloc (Below.refl _ _) _⟩
set_option maxRecDepth 20000 in
set_option maxHeartbeats 2000000 in
theorem ext_3_neg1 (x y z : Int) (a : Option Addr) (c : Nat) (w : World) (h1 : Ints w a [x, y, z]) (x0 : 0 ≤ x) (x1 : x ≤ 300) (hb : y < 0) :
    Calls Tryd.prog 88 #[.slice a 3 c] w fun e w' => e = .returned (.tuple #[.agg #[.int .i64 0, .int .i64 0, .int .i64 0, .int .i64 0], .bool false]) ∧ Below w.heap.size w w' := by
  rcases h1 with h0 | ⟨b, off, rfl, hb, hc⟩
  · cases h0
  have c0 : w.cell? ⟨b, off, none⟩ = some (.int .i64 x) := hc 0 (by simp)
  have c1 : w.cell? ⟨b, off + 1, none⟩ = some (.int .i64 y) := hc 1 (by simp)
  have c2 : w.cell? ⟨b, off + 2, none⟩ = some (.int .i64 z) := hc 2 (by simp)
  clear hc
  go_enter Tryd.func88, Tryd.ntmps88
  go_wp2
  refine wp_loop_rounds 2 ?_
  rw [rounds_succ]
  go_wp2
  rw [rounds_succ]
  go_wp2
  go_returns
  exact ⟨rfl, by first | exact bAlloc (bAlloc (bAlloc (Below.refl _ _) _) _) _ | exact bAlloc (bAlloc (Below.refl _ _) _) _ | exact bAlloc (Below.refl _ _) _⟩
set_option maxRecDepth 20000 in
set_option maxHeartbeats 2000000 in
theorem ext_3_great1 (x y z : Int) (a : Option Addr) (c : Nat) (w : World) (h1 : Ints w a [x, y, z]) (x0 : 0 ≤ x) (x1 : x ≤ 300) (hb0 : 0 ≤ y) (hb : 300 < y) :
    Calls Tryd.prog 88 #[.slice a 3 c] w fun e w' => e = .returned (.tuple #[.agg #[.int .i64 0, .int .i64 0, .int .i64 0, .int .i64 0], .bool false]) ∧ Below w.heap.size w w' := by
  rcases h1 with h0 | ⟨b, off, rfl, hb, hc⟩
  · cases h0
  have c0 : w.cell? ⟨b, off, none⟩ = some (.int .i64 x) := hc 0 (by simp)
  have c1 : w.cell? ⟨b, off + 1, none⟩ = some (.int .i64 y) := hc 1 (by simp)
  have c2 : w.cell? ⟨b, off + 2, none⟩ = some (.int .i64 z) := hc 2 (by simp)
  clear hc
  go_enter Tryd.func88, Tryd.ntmps88
  go_wp2
  refine wp_loop_rounds 2 ?_
  rw [rounds_succ]
  go_wp2
  rw [rounds_succ]
  go_wp2
  go_returns
  exact ⟨rfl, by first | exact bAlloc (bAlloc (bAlloc (Below.refl _ _) _) _) _ | exact bAlloc (bAlloc (Below.refl _ _) _) _ | exact bAlloc (Below.refl _ _) _⟩
set_option maxRecDepth 20000 in
set_option maxHeartbeats 2000000 in
theorem ext_3_neg2 (x y z : Int) (a : Option Addr) (c : Nat) (w : World) (h1 : Ints w a [x, y, z]) (x0 : 0 ≤ x) (x1 : x ≤ 300) (y0 : 0 ≤ y) (y1 : y ≤ 300) (hb : z < 0) :
    Calls Tryd.prog 88 #[.slice a 3 c] w fun e w' => e = .returned (.tuple #[.agg #[.int .i64 0, .int .i64 0, .int .i64 0, .int .i64 0], .bool false]) ∧ Below w.heap.size w w' := by
  rcases h1 with h0 | ⟨b, off, rfl, hb, hc⟩
  · cases h0
  have c0 : w.cell? ⟨b, off, none⟩ = some (.int .i64 x) := hc 0 (by simp)
  have c1 : w.cell? ⟨b, off + 1, none⟩ = some (.int .i64 y) := hc 1 (by simp)
  have c2 : w.cell? ⟨b, off + 2, none⟩ = some (.int .i64 z) := hc 2 (by simp)
  clear hc
  go_enter Tryd.func88, Tryd.ntmps88
  go_wp2
  refine wp_loop_rounds 3 ?_
  rw [rounds_succ]
  go_wp2
  rw [rounds_succ]
  go_wp2
  rw [rounds_succ]
  go_wp2
  go_returns
  exact ⟨rfl, by first | exact bAlloc (bAlloc (bAlloc (Below.refl _ _) _) _) _ | exact bAlloc (bAlloc (Below.refl _ _) _) _ | exact bAlloc (Below.refl _ _) _⟩
set_option maxRecDepth 20000 in
set_option maxHeartbeats 2000000 in
theorem ext_3_great2 (x y z : Int) (a : Option Addr) (c : Nat) (w : World) (h1 : Ints w a [x, y, z]) (x0 : 0 ≤ x) (x1 : x ≤ 300) (y0 : 0 ≤ y) (y1 : y ≤ 300) (hb0 : 0 ≤ z) (hb : 300 < z) :
    Calls Tryd.prog 88 #[.slice a 3 c] w fun e w' => e = .returned (.tuple #[.agg #[.int .i64 0, .int .i64 0, .int .i64 0, .int .i64 0], .bool false]) ∧ Below w.heap.size w w' := by
  rcases h1 with h0 | ⟨b, off, rfl, hb, hc⟩
  · cases h0
  have c0 : w.cell? ⟨b, off, none⟩ = some (.int .i64 x) := hc 0 (by simp)
  have c1 : w.cell? ⟨b, off + 1, none⟩ = some (.int .i64 y) := hc 1 (by simp)
  have c2 : w.cell? ⟨b, off + 2, none⟩ = some (.int .i64 z) := hc 2 (by simp)
  clear hc
  go_enter Tryd.func88, Tryd.ntmps88
  go_wp2
  refine wp_loop_rounds 3 ?_
  rw [rounds_succ]
  go_wp2
  rw [rounds_succ]
  go_wp2
  rw [rounds_succ]
  go_wp2
  go_returns
  exact ⟨rfl, by first | exact bAlloc (bAlloc (bAlloc (Below.refl _ _) _) _) _ | exact bAlloc (bAlloc (Below.refl _ _) _) _ | exact bAlloc (Below.refl _ _) _⟩
set_option maxRecDepth 20000 in
set_option maxHeartbeats 2000000 in
theorem ext_3_ok (x y z : Int) (a : Option Addr) (c : Nat) (w : World) (h1 : Ints w a [x, y, z]) (x0 : 0 ≤ x) (x1 : x ≤ 300) (y0 : 0 ≤ y) (y1 : y ≤ 300) (z0 : 0 ≤ z) (z1 : z ≤ 300) (hp : x * y * z ≤ 300) :
    Calls Tryd.prog 88 #[.slice a 3 c] w fun e w' => e = .returned (.tuple #[.agg #[.int .i64 3, .int .i64 x, .int .i64 y, .int .i64 z], .bool true]) ∧ Below w.heap.size w w' := by
  have h2 : 0 ≤ x * y := Int.mul_nonneg x0 y0
  have h3 : x * y ≤ 90000 := Int.le_trans (Int.mul_le_mul x1 y1 y0 (by omega)) (by decide)
  have h4 : 0 ≤ x * y * z := Int.mul_nonneg h2 z0
  have h5 : x * y * z ≤ 27000000 := Int.le_trans (Int.mul_le_mul h3 z1 z0 (by omega)) (by decide)
  rcases h1 with h0 | ⟨b, off, rfl, hb, hc⟩
  · cases h0
  have c0 : w.cell? ⟨b, off, none⟩ = some (.int .i64 x) := hc 0 (by simp)
  have c1 : w.cell? ⟨b, off + 1, none⟩ = some (.int .i64 y) := hc 1 (by simp)
  have c2 : w.cell? ⟨b, off + 2, none⟩ = some (.int .i64 z) := hc 2 (by simp)
  clear hc
  go_enter Tryd.func88, Tryd.ntmps88
  go_wp2
  refine wp_loop_rounds 4 ?_
  rw [rounds_succ]
  go_wp2
  rw [rounds_succ]
  go_wp2
  rw [rounds_succ]
  go_wp2
  rw [rounds_succ]
  go_wp2_with (go_at_call 89; refine (size_3_ext x y z _ x0 x1 y0 y1 z0 z1).mono ?_; rintro e w' ⟨rfl, hw⟩; subst w')
  go_returns
  exact ⟨rfl, by first | exact bAlloc (bAlloc (bAlloc (Below.refl _ _) _) _) _ | exact bAlloc (bAlloc (Below.refl _ _) _) _ | exact bAlloc (Below.refl _ _) _⟩
set_option maxRecDepth 20000 in
set_option maxHeartbeats 2000000 in
theorem ext_3_much (x y z : Int) (a : Option Addr) (c : Nat) (w : World) (h1 : Ints w a [x, y, z]) (x0 : 0 ≤ x) (x1 : x ≤ 300) (y0 : 0 ≤ y) (y1 : y ≤ 300) (z0 : 0 ≤ z) (z1 : z ≤ 300) (hp : 300 < x * y * z) :
    Calls Tryd.prog 88 #[.slice a 3 c] w fun e w' => e = .returned (.tuple #[.agg #[.int .i64 0, .int .i64 0, .int .i64 0, .int .i64 0], .bool false]) ∧ Below w.heap.size w w' := by
  have h2 : 0 ≤ x * y := Int.mul_nonneg x0 y0
  have h3 : x * y ≤ 90000 := Int.le_trans (Int.mul_le_mul x1 y1 y0 (by omega)) (by decide)
  have h4 : 0 ≤ x * y * z := Int.mul_nonneg h2 z0
  have h5 : x * y * z ≤ 27000000 := Int.le_trans (Int.mul_le_mul h3 z1 z0 (by omega)) (by decide)
  rcases h1 with h0 | ⟨b, off, rfl, hb, hc⟩
  · cases h0
  have c0 : w.cell? ⟨b, off, none⟩ = some (.int .i64 x) := hc 0 (by simp)
  have c1 : w.cell? ⟨b, off + 1, none⟩ = some (.int .i64 y) := hc 1 (by simp)
  have c2 : w.cell? ⟨b, off + 2, none⟩ = some (.int .i64 z) := hc 2 (by simp)
  clear hc
  go_enter Tryd.func88, Tryd.ntmps88
  go_wp2
  refine wp_loop_rounds 4 ?_
  rw [rounds_succ]
  go_wp2
  rw [rounds_succ]
  go_wp2
  rw [rounds_succ]
  go_wp2
  rw [rounds_succ]
  go_wp2_with (go_at_call 89; refine (size_3_ext x y z _ x0 x1 y0 y1 z0 z1).mono ?_; rintro e w' ⟨rfl, hw⟩; subst w')
  go_returns
  exact ⟨rfl, by first | exact bAlloc (bAlloc (bAlloc (Below.refl _ _) _) _) _ | exact bAlloc (bAlloc (Below.refl _ _) _) _ | exact bAlloc (Below.refl _ _) _⟩
set_option maxRecDepth 20000 in
set_option maxHeartbeats 2000000 in
theorem ext_long (l : List Int) (a : Option Addr) (c : Nat) (w : World) (hl : 3 < l.length) :
    Calls Tryd.prog 88 #[.slice a l.length c] w fun e w' => e = .returned (.tuple #[.agg #[.int .i64 0, .int .i64 0, .int .i64 0, .int .i64 0], .bool false]) ∧ Below w.heap.size w w' := by
  have hl' : (3 : Int) < (l.length : Int) := by omega
  go_enter Tryd.func88, Tryd.ntmps88
  go_wp2
  go_returns
  exact ⟨rfl, bAlloc (Below.refl _ _) _⟩
end Go.Proofs.YtcaidhmolnnikaaDoor
