/-
  Walks: Fun held against itself; two blocks; two lists of the same numbers.
-/
import Derived.Test.YtnebjnglcfebeaaDoorLaw3
import Derived.Deep.RegionHeld3
import Derived.Deep.Cut
namespace Go.Proofs.YtnebjnglcfebeaaDoor
open Go.RowKit
set_option linter.unusedVariables false
set_option linter.unusedSimpArgs false
theorem one_below {w : World} {A : Obj} : Below w.heap.size w (w.alloc A) := bAlloc (Below.refl _ _) _
theorem two_below {w : World} {A B : Obj} : Below w.heap.size w ((w.alloc A).alloc B) := bAlloc (bAlloc (Below.refl _ _) _) _
theorem two_blocks9 (w : World) (A B : Obj) : ((w.alloc A).alloc B).heap[w.heap.size]? = some A ∧ ((w.alloc A).alloc B).heap[w.heap.size + 1]? = some B := by
  have e2 := heap_alloc_new (w.alloc A) B
  simp only [World.size_alloc] at e2
  exact ⟨by rw [heap_alloc_old _ _ (by simp only [World.size_alloc]; omega)]; exact heap_alloc_new w A, e2⟩
theorem eqInts_same9 {l : List Int} {w : World} {a b : Option Addr} (h : Ints w a l) (k : Ints w b l) (hl : l.length ≤ 1048576) (c d : Nat) :
    Calls Tryd.prog 69 #[.slice a l.length c, .slice b l.length d] w fun e w' => e = .returned (.bool true) ∧ Below w.heap.size w w' := by
  refine (eq_ints c d (by omega) h k).mono ?_
  rintro e w' ⟨rfl, j, rfl⟩
  exact ⟨by simp, bDrewN (Below.refl _ _) j⟩
set_option maxRecDepth 20000 in
set_option maxHeartbeats 4000000 in
theorem eqFun_same (a b c : Int) (w : World) : Calls Tryd.prog 68 #[.agg #[.int .i64 a, .int .i64 b, .int .i64 c], .agg #[.int .i64 a, .int .i64 b, .int .i64 c]] w fun e w' => e = .returned (.bool true) ∧ Below w.heap.size w w' := by
  have h1 : (a != a) = false := by simp
  have h2 : (b != b) = false := by simp
  have h3 : (c != c) = false := by simp
  go_enter Tryd.func68, Tryd.ntmps68
  go_wp2
  go_ret
  exact ⟨rfl, bAlloc (bAlloc (Below.refl _ _) _) _⟩
end Go.Proofs.YtnebjnglcfebeaaDoor
