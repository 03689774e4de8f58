/-
  A list of truth values of one's own: making, reading, writing.
-/
import Derived.Test.YtmmjidhpmbcoiaaLaw3
namespace Go.Proofs.Ytmmjidhpmbcoiaa
open Go.RowKit
set_option linter.unusedVariables false
def bvals (B : List Bool) : Array Value := (B.map Value.bool).toArray
theorem info_bool : (Try.prog.info? 4).map (fun i => (i.zero, i.size, i.bytes)) = some (some (.bool false), 1, 1) := by kernel_rfl
theorem made_false (n : Nat) : madeCells (Value.bool false).cells n = bvals (List.replicate n false) := by
  apply Array.ext
  · simp [size_madeCells, bvals]
  · intro i h1 h2
    simp [madeCells, bvals, Value.cells]
    rw [Nat.mod_one]
    rfl
theorem make_bools (n : Nat) (hn : n ≤ 1073741824) (w : World) :
    (Instr.makeSlice 82 (.int .i64 (n : Int)) (.int .i64 (n : Int))).run Try.prog w = .ok (.slice (some ⟨w.heap.size, 0, none⟩) n n) (w.alloc (.cells (bvals (List.replicate n false)) 4)) := by
  have hi := info_bool
  cases hq : Try.prog.info? 4 with
  | none => rw [hq] at hi; cases hi
  | some i =>
    rw [hq] at hi
    simp at hi
    obtain ⟨z1, z2, z3⟩ := hi
    have := run_make (P := Try.prog) w 82 4 i (.bool false) Try.underlying82 hq z1 .i64 .i64 n n (by omega) (by omega) (by rw [z3]; omega) (by omega)
    rw [z2, Int.toNat_natCast, Nat.mul_one, made_false] at this
    exact this
def OwnBools (w : World) (g : Nat) (B : List Bool) : Prop := w.heap[g]? = some (.cells (bvals B) 4 (0, 0))
theorem OwnBools.cell {w : World} {g : Nat} {B : List Bool} (h : OwnBools w g B) {k : Nat} {x : Bool} (hx : B[k]? = some x) : w.cell? ⟨g, k, none⟩ = some (.bool x) := cell_at h (by simp [bvals, hx])
theorem OwnBools.free {w : World} {g : Nat} {B : List Bool} (h : OwnBools w g B) (k : Nat) : w.frozen? ⟨g, k, none⟩ = false := by simp [World.frozen?, show w.heap[g]? = _ from h]
theorem OwnBools.set {w : World} {g : Nat} {B : List Bool} (h : OwnBools w g B) (k : Nat) (x : Bool) : OwnBools (w.setCell ⟨g, k, none⟩ (.bool x)) g (B.set k x) := by
  have e := heap_setCell_same w g k _ _ (.bool x) (show w.heap[g]? = some (.cells (bvals B) 4 (0, 0)) from h)
  unfold OwnBools
  rw [e]
  simp [bvals, List.map_set]
end Go.Proofs.Ytmmjidhpmbcoiaa
