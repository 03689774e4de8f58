
/-
  Walks: what the functions of Chapter 1 on two numbers (the program's) answer, whatever they are given.
-/
import Derived.Test.YthjjjnapcbkhjaaSmallM
import Derived.Laws.Tables
namespace Go.Proofs.Ythjjjnapcbkhjaa
open Go.RowKit
theorem ret_int {k : IntKind} {a b : Int} (h : a = b) : Ending.returned (.int k a) = .returned (.int k b) := by rw [h]
theorem ret_two {a b c d : Int} (h : a = b) (h' : c = d) : Ending.returned (.tuple #[.int .i64 a, .int .i64 c]) = .returned (.tuple #[.int .i64 b, .int .i64 d]) := by rw [h, h']

set_option maxHeartbeats 400000 in
theorem oneIf_impl (b : Bool) (w : World) : Calls Try.prog 70 #[.bool b] w fun e w' => e = .returned (.int .i64 (bit b)) ∧ w' = w := by
  cases b <;> (go_enter Try.func70, Try.ntmps70; go_wp2; go_ret; exact ⟨rfl, rfl⟩)
def zerosTwo : Array Value := #[.int .i64 0, .nilFunc, .int .i64 0, .nilFunc, .int .i64 0, .nilFunc, .int .i64 0, .nilFunc, .int .i64 0, .nilFunc, .int .i64 0, .nilFunc, .int .i64 0, .nilFunc, .int .i64 0, .nilFunc, .int .i64 0, .nilFunc, .int .i64 0, .nilFunc]
theorem modify_push {α : Type} (xs : Array α) (o p : α) (f : α → α) (hf : f o = p) : (xs.push o).modify xs.size f = xs.push p := by
  apply Array.ext
  · simp
  · intro i h1 h2
    rw [Array.getElem_modify]
    simp only [Array.getElem_push]
    by_cases e : i < xs.size
    · simp [e, show ¬ xs.size = i by omega]
    · have : xs.size = i := by simp at h2; omega
      simp [this, hf]
theorem setRow_alloc (w : World) (old cs : Array Value) (t : TypeId) : (w.alloc (.cells old t)).setRow w.heap.size cs = w.alloc (.cells cs t) := by
  unfold World.setRow
  rw [show (w.alloc (.cells old t)).heap = w.heap.push (.cells old t) from rfl, modify_push _ _ (.cells cs t) _ rfl]
  rfl
end Go.Proofs.Ythjjjnapcbkhjaa
namespace Go.Proofs.Ythjjjnapcbkhjaa
open Go.RowKit
/-- The signs, by their places in the program's own table. -/
def sg (k : Nat) : Int := [43, 45, 42, 37, 124, 38, 94, 61, 60, 62].getD k 0
theorem sg_none {s : Int} (h : ∀ j, j < 10 → sg j ≠ s) : sign2 s = false := by
  have h0 := h 0 (by omega); have h1 := h 1 (by omega); have h2 := h 2 (by omega); have h3 := h 3 (by omega); have h4 := h 4 (by omega)
  have h5 := h 5 (by omega); have h6 := h 6 (by omega); have h7 := h 7 (by omega); have h8 := h 8 (by omega); have h9 := h 9 (by omega)
  simp [sg] at h0 h1 h2 h3 h4 h5 h6 h7 h8 h9
  simp [sign2]; omega
theorem sg_next {s : Int} {k : Nat} (h : ∀ j, j < k → sg j ≠ s) (hk : sg k ≠ s) : ∀ j, j < k + 1 → sg j ≠ s := by
  intro j hj
  by_cases e : j = k
  · subst e; exact hk
  · exact h j (by omega)
end Go.Proofs.Ythjjjnapcbkhjaa
