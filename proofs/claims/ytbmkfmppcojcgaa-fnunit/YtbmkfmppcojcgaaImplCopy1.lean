
/-
  Walks: the program's sumOf, toldOften and Copy's closure.
-/
import Derived.Test.YtbmkfmppcojcgaaImplMake3
import Derived.Test.YtbmkfmppcojcgaaImplMake5
import Derived.Test.YtbmkfmppcojcgaaGrow
import Derived.Test.YtbmkfmppcojcgaaCopyL
namespace Go.Proofs.Ytbmkfmppcojcgaa
open Go.RowKit
set_option linter.unusedVariables false
set_option linter.unusedSimpArgs false
theorem sumL_bd {l : List Int} (h : ∀ j, j < l.length → 0 ≤ l.getD j 0 ∧ l.getD j 0 ≤ 1000000000000) : ∀ {k : Nat}, k ≤ l.length → 0 ≤ sumL l k ∧ sumL l k ≤ k * 1000000000000 := by
  intro k
  induction k with
  | zero => intro _; exact ⟨Int.le_refl _, by simp [sumL]⟩
  | succ k ih =>
    intro hk
    have h1 := h k (by omega)
    have h2 := ih (by omega)
    show 0 ≤ sumL l k + l.getD k 0 ∧ sumL l k + l.getD k 0 ≤ _
    push_cast
    omega
/-- A list of no number, with room. -/
theorem make0_ints (n : Nat) (hn : n ≤ 1073741824) (w : World) :
    ∃ w', (Instr.makeSlice 24 (.int .i64 0) (.int .i64 (n : Int))).run Try.prog w = .ok (.slice (some ⟨w.heap.size, 0, none⟩) 0 n) w' ∧ NewInts w.heap.size w' (.slice (some ⟨w.heap.size, 0, none⟩) 0 n) [] ∧ Below w.heap.size w w' := by
  have hi := info_int
  cases hq : Try.prog.info? 3 with
  | none => rw [hq] at hi; cases hi
  | some i =>
    rw [hq] at hi
    simp at hi
    obtain ⟨z1, z2, z3⟩ := hi
    have := run_make (P := Try.prog) w 24 3 i (.int .i64 0) Try.underlying24 hq z1 .i64 .i64 0 n (by omega) (by omega) (by rw [z3]; omega) (by omega)
    rw [z2, Int.toNat_natCast, Nat.mul_one] at this
    refine ⟨_, this, ⟨rfl, .inr ⟨w.heap.size, n, _, rfl, Nat.le_refl _, heap_alloc_new w _, Nat.zero_le _, by unfold maxLen; omega, ?_, by simp⟩⟩, bAlloc (Below.refl _ _) _⟩
    rw [made_zero]
    simp [vals]
end Go.Proofs.Ytbmkfmppcojcgaa
