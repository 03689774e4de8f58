/-
  Walks: CodeText of the specification.
-/
import Derived.Test.YtnclnnkkkofjaaaDoorOnceW
namespace Go.Proofs.YtnclnnkkkofjaaaDoor
open Go.RowKit
set_option linter.unusedVariables false
set_option linter.unusedSimpArgs false
set_option maxRecDepth 100000 in
set_option maxHeartbeats 1600000 in
theorem codeText_spec {w : World} (c : Int) :
    Calls Tryd.prog 5 #[.int .i64 c] w fun e w' => e = .returned (.string (wordV c)) ∧ Below w.heap.size w w' := by
  by_cases hc0 : c < 0
  · have hv : wordV c = wordsL.getD 1 ⟨#[]⟩ := by rw [wordV, if_neg (by omega)]; rfl
    have x0 : decide (0 ≤ c) = false := by simp; omega
    rw [hv]
    go_enter Tryd.func5, Tryd.ntmps5
    go_wp2_with (go_at_call 9; go_in)
    go_ret
    exact ⟨rfl, Below.refl _ _⟩
  have x0 : decide (0 ≤ c) = true := by simp; omega
  by_cases hc1 : c ≤ 10
  · have hv : wordV c = wordsL.getD c.toNat ⟨#[]⟩ := by rw [wordV, if_pos (by omega)]
    have x1 : decide (c ≤ 10) = true := by simp; omega
    have hwa : (w.alloc (.cells #[.string ⟨#[111, 107]⟩, .string ⟨#[98, 97, 100]⟩, .string ⟨#[100, 111, 109, 97, 105, 110]⟩, .string ⟨#[108, 101, 110, 103, 116, 104]⟩, .string ⟨#[114, 97, 110, 107]⟩, .string ⟨#[105, 110, 100, 101, 120]⟩, .string ⟨#[108, 105, 109, 105, 116]⟩, .string ⟨#[118, 97, 108, 117, 101]⟩, .string ⟨#[115, 121, 110, 116, 97, 120]⟩, .string ⟨#[102, 117, 108, 108]⟩, .string ⟨#[115, 116, 101, 112, 115]⟩] 9)).cell? ⟨w.heap.size, c.toNat, none⟩ = some (.string (wordsL.getD c.toNat ⟨#[]⟩)) := word_at (w := w.alloc (.cells (wordsL.map Value.string).toArray 9)) (heap_alloc_new w _) c.toNat (by omega)
    rw [hv]
    go_enter Tryd.func5, Tryd.ntmps5
    go_wp2_with (go_at_call 9; go_in)
    go_ret
    exact ⟨rfl, bAlloc (Below.refl _ _) _⟩
  · have hv : wordV c = wordsL.getD 1 ⟨#[]⟩ := by rw [wordV, if_neg (by omega)]; rfl
    have x1 : decide (c ≤ 10) = false := by simp; omega
    rw [hv]
    go_enter Tryd.func5, Tryd.ntmps5
    go_wp2_with (go_at_call 9; go_in)
    go_ret
    exact ⟨rfl, Below.refl _ _⟩
end Go.Proofs.YtnclnnkkkofjaaaDoor
