
/-
  Walks: the program's placeOr and oneIf, and the closures of Find and Within.
-/
import Derived.Test.YthjjjnapcbkhjabMapI
namespace Go.Proofs.Ythjjjnapcbkhjab
open Go.RowKit
set_option linter.unusedVariables false
set_option linter.unusedSimpArgs false
theorem wf_i64 {x : Int} (h1 : -1000000000000 ≤ x) (h2 : x ≤ 1000000000000) : (Lit.int .i64 x).wf = true := by
  have e1 : IntKind.i64.min = -9223372036854775808 := by decide
  have e2 : IntKind.i64.max = 9223372036854775807 := by decide
  simp [Lit.wf, e1, e2]
  omega
set_option maxHeartbeats 1000000 in
/-- placeOr. -/
theorem placeOr_impl {w : World} {b n : Nat} {M : Int → Option Int} (h : MapAt w b n M) {x : Int} (hx : (Lit.int .i64 x).wf = true) (z : Int) :
    Calls Try.prog 26 #[.int .i64 z, .map (some b), .int .i64 x] w fun r w' => r = .returned (.int .i64 ((M x).getD z)) ∧ w' = w := by
  have hl := h.look hx
  cases hM : M x with
  | none =>
    rw [hM] at hl
    simp only [Option.getD_none, Option.isSome_none] at hl
    go_enter Try.func26, Try.ntmps26
    go_wp2
    go_ret
    exact ⟨rfl, rfl⟩
  | some p =>
    rw [hM] at hl
    simp only [Option.getD_some, Option.isSome_some] at hl
    go_enter Try.func26, Try.ntmps26
    go_wp2
    go_ret
    exact ⟨rfl, rfl⟩
end Go.Proofs.Ythjjjnapcbkhjab
