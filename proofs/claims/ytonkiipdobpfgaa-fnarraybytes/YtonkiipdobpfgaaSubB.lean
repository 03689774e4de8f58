/-
  Bytes cut: from one place on, and up to one.
-/
import Derived.Test.YtonkiipdobpfgaaReadI
namespace Go.Proofs.Ytonkiipdobpfgaa
open Go.RowKit
set_option linter.unusedVariables false
set_option linter.unusedSimpArgs false
/-- Bytes from one place on, and up to one. -/
theorem run_fromB {g off n c M : Nat} (hM : M ≤ n) (hc : n ≤ c) (W : World) : (Instr.slice 26 (.slice (some ⟨g, off, none⟩) n c) (some (.int .i64 (M : Int))) none none).run Try.prog W = .ok (.slice (some ⟨g, if c - M = 0 then off else off + M, none⟩) (n - M) (c - M)) W := by
  have hs : (sizeOf 5).run Try.prog W = .ok 1 W := by kernel_rfl
  have he : Try.prog.elem 26 = 5 := by kernel_rfl
  rw [run_slice_l (P := Try.prog) (w := W) 26 (some ⟨g, off, none⟩) n c (by rw [he]; exact Try.underlying26) .i64 (M : Int) (by omega) (by omega), he, hs]
  have e : (c = M) = (c - M = 0) := by apply propext; omega
  by_cases h : c - M = 0 <;> simp [Result.andThen, sliced, e, h, Addr.add]
theorem run_uptoB {g off n c M : Nat} (hM : M ≤ c) (hc : n ≤ c) (W : World) : (Instr.slice 26 (.slice (some ⟨g, off, none⟩) n c) none (some (.int .i64 (M : Int))) none).run Try.prog W = .ok (.slice (some ⟨g, off, none⟩) M c) W := by
  have hs : (sizeOf 5).run Try.prog W = .ok 1 W := by kernel_rfl
  have he : Try.prog.elem 26 = 5 := by kernel_rfl
  rw [run_slice_h (P := Try.prog) (w := W) 26 (some ⟨g, off, none⟩) n c (by rw [he]; exact Try.underlying26) .i64 (M : Int) (by omega) (by omega), he, hs]
  simp [Result.andThen, sliced, Addr.add]
end Go.Proofs.Ytonkiipdobpfgaa
