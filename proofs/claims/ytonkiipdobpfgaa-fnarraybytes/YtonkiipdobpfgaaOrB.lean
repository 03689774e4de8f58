/-
  Bits of a byte put behind a shifted number; a list of one's own beside a cell that turns.
-/
import Derived.Test.YtonkiipdobpfgaaReadI
import Derived.Test.YtonkiipdobpfgaaGrow
namespace Go.Proofs.Ytonkiipdobpfgaa
open Go.RowKit
set_option linter.unusedVariables false
set_option linter.unusedSimpArgs false
theorem or_shl (X x : Int) (h0 : 0 ≤ x) (h1 : x ≤ 255) : Go.bits BinOp.or IntKind.i64 (wrap64 (X * 256)) x = wrp (X * 256 + x) := by
  obtain ⟨M, hM⟩ : ∃ M : Nat, ((wrap64 (X * 256)) % 18446744073709551616).toNat = 2 ^ 8 * M := by
    refine ⟨((wrap64 (X * 256)) % 18446744073709551616).toNat / 256, ?_⟩
    unfold wrap64
    omega
  have hA : (BitVec.ofInt 64 (wrap64 (X * 256))).toNat = 2 ^ 8 * M := by rw [BitVec.toNat_ofInt]; exact hM
  have hB : (BitVec.ofInt 64 x).toNat = x.toNat := by
    rw [BitVec.toNat_ofInt]
    have : (x % ((2 ^ 64 : Nat) : Int)) = x := Int.emod_eq_of_lt h0 (by omega)
    rw [this]
  show IntKind.i64.wrap (((BitVec.ofInt 64 (wrap64 (X * 256)) ||| BitVec.ofInt 64 x).toNat : Nat) : Int) = _
  rw [BitVec.toNat_or, hA, hB, ← Nat.two_pow_add_eq_or_of_lt (by omega), wrap_wrp]
  unfold wrp
  unfold wrap64 at hM
  omega
theorem NewInts.setCellR {B g : Nat} {w : World} {v : Value} {l : List Int} (h : NewInts B w v l) (hg : g < B) (o : Nat) (u : Value) : NewInts B (w.setCell ⟨g, o, none⟩ u) v l := by
  obtain ⟨h1, h2⟩ := h
  refine ⟨h1, ?_⟩
  rcases h2 with h2 | ⟨g', cap, cur, e, hB, hg', r⟩
  · exact .inl h2
  · exact .inr ⟨g', cap, cur, e, hB, by rw [heap_setCell_other _ _ _ _ (by show g' ≠ g; omega)]; exact hg', r⟩
end Go.Proofs.Ytonkiipdobpfgaa
