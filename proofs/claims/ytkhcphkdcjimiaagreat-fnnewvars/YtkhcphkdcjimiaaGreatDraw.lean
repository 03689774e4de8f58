
/-
  Walks: the cursor over the bytes of a draw (the specification's l1New, l1Byte, l1Below, l1Once, l1PickInt): each call returns, its number lies within its bounds, and nothing turns but the cursor's own block.
-/
import Derived.Test.YtkhcphkdcjimiaaGreatBase
namespace Go.Proofs.YtkhcphkdcjimiaaGreat
open Go.RowKit
set_option linter.unusedVariables false

/-- What is masked lies between 0 and the mask. -/
theorem mask_bd (x : Int) (m : Nat) (hm : m < 9223372036854775808) : 0 ≤ Go.bits .and .i64 x (m : Int) ∧ Go.bits .and .i64 x (m : Int) ≤ (m : Int) := by
  have h2 : (BitVec.ofInt 64 (m : Int)).toNat = m := by
    rw [BitVec.ofInt_natCast, BitVec.toNat_ofNat]; exact Nat.mod_eq_of_lt (by omega)
  have h3 : ((BitVec.ofInt 64 x).toNat &&& m) ≤ m := Nat.and_le_right
  show 0 ≤ IntKind.i64.wrap ((BitVec.ofInt 64 x &&& BitVec.ofInt 64 (m : Int)).toNat : Int) ∧ IntKind.i64.wrap ((BitVec.ofInt 64 x &&& BitVec.ofInt 64 (m : Int)).toNat : Int) ≤ _
  rw [BitVec.toNat_and, h2, IntKind.wrap_i64]
  omega

/-- The bytes that are drawn from: a slice whose cells all lie below block B. -/
def Src (B : Nat) (w : World) (a : Option Addr) (len : Nat) : Prop :=
  len ≤ 9223372036854775807 ∧ (len = 0 ∨ ∃ b off, a = some ⟨b, off, none⟩ ∧ b < B ∧ ∀ k, k < len → ∃ z : Int, 0 ≤ z ∧ z ≤ 255 ∧ w.cell? ⟨b, off + k, none⟩ = some (.int .u8 z))
theorem Src.keep {B : Nat} {w w' : World} {a : Option Addr} {len : Nat} (h : Src B w a len) (hb : Below B w w') : Src B w' a len := by
  refine ⟨h.1, ?_⟩
  rcases h.2 with h | ⟨b, off, e, hB, hc⟩
  · exact .inl h
  · exact .inr ⟨b, off, e, hB, fun k hk => by
      obtain ⟨z, z1, z2, hz⟩ := hc k hk
      exact ⟨z, z1, z2, by rw [hb.cell (p := ⟨b, off + k, none⟩) hB]; exact hz⟩⟩
/-- A list of numbers that the call itself made. -/
def Nums (gl : Nat) (l : List Int) (w : World) : Prop := ∀ k, k < l.length → w.cell? ⟨gl, k, none⟩ = some (.int .i64 (l.getD k 0))
end Go.Proofs.YtkhcphkdcjimiaaGreat
