/-
  Walks: the laws' at (the second byte of a code).
-/
import Derived.Test.YtcpgdhffemecbaaGreatDrawRavel
namespace Go.Proofs.YtcpgdhffemecbaaGreat
open Go.RowKit
set_option linter.unusedVariables false
set_option linter.unusedSimpArgs false
set_option maxHeartbeats 1000000 in
theorem at_more {W : World} {b off len cap : Nat} {z : Int} (h : (1 : Int) < (len : Int)) (hl : len ≤ 1048576) (z1 : 0 ≤ z) (z2 : z ≤ 255) (hz : W.cell? ⟨b, off + 1, none⟩ = some (.int .u8 z)) :
    Calls Tryz.prog 12 #[.slice (some ⟨b, off, none⟩) len cap, .int .i64 1] W fun e w' => e = .returned (.int .i64 z) ∧ w' = W := by
  go_enter Tryz.func12, Tryz.ntmps12
  go_wp2
  go_ret
  exact ⟨rfl, rfl⟩
set_option maxHeartbeats 1000000 in
theorem at_less {W : World} {a : Option Addr} {len cap : Nat} (h : ¬ (1 : Int) < (len : Int)) (hl : len ≤ 1048576) :
    Calls Tryz.prog 12 #[.slice a len cap, .int .i64 1] W fun e w' => e = .returned (.int .i64 ((7 + (len : Int)) % 256)) ∧ w' = W := by
  go_enter Tryz.func12, Tryz.ntmps12
  go_wp2
  go_ret
  exact ⟨rfl, rfl⟩
theorem at_law {w : World} {a : Option Addr} {len : Nat} (cap : Nat) (hs : Src w.heap.size w a len) (hl : len ≤ 1048576) :
    ∃ y : Int, 0 ≤ y ∧ y ≤ 255 ∧ ∀ W, Below w.heap.size w W → Calls Tryz.prog 12 #[.slice a len cap, .int .i64 1] W fun e w' => e = .returned (.int .i64 y) ∧ w' = W := by
  by_cases h : (1 : Int) < (len : Int)
  · rcases hs.2 with h0 | ⟨b, off, rfl, hB, hc⟩
    · omega
    · obtain ⟨z, z1, z2, hz⟩ := hc 1 (by omega)
      exact ⟨z, z1, z2, fun W hb => at_more h hl z1 z2 ((hb.cell (p := ⟨b, off + 1, none⟩) hB).trans hz)⟩
  · exact ⟨(7 + (len : Int)) % 256, by omega, by omega, fun W hb => at_less h hl⟩
end Go.Proofs.YtcpgdhffemecbaaGreat
