/-
  Walks: the laws' big and at (the second byte of a code), where no draw is on the road.
-/
import Derived.Test.YtkhcphkdcjimiaaGreatDraw
namespace Go.Proofs.YtkhcphkdcjimiaaGreat
open Go.RowKit
set_option linter.unusedVariables false
set_option linter.unusedSimpArgs false
theorem src_of_row {w : World} {a : Option Addr} {len cap : Nat} {zs : List Int} (h : IsRow .u8 w a len cap zs) : Src w.heap.size w a len := by
  rcases h with ⟨rfl, rfl, rfl, rfl⟩ | ⟨⟨b, off, spot⟩, rfl, hl, hm, hz, hcell, hwz⟩
  · exact ⟨by omega, .inl rfl⟩
  · unfold maxLen at hm
    refine ⟨by omega, ?_⟩
    by_cases h0 : len = 0
    · exact .inl h0
    · have hc := hcell 0 (by omega)
      have hspot : spot = none := by simpa [Addr.add] using World.cell?_spot hc
      subst hspot
      refine .inr ⟨b, off, rfl, ?_, fun k hk => ?_⟩
      · by_cases hb : b < w.heap.size
        · exact hb
        · have : w.heap[b]? = none := Array.getElem?_eq_none (by omega)
          simp [Addr.add, World.cell?, this] at hc
      · have hk' : k < zs.length := by omega
        have hadd : (⟨b, off, none⟩ : Addr).add k = ⟨b, off + k, none⟩ := by unfold Addr.add; split <;> simp_all
        refine ⟨zs.getD k 0, ?_, ?_, by rw [← hadd]; exact hcell k hk'⟩
        all_goals
          have hw := hwz (zs.getD k 0) (by simp [List.getD, hk'])
          simp [Lit.wf, IntKind.min, IntKind.max, IntKind.signed, IntKind.bits] at hw
          simp
          omega
set_option maxHeartbeats 400000 in
theorem big_laws (a : Option Addr) (len cap : Nat) (w : World) : Calls Tryz.prog 4 #[.slice a len cap] w fun e w' => e = .returned (.bool (decide ((1048576 : Int) < (len : Int)))) ∧ w' = w := by
  go_enter Tryz.func4, Tryz.ntmps4
  go_wp2
  go_ret
  exact ⟨rfl, rfl⟩
set_option maxHeartbeats 1000000 in
theorem at_more {W : World} {b off len cap : Nat} {z : Int} (h : (1 : Int) < (len : Int)) (hl : len ≤ 1048576) (z1 : 0 ≤ z) (z2 : z ≤ 255) (hz : W.cell? ⟨b, off + 1, none⟩ = some (.int .u8 z)) :
    Calls Tryz.prog 6 #[.slice (some ⟨b, off, none⟩) len cap, .int .i64 1] W fun e w' => e = .returned (.int .i64 z) ∧ w' = W := by
  go_enter Tryz.func6, Tryz.ntmps6
  go_wp2
  go_ret
  exact ⟨rfl, rfl⟩
set_option maxHeartbeats 1000000 in
theorem at_less {W : World} {a : Option Addr} {len cap : Nat} (h : ¬ (1 : Int) < (len : Int)) (hl : len ≤ 1048576) :
    Calls Tryz.prog 6 #[.slice a len cap, .int .i64 1] W fun e w' => e = .returned (.int .i64 ((7 + (len : Int)) % 256)) ∧ w' = W := by
  go_enter Tryz.func6, Tryz.ntmps6
  go_wp2
  go_ret
  exact ⟨rfl, rfl⟩
theorem at_law {w : World} {a : Option Addr} {len : Nat} (cap : Nat) (hs : Src w.heap.size w a len) (hl : len ≤ 1048576) :
    ∃ y : Int, 0 ≤ y ∧ y ≤ 255 ∧ ∀ W, Below w.heap.size w W → Calls Tryz.prog 6 #[.slice a len cap, .int .i64 1] W fun e w' => e = .returned (.int .i64 y) ∧ w' = W := by
  by_cases h : (1 : Int) < (len : Int)
  · rcases hs.2 with h0 | ⟨b, off, rfl, hB, hc⟩
    · omega
    · obtain ⟨z, z1, z2, hz⟩ := hc 1 (by omega)
      exact ⟨z, z1, z2, fun W hb => at_more h hl z1 z2 ((hb.cell (p := ⟨b, off + 1, none⟩) hB).trans hz)⟩
  · exact ⟨(7 + (len : Int)) % 256, by omega, by omega, fun W hb => at_less h hl⟩
end Go.Proofs.YtkhcphkdcjimiaaGreat
