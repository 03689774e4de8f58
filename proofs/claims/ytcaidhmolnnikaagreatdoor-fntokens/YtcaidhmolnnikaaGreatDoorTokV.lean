/-
  Walks: the laws' sameTokens of two lists of the same tokens.
-/
import Derived.Test.YtcaidhmolnnikaaGreatDoorLexW
import Derived.Test.YtcaidhmolnnikaaGreatDoorDrawTy
namespace Go.Proofs.YtcaidhmolnnikaaGreatDoor
open Go.RowKit
set_option linter.unusedVariables false
set_option linter.unusedSimpArgs false
set_option maxRecDepth 20000 in
set_option maxHeartbeats 8000000 in
theorem sameTokens_same {w : World} {a a' : Option Addr} {c c' n : Nat} {E : Nat → Spn} (h : SsA w a n E) (k : SsA w a' n E) (hn : n ≤ 1048576) :
    Calls Tryz.prog 10 #[.slice a n c, .slice a' n c'] w fun r w' => r = .returned (.bool true) ∧ Below w.heap.size w w' := by
  have H : Hid (SsA w a n E) := h
  have K : Hid (SsA w a' n E) := k
  have nn : ((n : Int) != (n : Int)) = false := by simp
  clear h k
  go_enter Tryz.func10, Tryz.ntmps10
  go_wp2
  go_loopw [5] (fun i w' => ∃ k : Nat, k ≤ n ∧ i = .int .i64 (k : Int) ∧ Below w.heap.size w w') (fun i _ => n - (intOf i).toNat)
  case atStart => exact ⟨0, by omega, rfl, Below.refl _ _⟩
  case round =>
    obtain ⟨k, hk, rfl, hb⟩ := hrel
    have HB : Hid (Below w.heap.size w wr) := hb
    clear hb
    by_cases hlt : (k : Int) < (n : Int)
    · have L : k < n := by omega
      obtain ⟨o, off, rfl, ho, p0, p1⟩ := (H.out.keep HB.out).at L
      obtain ⟨o', off', rfl, ho', q0, q1⟩ := (K.out.keep HB.out).at L
      have HO : Hid (o < wr.heap.size ∧ o' < wr.heap.size) := ⟨ho, ho'⟩
      clear ho ho'
      generalize E k = ek at *
      obtain ⟨e0, e1⟩ := ek
      have b0 : (e0 == e0) = true := by simp
      have b1 : (e1 == e1) = true := by simp
      go_wp2_with fail
      go_region_held3 (fun w' => (w'.cell? ⟨o, off + k * 2, none⟩ = some (.int .i64 e0) ∧ w'.cell? ⟨o, off + k * 2 + 1, none⟩ = some (.int .i64 e1)) ∧ w'.cell? ⟨o', off' + k * 2, none⟩ = some (.int .i64 e0) ∧ w'.cell? ⟨o', off' + k * 2 + 1, none⟩ = some (.int .i64 e1))
        (exact ⟨⟨p0, p1⟩, q0, q1⟩)
        (fail)
      all_goals
        go_wp2
        go_roundw
        case rel => exact ⟨k + 1, by omega, by go_num, HB.out.drew⟩
        case measure => simp [intOf]; omega
    · obtain rfl : k = n := by omega
      go_wp2
      go_ret
      exact ⟨rfl, HB.out⟩
end Go.Proofs.YtcaidhmolnnikaaGreatDoor
