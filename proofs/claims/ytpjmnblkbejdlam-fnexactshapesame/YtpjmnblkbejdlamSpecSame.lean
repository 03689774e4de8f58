/-
  Walks: the specification's ShapeSame, whatever lists it is given.
-/
import Derived.Test.YtpjmnblkbejdlamSpecPlace
namespace Go.Proofs.Ytpjmnblkbejdlam
open Go.RowKit
set_option linter.unusedVariables false
set_option maxRecDepth 20000 in
set_option maxHeartbeats 1000000 in
theorem same_spec {l m : List Int} {a b : Option Addr} {w : World} (c d : Nat) (h1 : Ints w a l) (h2 : Ints w b m) :
    Calls Try.prog 12 #[.slice a l.length c, .slice b m.length d] w fun e w' => e = .returned (.bool (decide (0 ≤ sizeV l) && decide (l = m))) ∧ ∃ j, w' = w.drewN j := by
  have H1 : Hid (Ints w a l) := h1
  have H2 : Hid (Ints w b m) := h2
  clear h1 h2
  by_cases hs : 0 ≤ sizeV l
  · have hs' : decide (0 ≤ sizeV l) = true := by simpa using hs
    have hn : l.length ≤ 3 := (sizeV_ok hs).1
    by_cases ht : 0 ≤ sizeV m
    · have ht' : decide (0 ≤ sizeV m) = true := by simpa using ht
      clear hs ht
      go_enter Try.func12, Try.ntmps12
      go_wp2_with fail
      refine (ok_spec _ H1.out).mono ?_
      rintro e w' ⟨rfl, hw⟩
      subst w'
      go_wp2_with fail
      refine (ok_spec _ H2.out).mono ?_
      rintro e w' ⟨rfl, hw⟩
      subst w'
      go_wp2_with fail
      refine (l2same_ints _ _ (by omega) H1.out H2.out).mono ?_
      rintro e w1 ⟨rfl, j, hw⟩
      have HW : Hid (∃ j, w1 = w.drewN j) := ⟨j, hw⟩
      clear hw j
      go_wp2
      go_ret
      exact ⟨by simp [hs'], HW.out⟩
    · have ht' : decide (0 ≤ sizeV m) = false := by simpa using ht
      have hne : l ≠ m := fun e => ht (e ▸ hs)
      have HN : Hid (l ≠ m) := hne
      clear hs ht hne
      go_enter Try.func12, Try.ntmps12
      go_wp2_with fail
      refine (ok_spec _ H1.out).mono ?_
      rintro e w' ⟨rfl, hw⟩
      subst w'
      go_wp2_with fail
      refine (ok_spec _ H2.out).mono ?_
      rintro e w' ⟨rfl, hw⟩
      subst w'
      go_wp2
      go_ret
      exact ⟨by simp [HN.out], 0, rfl⟩
  · have hs' : decide (0 ≤ sizeV l) = false := by simpa using hs
    clear hs
    go_enter Try.func12, Try.ntmps12
    go_wp2_with fail
    refine (ok_spec _ H1.out).mono ?_
    rintro e w' ⟨rfl, hw⟩
    subst w'
    go_wp2
    go_ret
    exact ⟨by simp [hs'], 0, rfl⟩
end Go.Proofs.Ytpjmnblkbejdlam
