/-
  Walks: the program's ShowWide.
-/
import Derived.Test.YtcaidhmolnnikaaDoorWideS
import Derived.Test.YtcaidhmolnnikaaDoorDigI
namespace Go.Proofs.YtcaidhmolnnikaaDoor
open Go.RowKit
set_option linter.unusedVariables false
set_option linter.unusedSimpArgs false
set_option maxRecDepth 20000 in
set_option maxHeartbeats 2000000 in
/-- The program's ShowWide. -/
theorem showWide_impl {d : List Int} {b : Option Addr} {w : World} (e : Nat) (h : Ints w b d) (hd : d.length ≤ 1048576) (ht : TabW w) :
    Calls Tryd.prog 66 #[.slice b d.length e] w fun e w' => e = .returned (.int .i64 (wideV d)) ∧ Below w.heap.size w w' := by
  have HJ : Hid (Ints w b d) := h
  have HTB : Hid (TabW w) := ht
  have CN : Hid (Calls Tryd.prog 41 #[.slice b d.length e] w fun e w' => e = .returned (.bool (d.all ok)) ∧ w' = w) := allRight_impl e h hd
  unfold wideV
  clear h ht
  cases hall : d.all ok
  · rw [hall] at CN
    rw [if_neg (by decide)]
    clear hall
    go_enter Tryd.func66, Tryd.ntmps66
    go_wp2_with fail
    refine CN.out.mono ?_
    rintro r w' ⟨rfl, hw⟩
    subst w'
    go_wp2
    go_ret
    exact ⟨rfl, Below.refl _ _⟩
  · have HA : Hid (d.all ok = true) := hall
    rw [hall] at CN
    rw [if_pos rfl]
    clear hall
    obtain ⟨WV, hWV⟩ : ∃ WV, WV = wideN d d.length := ⟨_, rfl⟩
    have HW : Hid (WV = wideN d d.length) := hWV
    rw [← hWV]
    clear hWV
    go_enter Tryd.func66, Tryd.ntmps66
    go_wp2_with fail
    refine CN.out.mono ?_
    rintro r w' ⟨rfl, hw⟩
    subst w'
    go_wp2
    go_loopw [3, 11] (fun n i w' => ∃ k : Nat, k ≤ d.length ∧ i = .int .i64 (k : Int) ∧ n = .int .i64 (wideN d k : Int) ∧ Below w.heap.size w w') (fun _ i _ => d.length - (intOf i).toNat)
    case atStart => exact ⟨0, by omega, rfl, rfl, Below.refl _ _⟩
    case round =>
      obtain ⟨k, hk, rfl, rfl, hb⟩ := hrel
      have BK : Hid (Below w.heap.size w wr) := hb
      clear hb
      by_cases hlt : (k : Int) < (d.length : Int)
      · have L : k < d.length := by omega
        obtain ⟨b1, o1, rfl, _, c1⟩ := (HJ.out.keep BK.out).at L
        have okx := ok_at HA.out L
        have CD : Hid (Calls Tryd.prog 73 #[.int .i64 (d.getD k 0)] wr fun e w' => e = .returned (.string (digB (d.getD k 0))) ∧ Below wr.heap.size wr w') := numberWord_impl okx (HTB.out.on BK.out)
        have EW : Hid (max (wideN d k) (digB (d.getD k 0)).size = wideN d (k + 1)) := rfl
        have sz := digB_size okx
        have wz := wideN_le HA.out hk
        generalize d.getD k 0 = x at *
        generalize digB x = s at *
        generalize wideN d k = n at *
        clear L okx
        go_wp2_with fail
        refine CD.out.mono ?_
        rintro r w2 ⟨rfl, hb⟩
        have B2 : Hid (Below w.heap.size w w2) := bTrans BK.out hb
        clear hb CD c1
        go_wp2
        go_roundw
        case rel => exact ⟨k + 1, by omega, by go_num, by rw [← EW.out]; first | rfl | (congr 1; omega), B2.out⟩
        case measure => simp [intOf]; omega
      · obtain rfl : k = d.length := by omega
        rw [← HW.out]
        go_wp2
        go_ret
        exact ⟨rfl, BK.out⟩
end Go.Proofs.YtcaidhmolnnikaaDoor
