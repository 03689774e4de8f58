/-
  Walks: the specification's l5Back.
-/
import Derived.Test.YtfmheanmkfdjnapSpecMake1
import Derived.Test.YtfmheanmkfdjnapGrow
import Derived.Test.YtfmheanmkfdjnapSpecIndex
namespace Go.Proofs.Ytfmheanmkfdjnap
open Go.RowKit
set_option linter.unusedVariables false
set_option linter.unusedSimpArgs false
theorem rev_take {l : List Int} {k J : Nat} (h : k + (J + 1) = l.length) : l.reverse.take (k + 1) = l.reverse.take k ++ [l.getD J 0] := by
  rw [List.take_succ_eq_append_getElem (by simp; omega)]
  congr 2
  rw [List.getElem_reverse]
  have : l.length - 1 - k = J := by omega
  simp [this, List.getD_eq_getElem?_getD, show J < l.length by omega]
set_option maxRecDepth 20000 in
set_option maxHeartbeats 2000000 in
/-- l5Back: a list in the other order. -/
theorem back_spec {l : List Int} {a : Option Addr} {w : World} (c : Nat) (h : Ints w a l) (hl : l.length ≤ 1000) :
    Calls Try.prog 28 #[.slice a l.length c] w fun e w' => ∃ a' c', e = .returned (.slice a' l.length c') ∧ Piece w.heap.size w'.heap.size w' (.slice a' l.length c') l.reverse ∧ Below w.heap.size w w' := by
  have H : Hid (Ints w a l) := h
  obtain ⟨n, hn⟩ : ∃ n, n = l.length := ⟨_, rfl⟩
  have HN : Hid (n = l.length) := hn
  rw [← hn] at hl ⊢
  clear h hn
  go_enter Try.func28, Try.ntmps28
  go_wp2
  generalize hW : w.alloc (.cells #[] 3) = W0
  have N0 : Hid (NewInts w.heap.size W0 (.slice (some ⟨w.heap.size, 0, none⟩) 0 0) (l.reverse.take 0)) := by rw [← hW]; exact newInts_alloc w [] (Nat.le_refl _) (by simp)
  have B0 : Hid (Below w.heap.size w W0) := by rw [← hW]; exact bAlloc (Below.refl _ _) _
  clear hW
  go_loopw [3, 4] (fun u i w' => ∃ (k j : Nat) (z : Int) (ad : Option Addr) (cd : Nat), k + j = n ∧ z = (j : Int) - 1 ∧ u = .slice ad k cd ∧ i = .int .i64 z ∧ NewInts w.heap.size w' (.slice ad k cd) (l.reverse.take k) ∧ Below w.heap.size w w') (fun _ i _ => (intOf i + 1).toNat)
  case atStart => exact ⟨0, n, _, _, _, by omega, rfl, rfl, rfl, N0.out, B0.out⟩
  case round =>
    obtain ⟨k, j, z, ad, cd, hkj, hz, rfl, rfl, hN, hB⟩ := hrel
    have NK : Hid (NewInts w.heap.size wr (.slice ad k cd) (l.reverse.take k)) := hN
    have BK : Hid (Below w.heap.size w wr) := hB
    clear hN hB N0 B0
    by_cases hj : 0 ≤ z
    · obtain ⟨J, rfl⟩ : ∃ J : Nat, z = (J : Int) := ⟨z.toNat, by omega⟩
      obtain rfl : j = J + 1 := by omega
      clear hz
      have hjn : (J : Int) < (n : Int) := by omega
      obtain ⟨b1, o1, rfl, hb1, c1⟩ := (H.out.keep BK.out).at (k := J) (by have := HN.out; omega)
      have ET : Hid (l.reverse.take (k + 1) = l.reverse.take k ++ [l.getD J 0]) := rev_take (by have := HN.out; omega)
      have LT : Hid ((l.reverse.take k).length = k) := by have := HN.out; show _ = _; simp; omega
      generalize l.getD J 0 = x at *
      obtain ⟨a5, c5, w5, hr, h5, hb5⟩ := grow1 x NK.out BK.out.size (by rw [LT.out]; omega)
      rw [LT.out] at hr h5
      rw [← ET.out] at h5
      have R5 : Hid ((Builtin.append_ #[22, 22] 22 #[.slice ad k cd, .slice (some ⟨wr.heap.size, 0, none⟩) 1 1]).run Try.prog (wr.alloc (.cells #[.int .i64 x] 3)) = .ok (.slice a5 (k + 1) c5) w5) := hr
      have N5 : Hid (NewInts w.heap.size w5 (.slice a5 (k + 1) c5) (l.reverse.take (k + 1))) := h5
      have B5 : Hid (Below w.heap.size w w5) := BK.out.trans hb5
      clear hr h5 hb5
      go_wp2_with (at_builtin; refine wpList_append_ty rfl _ _ 22 22 rfl _ _ _ rfl rfl R5.out ?_)
      go_roundw
      case rel => exact ⟨k + 1, J, _, _, _, by omega, rfl, rfl, by go_num, N5.out, B5.out⟩
      case measure => simp [intOf]
    · obtain rfl : j = 0 := by omega
      obtain rfl : k = n := by omega
      go_wp2
      go_ret
      refine ⟨_, _, rfl, ?_, BK.out⟩
      have := NK.out.piece
      rw [List.take_of_length_le (by have := HN.out; simp; omega)] at this
      exact this
end Go.Proofs.Ytfmheanmkfdjnap
