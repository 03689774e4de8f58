/-
  Walks: the specification's functions on shapes (SizeOf, ShapeOk, ..), whatever list they are given.
-/
import Derived.Test.YtcaidhmolnnikaaDoorSmall
import Derived.Test.YtcaidhmolnnikaaDoorInts
import Derived.Test.YtcaidhmolnnikaaDoorShapeM
namespace Go.Proofs.YtcaidhmolnnikaaDoor
open Go.RowKit
set_option linter.unusedVariables false
theorem ret_num {a b : Int} (h : a = b) : Ending.returned (.int .i64 a) = .returned (.int .i64 b) := by rw [h]
set_option maxRecDepth 20000 in
set_option maxHeartbeats 1000000 in
theorem size_long (l : List Int) (a : Option Addr) (n c : Nat) (w : World) (e1 : l.length = n) (hn : (3 : Int) < (n : Int)) :
    Calls Tryd.prog 39 #[.slice a n c] w fun e w' => e = .returned (.int .i64 (sizeV l)) ∧ w' = w := by
  have HV : Hid (sizeV l = -1) := by show _ = _; unfold sizeV; rw [if_pos (by omega)]
  clear e1
  go_enter Tryd.func39, Tryd.ntmps39
  go_wp2
  go_ret
  exact ⟨ret_num HV.out.symm, rfl⟩
set_option maxRecDepth 20000 in
set_option maxHeartbeats 2000000 in
theorem size_walk (l : List Int) (a : Option Addr) (n c : Nat) (w : World) (h1 : Ints w a l) (e1 : l.length = n) (hn : (n : Int) ≤ 3) :
    Calls Tryd.prog 39 #[.slice a n c] w fun e w' => e = .returned (.int .i64 (sizeV l)) ∧ w' = w := by
  have H1 : Hid (Ints w a l) := h1
  have E1 : Hid (l.length = n) := e1
  clear h1 e1
  go_enter Tryd.func39, Tryd.ntmps39
  go_wp2
  go_loop [3, 4] (fun z i => ∃ k : Nat, k ≤ n ∧ i = .int .i64 k ∧ z = .bool (hasZero (l.take k)) ∧ (l.take k).all dimOk = true) (fun _ i => n - (intOf i).toNat)
  case atStart => exact ⟨0, by omega, rfl, rfl, rfl⟩
  case round =>
    obtain ⟨k, hk, rfl, rfl, ha⟩ := hrel
    have HA : Hid ((l.take k).all dimOk = true) := ha
    clear ha
    by_cases hlt : (k : Int) < (n : Int)
    · have L1 : k < l.length := by have := E1.out; omega
      obtain ⟨b1, o1, rfl, hb1, c1⟩ := H1.out.at L1
      have HZ : Hid (hasZero (l.take (k + 1)) = (hasZero (l.take k) || l.getD k 0 == 0)) := by show _ = _; rw [take_snoc L1, hasZero_snoc]
      have HD : Hid ((l.take (k + 1)).all dimOk = ((l.take k).all dimOk && dimOk (l.getD k 0))) := by show _ = _; rw [take_snoc L1, all_snoc]
      have HX : Hid (dimOk (l.getD k 0) = false → l.all dimOk = false) := all_bad L1
      clear L1
      generalize l.getD k 0 = x at c1 HZ HD HX
      generalize hasZero (l.take k) = z at HZ
      by_cases hx : dimOk x = true
      · have hx' : (decide (0 ≤ x) && decide (x ≤ 300)) = true := hx
        have HD' : Hid ((l.take (k + 1)).all dimOk = true) := by show _ = _; rw [HD.out, HA.out, hx]; rfl
        clear HD HX
        cases z
        · go_wp2_with (go_at_call 46; refine (in_spec _ _ _ _).mono ?_; rintro e w' ⟨rfl, hw⟩; subst w')
          go_round
          case rel => exact ⟨k + 1, by omega, by go_num, by rw [HZ.out]; rfl, HD'.out⟩
          case measure => simp [intOf]; omega
        · go_wp2_with (go_at_call 46; refine (in_spec _ _ _ _).mono ?_; rintro e w' ⟨rfl, hw⟩; subst w')
          go_round
          case rel => exact ⟨k + 1, by omega, by go_num, by rw [HZ.out]; rfl, HD'.out⟩
          case measure => simp [intOf]; omega
      · have hx : dimOk x = false := by simpa using hx
        have hx' : (decide (0 ≤ x) && decide (x ≤ 300)) = false := hx
        have HV : Hid (sizeV l = -1) := by
          show _ = _
          unfold sizeV
          rw [HX.out hx]
          split <;> rfl
        clear HD HX
        go_wp2_with (go_at_call 46; refine (in_spec _ _ _ _).mono ?_; rintro e w' ⟨rfl, hw⟩; subst w')
        go_ret
        exact ⟨ret_num HV.out.symm, rfl⟩
    · have ek : k = l.length := by have := E1.out; omega
      have HL : Hid (l.all dimOk = true) := by have h := HA.out; rw [ek, List.take_of_length_le (by omega)] at h; exact h
      have HZ : Hid (hasZero (l.take k) = hasZero l) := by show _ = _; rw [ek, List.take_of_length_le (by omega)]
      clear ek HA
      rw [HZ.out]
      go_wp2
      go_loop [5, 6] (fun p i => ∃ k : Nat, k ≤ n ∧ i = .int .i64 k ∧ p = .int .i64 (prodV (l.take k))) (fun _ i => n - (intOf i).toNat)
      case atStart => exact ⟨0, by omega, rfl, rfl⟩
      case round =>
        obtain ⟨k, hk, rfl, rfl⟩ := hrel
        by_cases hlt : (k : Int) < (n : Int)
        · have L1 : k < l.length := by have := E1.out; omega
          obtain ⟨b1, o1, rfl, hb1, c1⟩ := H1.out.at L1
          have HP : Hid (prodV (l.take (k + 1)) = prodV (l.take k) * l.getD k 0) := by show _ = _; rw [take_snoc L1, prodV_snoc]
          have q1 := prodV_small (l.take k) (all_take HL.out k) (by simp; omega)
          have q2 := prodV_small (l.take (k + 1)) (all_take HL.out (k + 1)) (by simp; omega)
          rw [HP.out] at q2
          obtain ⟨r1, r2⟩ := q2
          clear L1 q1
          generalize l.getD k 0 = x at c1 HP r1 r2
          generalize prodV (l.take k) = p at HP r1 r2
          go_wp2
          go_round
          case rel => exact ⟨k + 1, by omega, by go_num, by rw [HP.out]⟩
          case measure => simp [intOf]; omega
        · have HP : Hid (prodV (l.take k) = prodV l) := by
            have := E1.out
            show _ = _
            rw [List.take_of_length_le (by omega)]
          rw [HP.out]
          have hz : hasZero l = true → prodV l = 0 := prodV_zero
          have HV : Hid (sizeV l = if 300 < prodV l then -1 else prodV l) := by
            have := E1.out
            show _ = _
            unfold sizeV
            rw [if_neg (by omega), if_pos HL.out]
          have HZ0 : Hid (hasZero l = true → prodV l = 0) := hz
          clear hz
          generalize prodV l = p at HV HZ0
          generalize hasZero l = z at HZ0
          by_cases hp : 300 < p
          · have hz : z = false := by
              cases z
              · rfl
              · have := HZ0.out rfl; omega
            subst hz
            go_wp2
            go_ret
            exact ⟨ret_num (by rw [HV.out, if_pos hp]), rfl⟩
          · go_wp2
            go_ret
            exact ⟨ret_num (by rw [HV.out, if_neg (by omega)]), rfl⟩
/-- The specification's SizeOf, whatever list it is given. -/
theorem size_spec {l : List Int} {a : Option Addr} {w : World} (c : Nat) (h1 : Ints w a l) :
    Calls Tryd.prog 39 #[.slice a l.length c] w fun e w' => e = .returned (.int .i64 (sizeV l)) ∧ w' = w := by
  by_cases h : (3 : Int) < (l.length : Int)
  · exact size_long l a l.length c w rfl h
  · exact size_walk l a l.length c w h1 rfl (by omega)
end Go.Proofs.YtcaidhmolnnikaaDoor
