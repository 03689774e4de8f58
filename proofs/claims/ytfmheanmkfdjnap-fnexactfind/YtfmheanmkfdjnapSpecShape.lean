/-
  Walks: the specification's functions on shapes (SizeOf, ShapeOk, ..), whatever list they are given.
-/
import Derived.Test.YtfmheanmkfdjnapSmall
import Derived.Test.YtfmheanmkfdjnapBase
import Derived.Test.YtfmheanmkfdjnapShapeM
namespace Go.Proofs.Ytfmheanmkfdjnap
open Go.RowKit
set_option linter.unusedVariables false
theorem ret_num {a b : Int} (h : a = b) : Ending.returned (.int .i64 a) = .returned (.int .i64 b) := by rw [h]
set_option maxRecDepth 20000 in
set_option maxHeartbeats 1000000 in
theorem size_long (l : List Int) (a : Option Addr) (n c : Nat) (w : World) (e1 : l.length = n) (hn : (3 : Int) < (n : Int)) :
    Calls Try.prog 44 #[.slice a n c] w fun e w' => e = .returned (.int .i64 (sizeV l)) ∧ w' = w := by
  have HV : Hid (sizeV l = -1) := by show _ = _; unfold sizeV; rw [if_pos (by omega)]
  clear e1
  go_enter Try.func44, Try.ntmps44
  go_wp2
  go_ret
  exact ⟨ret_num HV.out.symm, rfl⟩
set_option maxRecDepth 20000 in
set_option maxHeartbeats 2000000 in
theorem size_walk (l : List Int) (a : Option Addr) (n c : Nat) (w : World) (h1 : Ints w a l) (e1 : l.length = n) (hn : (n : Int) ≤ 3) :
    Calls Try.prog 44 #[.slice a n c] w fun e w' => e = .returned (.int .i64 (sizeV l)) ∧ w' = w := by
  have H1 : Hid (Ints w a l) := h1
  have E1 : Hid (l.length = n) := e1
  clear h1 e1
  go_enter Try.func44, Try.ntmps44
  go_wp2
  go_loop [3, 4] (fun z i => ∃ k : Nat, k ≤ n ∧ i = .int .i64 k ∧ z = .bool (hasZero (l.take k)) ∧ (l.take k).all dimOk = true) (fun _ i => n - (intOf i).toNat)
  case atStart => exact ⟨0, by omega, rfl, rfl, rfl⟩
  case round =>
    obtain ⟨k, hk, rfl, rfl, ha⟩ := hrel
    have HA : Hid ((l.take k).all dimOk = true) := ha
    clear ha
    by_cases hlt : (k : Int) < (n : Int)
    · have L1 : k < l.length := by have := E1.out; omega
      obtain ⟨b1, o1, rfl, hb1, c1⟩ := H1.out.at L1
      have HZ : Hid (hasZero (l.take (k + 1)) = (hasZero (l.take k) || l.getD k 0 == 0)) := by show _ = _; rw [take_snoc L1, hasZero_snoc]
      have HD : Hid ((l.take (k + 1)).all dimOk = ((l.take k).all dimOk && dimOk (l.getD k 0))) := by show _ = _; rw [take_snoc L1, all_snoc]
      have HX : Hid (dimOk (l.getD k 0) = false → l.all dimOk = false) := all_bad L1
      clear L1
      generalize l.getD k 0 = x at c1 HZ HD HX
      generalize hasZero (l.take k) = z at HZ
      by_cases hx : dimOk x = true
      · have hx' : (decide (0 ≤ x) && decide (x ≤ 300)) = true := hx
        have HD' : Hid ((l.take (k + 1)).all dimOk = true) := by show _ = _; rw [HD.out, HA.out, hx]; rfl
        clear HD HX
        cases z
        · go_wp2_with (go_at_call 52; refine (in_spec _ _ _ _).mono ?_; rintro e w' ⟨rfl, hw⟩; subst w')
          go_round
          case rel => exact ⟨k + 1, by omega, by go_num, by rw [HZ.out]; rfl, HD'.out⟩
          case measure => simp [intOf]; omega
        · go_wp2_with (go_at_call 52; refine (in_spec _ _ _ _).mono ?_; rintro e w' ⟨rfl, hw⟩; subst w')
          go_round
          case rel => exact ⟨k + 1, by omega, by go_num, by rw [HZ.out]; rfl, HD'.out⟩
          case measure => simp [intOf]; omega
      · have hx : dimOk x = false := by simpa using hx
        have hx' : (decide (0 ≤ x) && decide (x ≤ 300)) = false := hx
        have HV : Hid (sizeV l = -1) := by
          show _ = _
          unfold sizeV
          rw [HX.out hx]
          split <;> rfl
        clear HD HX
        go_wp2_with (go_at_call 52; refine (in_spec _ _ _ _).mono ?_; rintro e w' ⟨rfl, hw⟩; subst w')
        go_ret
        exact ⟨ret_num HV.out.symm, rfl⟩
    · have ek : k = l.length := by have := E1.out; omega
      have HL : Hid (l.all dimOk = true) := by have h := HA.out; rw [ek, List.take_of_length_le (by omega)] at h; exact h
      have HZ : Hid (hasZero (l.take k) = hasZero l) := by show _ = _; rw [ek, List.take_of_length_le (by omega)]
      clear ek HA
      rw [HZ.out]
      go_wp2
      go_loop [5, 6] (fun p i => ∃ k : Nat, k ≤ n ∧ i = .int .i64 k ∧ p = .int .i64 (prodV (l.take k))) (fun _ i => n - (intOf i).toNat)
      case atStart => exact ⟨0, by omega, rfl, rfl⟩
      case round =>
        obtain ⟨k, hk, rfl, rfl⟩ := hrel
        by_cases hlt : (k : Int) < (n : Int)
        · have L1 : k < l.length := by have := E1.out; omega
          obtain ⟨b1, o1, rfl, hb1, c1⟩ := H1.out.at L1
          have HP : Hid (prodV (l.take (k + 1)) = prodV (l.take k) * l.getD k 0) := by show _ = _; rw [take_snoc L1, prodV_snoc]
          have q1 := prodV_small (l.take k) (all_take HL.out k) (by simp; omega)
          have q2 := prodV_small (l.take (k + 1)) (all_take HL.out (k + 1)) (by simp; omega)
          rw [HP.out] at q2
          obtain ⟨r1, r2⟩ := q2
          clear L1 q1
          generalize l.getD k 0 = x at c1 HP r1 r2
          generalize prodV (l.take k) = p at HP r1 r2
          go_wp2
          go_round
          case rel => exact ⟨k + 1, by omega, by go_num, by rw [HP.out]⟩
          case measure => simp [intOf]; omega
        · have HP : Hid (prodV (l.take k) = prodV l) := by
            have := E1.out
            show _ = _
            rw [List.take_of_length_le (by omega)]
          rw [HP.out]
          have hz : hasZero l = true → prodV l = 0 := prodV_zero
          have HV : Hid (sizeV l = if 300 < prodV l then -1 else prodV l) := by
            have := E1.out
            show _ = _
            unfold sizeV
            rw [if_neg (by omega), if_pos HL.out]
          have HZ0 : Hid (hasZero l = true → prodV l = 0) := hz
          clear hz
          generalize prodV l = p at HV HZ0
          generalize hasZero l = z at HZ0
          by_cases hp : 300 < p
          · have hz : z = false := by
              cases z
              · rfl
              · have := HZ0.out rfl; omega
            subst hz
            go_wp2
            go_ret
            exact ⟨ret_num (by rw [HV.out, if_pos hp]), rfl⟩
          · go_wp2
            go_ret
            exact ⟨ret_num (by rw [HV.out, if_neg (by omega)]), rfl⟩
/-- The specification's SizeOf, whatever list it is given. -/
theorem size_spec {l : List Int} {a : Option Addr} {w : World} (c : Nat) (h1 : Ints w a l) :
    Calls Try.prog 44 #[.slice a l.length c] w fun e w' => e = .returned (.int .i64 (sizeV l)) ∧ w' = w := by
  by_cases h : (3 : Int) < (l.length : Int)
  · exact size_long l a l.length c w rfl h
  · exact size_walk l a l.length c w h1 rfl (by omega)
end Go.Proofs.Ytfmheanmkfdjnap
namespace Go.Proofs.Ytfmheanmkfdjnap
open Go.RowKit
set_option linter.unusedVariables false

/-- ShapeOk. -/
theorem ok_spec {l : List Int} {a : Option Addr} {w : World} (c : Nat) (h1 : Ints w a l) :
    Calls Try.prog 42 #[.slice a l.length c] w fun e w' => e = .returned (.bool (decide (0 ≤ sizeV l))) ∧ w' = w := by
  have H1 : Hid (Ints w a l) := h1
  clear h1
  go_enter Try.func42, Try.ntmps42
  go_wp2_with (go_at_call 44; refine (size_spec _ H1.out).mono ?_; rintro e w' ⟨rfl, hw⟩; subst w')
  go_ret
  exact ⟨rfl, rfl⟩
set_option maxRecDepth 20000 in
set_option maxHeartbeats 2000000 in
theorem place_bad_spec (s i : List Int) (a b : Option Addr) (c d : Nat) (w : World) (h1 : Ints w a s) (hb : sizeV s < 0 ∨ i.length ≠ s.length) :
    Calls Try.prog 29 #[.slice a s.length c, .slice b i.length d] w fun e w' => e = .returned (.int .i64 (placeV s i)) ∧ ∃ j, w' = w.drewN j := by
  have HV : Hid (placeV s i = -1) := by show _ = _; unfold placeV; rw [if_pos hb]
  have H1 : Hid (Ints w a s) := h1
  clear h1
  by_cases hs : 0 ≤ sizeV s
  · have hs' : decide (0 ≤ sizeV s) = true := by simpa using hs
    have he : ((i.length : Int) != (s.length : Int)) = true := by
      have : i.length ≠ s.length := by
        rcases hb with hb | hb
        · omega
        · exact hb
      simp; omega
    clear hb hs
    go_enter Try.func29, Try.ntmps29
    go_wp2_with (go_at_call 42; refine (ok_spec _ H1.out).mono ?_; rintro e w' ⟨rfl, hw⟩; subst w')
    go_ret
    exact ⟨ret_num HV.out.symm, 0, rfl⟩
  · have hs' : decide (0 ≤ sizeV s) = false := by simpa using hs
    clear hb hs
    go_enter Try.func29, Try.ntmps29
    go_wp2_with (go_at_call 42; refine (ok_spec _ H1.out).mono ?_; rintro e w' ⟨rfl, hw⟩; subst w')
    go_ret
    exact ⟨ret_num HV.out.symm, 0, rfl⟩
set_option maxRecDepth 20000 in
set_option maxHeartbeats 2000000 in
theorem place_walk_spec (s i : List Int) (a b : Option Addr) (n c d : Nat) (w : World) (h1 : Ints w a s) (h2 : Ints w b i) (e1 : s.length = n) (e2 : i.length = n) (hs : 0 ≤ sizeV s) :
    Calls Try.prog 29 #[.slice a n c, .slice b n d] w fun e w' => e = .returned (.int .i64 (placeV s i)) ∧ ∃ j, w' = w.drewN j := by
  have hs' : decide (0 ≤ sizeV s) = true := by simpa using hs
  have hn : (n : Int) ≤ 3 := by have := (sizeV_ok hs).1; omega
  have H1 : Hid (Ints w a s) := h1
  have H2 : Hid (Ints w b i) := h2
  have E1 : Hid (s.length = n) := e1
  have E2 : Hid (i.length = n) := e2
  have HS : Hid (0 ≤ sizeV s) := hs
  have HV : Hid (placeV s i = if inOk (s.zip i) = true then hor (s.zip i) else -1) := by show _ = _; unfold placeV; rw [if_neg (by omega)]
  have HO : Hid (∀ x w, Ints w x s → Calls Try.prog 42 #[.slice x n c] w fun e w' => e = .returned (.bool (decide (0 ≤ sizeV s))) ∧ w' = w) := by
    intro x w h
    rw [← e1]
    exact ok_spec c h
  clear h1 h2 e1 e2 hs
  go_enter Try.func29, Try.ntmps29
  go_wp2_with (go_at_call 42; refine (HO.out _ _ H1.out).mono ?_; rintro e w' ⟨rfl, hw⟩; subst w')
  go_loopw [5, 6] (fun p q w' => ∃ k : Nat, k ≤ n ∧ q = .int .i64 k ∧ p = .int .i64 (hor ((s.zip i).take k)) ∧ inOk ((s.zip i).take k) = true ∧ ∃ j, w' = w.drewN j) (fun _ q _ => n - (intOf q).toNat)
  case atStart => exact ⟨0, by omega, rfl, rfl, rfl, 0, rfl⟩
  case round =>
    obtain ⟨k, hk, rfl, rfl, hz, j, hw⟩ := hrel
    have HW : Hid (wr = w.drewN j) := hw
    clear hw
    have HZ : Hid (inOk ((s.zip i).take k) = true) := hz
    clear hz
    by_cases hlt : (k : Int) < (n : Int)
    · have L1 : k < s.length := by have := E1.out; omega
      have L2 : k < i.length := by have := E2.out; omega
      have EE : i.length = s.length := by have := E1.out; have := E2.out; omega
      obtain ⟨b1, o1, rfl, _, c1⟩ := H1.out.at L1
      obtain ⟨b2, o2, rfl, _, c2⟩ := H2.out.at L2
      have dk : dimOk (s.getD k 0) = true := by
        have := (sizeV_ok HS.out).2.1
        rw [List.all_eq_true] at this
        exact this _ (by simp [L1])
      obtain ⟨x0, x1⟩ := dimOk_bd dk
      obtain ⟨p0, p1⟩ := hor_bd HS.out EE k HZ.out
      have KZ : Hid (inOk ((s.zip i).take (k + 1)) = (inOk ((s.zip i).take k) && (decide (0 ≤ i.getD k 0) && decide (i.getD k 0 ≤ s.getD k 0 - 1)))) := by show _ = _; rw [zip_snoc L1 L2, inOk_snoc]
      have KH : Hid (hor ((s.zip i).take (k + 1)) = hor ((s.zip i).take k) * s.getD k 0 + i.getD k 0) := by show _ = _; rw [zip_snoc L1 L2, hor_snoc]
      have KB : Hid ((decide (0 ≤ i.getD k 0) && decide (i.getD k 0 ≤ s.getD k 0 - 1)) = false → inOk (s.zip i) = false) := inOk_bad L1 L2
      have KQ : Hid (inOk ((s.zip i).take (k + 1)) = true → 0 ≤ hor ((s.zip i).take (k + 1)) ∧ hor ((s.zip i).take (k + 1)) ≤ 27000000) := hor_bd HS.out EE (k + 1)
      clear L1 L2 EE dk
      have d1 : wr.cell? ⟨b1, o1 + k, none⟩ = some (.int .i64 (s.getD k 0)) := by rw [HW.out]; exact c1
      have d2 : wr.cell? ⟨b2, o2 + k, none⟩ = some (.int .i64 (i.getD k 0)) := by rw [HW.out]; exact c2
      clear c1 c2
      generalize s.getD k 0 = x at d1 x0 x1 KZ KH KB
      generalize i.getD k 0 = y at d2 KZ KH KB
      generalize hor ((s.zip i).take k) = p at p0 p1 KH
      by_cases hy : (decide (0 ≤ y) && decide (y ≤ x - 1)) = true
      · have KZ' : Hid (inOk ((s.zip i).take (k + 1)) = true) := by show _ = _; rw [KZ.out, HZ.out, hy]; rfl
        have hq := KQ.out KZ'.out
        rw [KH.out] at hq
        obtain ⟨q0, q1⟩ := hq
        have y0 : 0 ≤ y ∧ y ≤ x - 1 := by simpa using hy
        have m0 : 0 ≤ p * x := Int.mul_nonneg p0 x0
        have m1 : p * x ≤ 27000000 := by omega
        clear KZ KB KQ
        go_wp2
        go_quiet ((go_at_call 52; exact Calls.quiet_of_same (in_spec _ _ _ _)))
        go_wp2
        go_quiet (fail)
        go_wp2
        go_roundw
        case rel => exact ⟨k + 1, by omega, by go_num, by rw [KH.out], KZ'.out, _, by rw [HW.out]; exact World.drewN_drewN _ _ _⟩
        case measure => simp [intOf]; omega
      · have hy : (decide (0 ≤ y) && decide (y ≤ x - 1)) = false := by simpa using hy
        have HV' : Hid (placeV s i = -1) := by show _ = _; rw [HV.out, KB.out hy]; rfl
        clear KZ KB KQ KH
        go_wp2
        go_quiet ((go_at_call 52; exact Calls.quiet_of_same (in_spec _ _ _ _)))
        go_wp2
        go_ret
        exact ⟨ret_num HV'.out.symm, _, by rw [HW.out]; exact World.drewN_drewN _ _ _⟩
    · have hl : (s.zip i).length ≤ k := by have := E1.out; have := E2.out; simp; omega
      have HV' : Hid (placeV s i = hor ((s.zip i).take k)) := by
        have h := HZ.out
        show _ = _
        rw [List.take_of_length_le hl] at *
        rw [HV.out, if_pos h]
      clear hl
      go_wp2
      go_ret
      exact ⟨ret_num HV'.out.symm, _, HW.out⟩
/-- PlaceOf, whatever lists it is given. -/
theorem place_spec {s i : List Int} {a b : Option Addr} {w : World} (c d : Nat) (h1 : Ints w a s) (h2 : Ints w b i) :
    Calls Try.prog 29 #[.slice a s.length c, .slice b i.length d] w fun e w' => e = .returned (.int .i64 (placeV s i)) ∧ ∃ j, w' = w.drewN j := by
  by_cases hb : sizeV s < 0 ∨ i.length ≠ s.length
  · exact place_bad_spec s i a b c d w h1 hb
  · have e : i.length = s.length := by omega
    rw [e]
    exact place_walk_spec s i a b s.length c d w h1 h2 rfl e (by omega)
end Go.Proofs.Ytfmheanmkfdjnap
