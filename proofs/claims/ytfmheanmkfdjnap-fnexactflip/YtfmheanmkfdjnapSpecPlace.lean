/-
  Walks: the specification's ShapeOk and PlaceOf, whatever lists they are given.
-/
import Derived.Test.YtfmheanmkfdjnapSpecShape
namespace Go.Proofs.Ytfmheanmkfdjnap
open Go.RowKit
set_option linter.unusedVariables false

/-- ShapeOk. -/
theorem ok_spec {l : List Int} {a : Option Addr} {w : World} (c : Nat) (h1 : Ints w a l) :
    Calls Try.prog 42 #[.slice a l.length c] w fun e w' => e = .returned (.bool (decide (0 ≤ sizeV l))) ∧ w' = w := by
  have H1 : Hid (Ints w a l) := h1
  clear h1
  go_enter Try.func42, Try.ntmps42
  go_wp2_with (go_at_call 44; refine (size_spec _ H1.out).mono ?_; rintro e w' ⟨rfl, hw⟩; subst w')
  go_ret
  exact ⟨rfl, rfl⟩
set_option maxRecDepth 20000 in
set_option maxHeartbeats 2000000 in
theorem place_bad_spec (s i : List Int) (a b : Option Addr) (c d : Nat) (w : World) (h1 : Ints w a s) (hb : sizeV s < 0 ∨ i.length ≠ s.length) :
    Calls Try.prog 29 #[.slice a s.length c, .slice b i.length d] w fun e w' => e = .returned (.int .i64 (placeV s i)) ∧ ∃ j, w' = w.drewN j := by
  have HV : Hid (placeV s i = -1) := by show _ = _; unfold placeV; rw [if_pos hb]
  have H1 : Hid (Ints w a s) := h1
  clear h1
  by_cases hs : 0 ≤ sizeV s
  · have hs' : decide (0 ≤ sizeV s) = true := by simpa using hs
    have he : ((i.length : Int) != (s.length : Int)) = true := by
      have : i.length ≠ s.length := by
        rcases hb with hb | hb
        · omega
        · exact hb
      simp; omega
    clear hb hs
    go_enter Try.func29, Try.ntmps29
    go_wp2_with (go_at_call 42; refine (ok_spec _ H1.out).mono ?_; rintro e w' ⟨rfl, hw⟩; subst w')
    go_ret
    exact ⟨ret_num HV.out.symm, 0, rfl⟩
  · have hs' : decide (0 ≤ sizeV s) = false := by simpa using hs
    clear hb hs
    go_enter Try.func29, Try.ntmps29
    go_wp2_with (go_at_call 42; refine (ok_spec _ H1.out).mono ?_; rintro e w' ⟨rfl, hw⟩; subst w')
    go_ret
    exact ⟨ret_num HV.out.symm, 0, rfl⟩
set_option maxRecDepth 20000 in
set_option maxHeartbeats 2000000 in
theorem place_walk_spec (s i : List Int) (a b : Option Addr) (n c d : Nat) (w : World) (h1 : Ints w a s) (h2 : Ints w b i) (e1 : s.length = n) (e2 : i.length = n) (hs : 0 ≤ sizeV s) :
    Calls Try.prog 29 #[.slice a n c, .slice b n d] w fun e w' => e = .returned (.int .i64 (placeV s i)) ∧ ∃ j, w' = w.drewN j := by
  have hs' : decide (0 ≤ sizeV s) = true := by simpa using hs
  have hn : (n : Int) ≤ 3 := by have := (sizeV_ok hs).1; omega
  have H1 : Hid (Ints w a s) := h1
  have H2 : Hid (Ints w b i) := h2
  have E1 : Hid (s.length = n) := e1
  have E2 : Hid (i.length = n) := e2
  have HS : Hid (0 ≤ sizeV s) := hs
  have HV : Hid (placeV s i = if inOk (s.zip i) = true then hor (s.zip i) else -1) := by show _ = _; unfold placeV; rw [if_neg (by omega)]
  have HO : Hid (∀ x w, Ints w x s → Calls Try.prog 42 #[.slice x n c] w fun e w' => e = .returned (.bool (decide (0 ≤ sizeV s))) ∧ w' = w) := by
    intro x w h
    rw [← e1]
    exact ok_spec c h
  clear h1 h2 e1 e2 hs
  go_enter Try.func29, Try.ntmps29
  go_wp2_with (go_at_call 42; refine (HO.out _ _ H1.out).mono ?_; rintro e w' ⟨rfl, hw⟩; subst w')
  go_loopw [5, 6] (fun p q w' => ∃ k : Nat, k ≤ n ∧ q = .int .i64 k ∧ p = .int .i64 (hor ((s.zip i).take k)) ∧ inOk ((s.zip i).take k) = true ∧ ∃ j, w' = w.drewN j) (fun _ q _ => n - (intOf q).toNat)
  case atStart => exact ⟨0, by omega, rfl, rfl, rfl, 0, rfl⟩
  case round =>
    obtain ⟨k, hk, rfl, rfl, hz, j, hw⟩ := hrel
    have HW : Hid (wr = w.drewN j) := hw
    clear hw
    have HZ : Hid (inOk ((s.zip i).take k) = true) := hz
    clear hz
    by_cases hlt : (k : Int) < (n : Int)
    · have L1 : k < s.length := by have := E1.out; omega
      have L2 : k < i.length := by have := E2.out; omega
      have EE : i.length = s.length := by have := E1.out; have := E2.out; omega
      obtain ⟨b1, o1, rfl, _, c1⟩ := H1.out.at L1
      obtain ⟨b2, o2, rfl, _, c2⟩ := H2.out.at L2
      have dk : dimOk (s.getD k 0) = true := by
        have := (sizeV_ok HS.out).2.1
        rw [List.all_eq_true] at this
        exact this _ (by simp [L1])
      obtain ⟨x0, x1⟩ := dimOk_bd dk
      obtain ⟨p0, p1⟩ := hor_bd HS.out EE k HZ.out
      have KZ : Hid (inOk ((s.zip i).take (k + 1)) = (inOk ((s.zip i).take k) && (decide (0 ≤ i.getD k 0) && decide (i.getD k 0 ≤ s.getD k 0 - 1)))) := by show _ = _; rw [zip_snoc L1 L2, inOk_snoc]
      have KH : Hid (hor ((s.zip i).take (k + 1)) = hor ((s.zip i).take k) * s.getD k 0 + i.getD k 0) := by show _ = _; rw [zip_snoc L1 L2, hor_snoc]
      have KB : Hid ((decide (0 ≤ i.getD k 0) && decide (i.getD k 0 ≤ s.getD k 0 - 1)) = false → inOk (s.zip i) = false) := inOk_bad L1 L2
      have KQ : Hid (inOk ((s.zip i).take (k + 1)) = true → 0 ≤ hor ((s.zip i).take (k + 1)) ∧ hor ((s.zip i).take (k + 1)) ≤ 27000000) := hor_bd HS.out EE (k + 1)
      clear L1 L2 EE dk
      have d1 : wr.cell? ⟨b1, o1 + k, none⟩ = some (.int .i64 (s.getD k 0)) := by rw [HW.out]; exact c1
      have d2 : wr.cell? ⟨b2, o2 + k, none⟩ = some (.int .i64 (i.getD k 0)) := by rw [HW.out]; exact c2
      clear c1 c2
      generalize s.getD k 0 = x at d1 x0 x1 KZ KH KB
      generalize i.getD k 0 = y at d2 KZ KH KB
      generalize hor ((s.zip i).take k) = p at p0 p1 KH
      by_cases hy : (decide (0 ≤ y) && decide (y ≤ x - 1)) = true
      · have KZ' : Hid (inOk ((s.zip i).take (k + 1)) = true) := by show _ = _; rw [KZ.out, HZ.out, hy]; rfl
        have hq := KQ.out KZ'.out
        rw [KH.out] at hq
        obtain ⟨q0, q1⟩ := hq
        have y0 : 0 ≤ y ∧ y ≤ x - 1 := by simpa using hy
        have m0 : 0 ≤ p * x := Int.mul_nonneg p0 x0
        have m1 : p * x ≤ 27000000 := by omega
        clear KZ KB KQ
        go_wp2
        go_quiet ((go_at_call 52; exact Calls.quiet_of_same (in_spec _ _ _ _)))
        go_wp2
        go_quiet (fail)
        go_wp2
        go_roundw
        case rel => exact ⟨k + 1, by omega, by go_num, by rw [KH.out], KZ'.out, _, by rw [HW.out]; exact World.drewN_drewN _ _ _⟩
        case measure => simp [intOf]; omega
      · have hy : (decide (0 ≤ y) && decide (y ≤ x - 1)) = false := by simpa using hy
        have HV' : Hid (placeV s i = -1) := by show _ = _; rw [HV.out, KB.out hy]; rfl
        clear KZ KB KQ KH
        go_wp2
        go_quiet ((go_at_call 52; exact Calls.quiet_of_same (in_spec _ _ _ _)))
        go_wp2
        go_ret
        exact ⟨ret_num HV'.out.symm, _, by rw [HW.out]; exact World.drewN_drewN _ _ _⟩
    · have hl : (s.zip i).length ≤ k := by have := E1.out; have := E2.out; simp; omega
      have HV' : Hid (placeV s i = hor ((s.zip i).take k)) := by
        have h := HZ.out
        show _ = _
        rw [List.take_of_length_le hl] at *
        rw [HV.out, if_pos h]
      clear hl
      go_wp2
      go_ret
      exact ⟨ret_num HV'.out.symm, _, HW.out⟩
/-- PlaceOf, whatever lists it is given. -/
theorem place_spec {s i : List Int} {a b : Option Addr} {w : World} (c d : Nat) (h1 : Ints w a s) (h2 : Ints w b i) :
    Calls Try.prog 29 #[.slice a s.length c, .slice b i.length d] w fun e w' => e = .returned (.int .i64 (placeV s i)) ∧ ∃ j, w' = w.drewN j := by
  by_cases hb : sizeV s < 0 ∨ i.length ≠ s.length
  · exact place_bad_spec s i a b c d w h1 hb
  · have e : i.length = s.length := by omega
    rw [e]
    exact place_walk_spec s i a b s.length c d w h1 h2 rfl e (by omega)
end Go.Proofs.Ytfmheanmkfdjnap
