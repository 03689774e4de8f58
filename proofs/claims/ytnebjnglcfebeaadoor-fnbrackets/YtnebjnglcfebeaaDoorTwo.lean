/-
  Walks: the program's Two, whatever it is given.
-/
import Derived.Test.YtnebjnglcfebeaaDoorTwos
namespace Go.Proofs.YtnebjnglcfebeaaDoor
open Go.RowKit
/-- The signs, by their places in the program's own table. -/
def sg (k : Nat) : Int := [43, 45, 42, 37, 124, 38, 94, 61, 60, 62].getD k 0
theorem sg_none {s : Int} (h : ∀ j, j < 10 → sg j ≠ s) : sign2 s = false := by
  have h0 := h 0 (by omega); have h1 := h 1 (by omega); have h2 := h 2 (by omega); have h3 := h 3 (by omega); have h4 := h 4 (by omega)
  have h5 := h 5 (by omega); have h6 := h 6 (by omega); have h7 := h 7 (by omega); have h8 := h 8 (by omega); have h9 := h 9 (by omega)
  simp [sg] at h0 h1 h2 h3 h4 h5 h6 h7 h8 h9
  simp [sign2]; omega
theorem sg_next {s : Int} {k : Nat} (h : ∀ j, j < k → sg j ≠ s) (hk : sg k ≠ s) : ∀ j, j < k + 1 → sg j ≠ s := by
  intro j hj
  by_cases e : j = k
  · subst e; exact hk
  · exact h j (by omega)
set_option maxHeartbeats 4000000 in
theorem two_right (s a b : Int) (a1 : -1000000000000 ≤ a) (a2 : a ≤ 1000000000000) (b1 : -1000000000000 ≤ b) (b2 : b ≤ 1000000000000) (w : World) :
    Calls Tryd.prog 81 #[.int .i64 s, .int .i64 a, .int .i64 b] w fun e w' => e = .returned (.tuple #[.int .i64 (twoV s a b).1, .int .i64 (twoV s a b).2]) ∧ Below w.heap.size w w' := by
  have ka := ok_mk a1 a2
  have kb := ok_mk b1 b2
  go_enter Tryd.func81, Tryd.ntmps81
  go_wp2_with (first | (go_at_call 58; refine (numOk_impl _ _).mono ?_; rintro e w' ⟨rfl, hw⟩; subst w') | (go_at_call 84; refine (twoRules_impl _).mono ?_; rintro e w' ⟨rfl, c, rfl⟩))
  go_loopw [21] (fun i w' => ∃ k : Nat, k ≤ 10 ∧ i = .int .i64 k ∧ (∀ j, j < k → sg j ≠ s) ∧ Below w.heap.size w w') (fun i _ => 10 - (intOf i).toNat)
  case atStart => exact ⟨0, by omega, rfl, by omega, bAlloc (Below.refl _ _) _⟩
  case round =>
    obtain ⟨k, hk, rfl, hs, hG⟩ := hrel
    have HS : Hid (∀ j, j < k → sg j ≠ s) := hs
    clear hs
    have hk11 : k = 0 ∨ k = 1 ∨ k = 2 ∨ k = 3 ∨ k = 4 ∨ k = 5 ∨ k = 6 ∨ k = 7 ∨ k = 8 ∨ k = 9 ∨ k = 10 := by omega
    rcases hk11 with rfl | rfl | rfl | rfl | rfl | rfl | rfl | rfl | rfl | rfl | rfl
    · have ik := ixTwo0
      by_cases e : s = 43
      · subst e
        go_wp2_with (first | (go_at_call 91; refine (sum_impl _ _ a1 a2 b1 b2 _).mono ?_; rintro e w' ⟨rfl, hw⟩; subst w') | (go_at_call 85; refine (rol_impl _ _).mono ?_; rintro e w' ⟨rfl, hw⟩; subst w'))
        go_ret2
        exact ⟨ret_two (by rw [twoV_43 ka kb]) (by rw [twoV_43 ka kb]), by repeat (first | exact hG | apply bAlloc)⟩
      · have en : ((43 : Int) == s) = false := by simp; omega
        clear e
        go_wp2
        go_roundw
        case rel => exact ⟨1, by omega, rfl, sg_next HS.out (by simp at en; simpa [sg] using en), by repeat (first | exact hG | apply bAlloc)⟩
        case measure => simp [intOf]
    · have ik := ixTwo1
      by_cases e : s = 45
      · subst e
        go_wp2_with (first | (go_at_call 92; refine (difference_impl _ _ a1 a2 b1 b2 _).mono ?_; rintro e w' ⟨rfl, hw⟩; subst w') | (go_at_call 85; refine (rol_impl _ _).mono ?_; rintro e w' ⟨rfl, hw⟩; subst w'))
        go_ret2
        exact ⟨ret_two (by rw [twoV_45 ka kb]) (by rw [twoV_45 ka kb]), by repeat (first | exact hG | apply bAlloc)⟩
      · have en : ((45 : Int) == s) = false := by simp; omega
        clear e
        go_wp2
        go_roundw
        case rel => exact ⟨2, by omega, rfl, sg_next HS.out (by simp at en; simpa [sg] using en), by repeat (first | exact hG | apply bAlloc)⟩
        case measure => simp [intOf]
    · have ik := ixTwo2
      by_cases e : s = 42
      · subst e
        by_cases p : bits a.natAbs + bits b.natAbs ≤ 41
        · go_wp2_with (first | (go_at_call 93; refine (product_impl2 _ _ a1 a2 b1 b2 p _).mono ?_; rintro e w' ⟨rfl, hw⟩; subst w') | (go_at_call 85; refine (rol_impl _ _).mono ?_; rintro e w' ⟨rfl, hw⟩; subst w'))
          go_ret2
          exact ⟨ret_two (by rw [twoV_42 ka kb]) (by rw [twoV_42 ka kb]), by repeat (first | exact hG | apply bAlloc)⟩
        · have hno := lim_no (prod_big (a := a) (b := b) (by omega) (by omega) (by omega))
          go_wp2_with (first | (go_at_call 93; refine (product_impl1 _ _ a1 a2 b1 b2 (by omega) _).mono ?_; rintro e w' ⟨rfl, hw⟩; subst w') | (go_at_call 85; refine (rol_code _ _ (by decide) _).mono ?_; rintro e w' ⟨rfl, hw⟩; subst w'))
          go_ret2
          exact ⟨ret_two (by rw [twoV_42 ka kb]; exact hno.1.symm) (by rw [twoV_42 ka kb]; exact hno.2.symm), by repeat (first | exact hG | apply bAlloc)⟩
      · have en : ((42 : Int) == s) = false := by simp; omega
        clear e
        go_wp2
        go_roundw
        case rel => exact ⟨3, by omega, rfl, sg_next HS.out (by simp at en; simpa [sg] using en), by repeat (first | exact hG | apply bAlloc)⟩
        case measure => simp [intOf]
    · have ik := ixTwo3
      by_cases e : s = 37
      · subst e
        by_cases p : b = 0
        · have PB : Hid (twoV 37 a b = (0, 2)) := twoV_37n ka kb p
          subst p
          go_wp2_with (first | (go_at_call 94; refine (quotient_impl0 _ _).mono ?_; rintro e w' ⟨rfl, hw⟩; subst w') | (go_at_call 85; refine (rol_code _ _ (by decide) _).mono ?_; rintro e w' ⟨rfl, hw⟩; subst w'))
          go_ret2
          exact ⟨ret_two (by rw [PB.out]) (by rw [PB.out]), by repeat (first | exact hG | apply bAlloc)⟩
        · go_wp2_with (first | (go_at_call 94; refine (quotient_impl _ _ p a1 a2 b1 b2 _).mono ?_; rintro e w' ⟨rfl, hw⟩; subst w') | (go_at_call 85; refine (rol_impl _ _).mono ?_; rintro e w' ⟨rfl, hw⟩; subst w'))
          go_ret2
          exact ⟨ret_two (by rw [twoV_37 ka kb p]) (by rw [twoV_37 ka kb p]), by repeat (first | exact hG | apply bAlloc)⟩
      · have en : ((37 : Int) == s) = false := by simp; omega
        clear e
        go_wp2
        go_roundw
        case rel => exact ⟨4, by omega, rfl, sg_next HS.out (by simp at en; simpa [sg] using en), by repeat (first | exact hG | apply bAlloc)⟩
        case measure => simp [intOf]
    · have ik := ixTwo4
      by_cases e : s = 124
      · subst e
        by_cases p : a = 0
        · subst p
          go_wp2_with (first | (go_at_call 95; refine (remainder_impl0 _ _).mono ?_; rintro e w' ⟨rfl, hw⟩; subst w') | (go_at_call 85; refine (rol_impl _ _).mono ?_; rintro e w' ⟨rfl, hw⟩; subst w'))
          go_ret2
          exact ⟨ret_two (by rw [twoV_124 ka kb, if_pos rfl]) (by rw [twoV_124 ka kb, if_pos rfl]), by repeat (first | exact hG | apply bAlloc)⟩
        · go_wp2_with (first | (go_at_call 95; refine (remainder_impl _ _ p a1 a2 b1 b2 _).mono ?_; rintro e w' ⟨rfl, hw⟩; subst w') | (go_at_call 85; refine (rol_impl _ _).mono ?_; rintro e w' ⟨rfl, hw⟩; subst w'))
          go_ret2
          exact ⟨ret_two (by rw [twoV_124 ka kb, if_neg p]) (by rw [twoV_124 ka kb, if_neg p]), by repeat (first | exact hG | apply bAlloc)⟩
      · have en : ((124 : Int) == s) = false := by simp; omega
        clear e
        go_wp2
        go_roundw
        case rel => exact ⟨5, by omega, rfl, sg_next HS.out (by simp at en; simpa [sg] using en), by repeat (first | exact hG | apply bAlloc)⟩
        case measure => simp [intOf]
    · have ik := ixTwo5
      by_cases e : s = 38
      · subst e
        go_wp2_with (first | (go_at_call 96; refine (lesser_impl _ _ _).mono ?_; rintro e w' ⟨rfl, hw⟩; subst w') | (go_at_call 85; refine (rol_impl _ _).mono ?_; rintro e w' ⟨rfl, hw⟩; subst w'))
        go_ret2
        exact ⟨ret_two (by rw [twoV_38 ka kb]) (by rw [twoV_38 ka kb]), by repeat (first | exact hG | apply bAlloc)⟩
      · have en : ((38 : Int) == s) = false := by simp; omega
        clear e
        go_wp2
        go_roundw
        case rel => exact ⟨6, by omega, rfl, sg_next HS.out (by simp at en; simpa [sg] using en), by repeat (first | exact hG | apply bAlloc)⟩
        case measure => simp [intOf]
    · have ik := ixTwo6
      by_cases e : s = 94
      · subst e
        go_wp2_with (first | (go_at_call 97; refine (greater_impl _ _ _).mono ?_; rintro e w' ⟨rfl, hw⟩; subst w') | (go_at_call 85; refine (rol_impl _ _).mono ?_; rintro e w' ⟨rfl, hw⟩; subst w'))
        go_ret2
        exact ⟨ret_two (by rw [twoV_94 ka kb]) (by rw [twoV_94 ka kb]), by repeat (first | exact hG | apply bAlloc)⟩
      · have en : ((94 : Int) == s) = false := by simp; omega
        clear e
        go_wp2
        go_roundw
        case rel => exact ⟨7, by omega, rfl, sg_next HS.out (by simp at en; simpa [sg] using en), by repeat (first | exact hG | apply bAlloc)⟩
        case measure => simp [intOf]
    · have ik := ixTwo7
      by_cases e : s = 61
      · subst e
        go_wp2_with (first | (go_at_call 98; refine (isEqual_impl _ _ _).mono ?_; rintro e w' ⟨rfl, hw⟩; subst w') | (go_at_call 85; refine (rol_impl _ _).mono ?_; rintro e w' ⟨rfl, hw⟩; subst w'))
        go_ret2
        exact ⟨ret_two (by rw [twoV_61 ka kb]) (by rw [twoV_61 ka kb]), by repeat (first | exact hG | apply bAlloc)⟩
      · have en : ((61 : Int) == s) = false := by simp; omega
        clear e
        go_wp2
        go_roundw
        case rel => exact ⟨8, by omega, rfl, sg_next HS.out (by simp at en; simpa [sg] using en), by repeat (first | exact hG | apply bAlloc)⟩
        case measure => simp [intOf]
    · have ik := ixTwo8
      by_cases e : s = 60
      · subst e
        go_wp2_with (first | (go_at_call 99; refine (isBelow_impl _ _ _).mono ?_; rintro e w' ⟨rfl, hw⟩; subst w') | (go_at_call 85; refine (rol_impl _ _).mono ?_; rintro e w' ⟨rfl, hw⟩; subst w'))
        go_ret2
        exact ⟨ret_two (by rw [twoV_60 ka kb]) (by rw [twoV_60 ka kb]), by repeat (first | exact hG | apply bAlloc)⟩
      · have en : ((60 : Int) == s) = false := by simp; omega
        clear e
        go_wp2
        go_roundw
        case rel => exact ⟨9, by omega, rfl, sg_next HS.out (by simp at en; simpa [sg] using en), by repeat (first | exact hG | apply bAlloc)⟩
        case measure => simp [intOf]
    · have ik := ixTwo9
      by_cases e : s = 62
      · subst e
        go_wp2_with (first | (go_at_call 100; refine (isAbove_impl _ _ _).mono ?_; rintro e w' ⟨rfl, hw⟩; subst w') | (go_at_call 85; refine (rol_impl _ _).mono ?_; rintro e w' ⟨rfl, hw⟩; subst w'))
        go_ret2
        exact ⟨ret_two (by rw [twoV_62 ka kb]) (by rw [twoV_62 ka kb]), by repeat (first | exact hG | apply bAlloc)⟩
      · have en : ((62 : Int) == s) = false := by simp; omega
        clear e
        go_wp2
        go_roundw
        case rel => exact ⟨10, by omega, rfl, sg_next HS.out (by simp at en; simpa [sg] using en), by repeat (first | exact hG | apply bAlloc)⟩
        case measure => simp [intOf]
    · go_wp2
      go_ret2
      exact ⟨ret_two (by rw [twoV_none (sg_none HS.out)]) (by rw [twoV_none (sg_none HS.out)]), hG⟩
set_option maxHeartbeats 1000000 in
theorem two_implBad (s a b : Int) (h : ok a = false ∨ ok b = false) (w : World) :
    Calls Tryd.prog 81 #[.int .i64 s, .int .i64 a, .int .i64 b] w fun e w' => e = .returned (.tuple #[.int .i64 0, .int .i64 1]) ∧ Below w.heap.size w w' := by
  by_cases ha : ok a = true
  · have hb : ok b = false := by simpa [ha] using h
    clear h
    go_enter Tryd.func81, Tryd.ntmps81
    go_wp2_with (go_at_call 58; refine (numOk_impl _ _).mono ?_; rintro e w' ⟨rfl, hw⟩; subst w')
    go_ret2
    exact ⟨rfl, Below.refl _ _⟩
  · have ha : ok a = false := by simpa using ha
    clear h
    go_enter Tryd.func81, Tryd.ntmps81
    go_wp2_with (go_at_call 58; refine (numOk_impl _ _).mono ?_; rintro e w' ⟨rfl, hw⟩; subst w')
    go_ret2
    exact ⟨rfl, Below.refl _ _⟩
/-- The program's Two, whatever it is given. -/
theorem two_impl (s a b : Int) (w : World) :
    Calls Tryd.prog 81 #[.int .i64 s, .int .i64 a, .int .i64 b] w fun e w' => e = .returned (.tuple #[.int .i64 (twoV s a b).1, .int .i64 (twoV s a b).2]) ∧ Below w.heap.size w w' := by
  by_cases ha : ok a = true
  · by_cases hb : ok b = true
    · obtain ⟨a1, a2⟩ := ok_bd ha
      obtain ⟨b1, b2⟩ := ok_bd hb
      exact two_right s a b a1 a2 b1 b2 w
    · have hb : ok b = false := by simpa using hb
      rw [twoV_bad (.inr hb)]; exact two_implBad s a b (.inr hb) w
  · have ha : ok a = false := by simpa using ha
    rw [twoV_bad (.inl ha)]; exact two_implBad s a b (.inl ha) w
end Go.Proofs.YtnebjnglcfebeaaDoor
