/-
  Several walks, one behind the other: Two, ImplEach0, ImplEach1, ImplEach2, ImplMap, ImplAlike, ImplSame, ImplFit, ImplEach3, ImplRed3, OuterM, ImplMake3, ImplMake5, LookC, CopyL, ImplCopy1, ImplOut1, ImplMake9, ImplScan, Pair5, ImplMake4, NeutralI, ImplRed5.
-/
import Derived.Test.YtcpgdhffemecbaaGreatZ1
import Derived.Test.YtcpgdhffemecbaaGreatEachP
import Derived.Test.YtcpgdhffemecbaaGreatArrs
import Derived.Shelf.Abstract
import Derived.DeepKeys4
import Derived.WideKeyEntry
import Derived.RegionTactic
import Derived.ChangeAlike
import Derived.Test.YtcpgdhffemecbaaGreatEachM
import Derived.Test.YtcpgdhffemecbaaGreatMakeM
import Derived.Test.YtcpgdhffemecbaaGreatCutI
import Derived.Test.YtcpgdhffemecbaaGreatMakeP
import Derived.Test.YtcpgdhffemecbaaGreatRows
import Derived.Test.YtcpgdhffemecbaaGreatMath
import Derived.WalkKit
import Derived.WalkSpells
import Derived.WalkLawsBesides
namespace Go.Proofs.YtcpgdhffemecbaaGreat
open Go.RowKit
/-- The signs, by their places in the program's own table. -/
def sg (k : Nat) : Int := [43, 45, 42, 37, 124, 38, 94, 61, 60, 62].getD k 0
theorem sg_none {s : Int} (h : ∀ j, j < 10 → sg j ≠ s) : sign2 s = false := by
  have h0 := h 0 (by omega); have h1 := h 1 (by omega); have h2 := h 2 (by omega); have h3 := h 3 (by omega); have h4 := h 4 (by omega)
  have h5 := h 5 (by omega); have h6 := h 6 (by omega); have h7 := h 7 (by omega); have h8 := h 8 (by omega); have h9 := h 9 (by omega)
  simp [sg] at h0 h1 h2 h3 h4 h5 h6 h7 h8 h9
  simp [sign2]; omega
theorem sg_next {s : Int} {k : Nat} (h : ∀ j, j < k → sg j ≠ s) (hk : sg k ≠ s) : ∀ j, j < k + 1 → sg j ≠ s := by
  intro j hj
  by_cases e : j = k
  · subst e; exact hk
  · exact h j (by omega)
set_option maxHeartbeats 4000000 in
theorem two_right (s a b : Int) (a1 : -1000000000000 ≤ a) (a2 : a ≤ 1000000000000) (b1 : -1000000000000 ≤ b) (b2 : b ≤ 1000000000000) (w : World) :
    Calls Tryz.prog 60 #[.int .i64 s, .int .i64 a, .int .i64 b] w fun e w' => e = .returned (.tuple #[.int .i64 (twoV s a b).1, .int .i64 (twoV s a b).2]) ∧ Below w.heap.size w w' := by
  have ka := ok_mk a1 a2
  have kb := ok_mk b1 b2
  go_enter Tryz.func60, Tryz.ntmps60
  go_wp2_with (first | (go_at_call 92; refine (numOk_impl _ _).mono ?_; rintro e w' ⟨rfl, hw⟩; subst w') | (go_at_call 93; refine (twoRules_impl _).mono ?_; rintro e w' ⟨rfl, c, rfl⟩))
  go_loopw [21] (fun i w' => ∃ k : Nat, k ≤ 10 ∧ i = .int .i64 k ∧ (∀ j, j < k → sg j ≠ s) ∧ Below w.heap.size w w') (fun i _ => 10 - (intOf i).toNat)
  case atStart => exact ⟨0, by omega, rfl, by omega, bAlloc (Below.refl _ _) _⟩
  case round =>
    obtain ⟨k, hk, rfl, hs, hG⟩ := hrel
    have HS : Hid (∀ j, j < k → sg j ≠ s) := hs
    clear hs
    have hk11 : k = 0 ∨ k = 1 ∨ k = 2 ∨ k = 3 ∨ k = 4 ∨ k = 5 ∨ k = 6 ∨ k = 7 ∨ k = 8 ∨ k = 9 ∨ k = 10 := by omega
    rcases hk11 with rfl | rfl | rfl | rfl | rfl | rfl | rfl | rfl | rfl | rfl | rfl
    · have ik := ixTwo0
      by_cases e : s = 43
      · subst e
        go_wp2_with (first | (go_at_call 113; refine (sum_impl _ _ a1 a2 b1 b2 _).mono ?_; rintro e w' ⟨rfl, hw⟩; subst w') | (go_at_call 94; refine (rol_impl _ _).mono ?_; rintro e w' ⟨rfl, hw⟩; subst w'))
        go_ret2
        exact ⟨ret_two (by rw [twoV_43 ka kb]) (by rw [twoV_43 ka kb]), by repeat (first | exact hG | apply bAlloc)⟩
      · have en : ((43 : Int) == s) = false := by simp; omega
        clear e
        go_wp2
        go_roundw
        case rel => exact ⟨1, by omega, rfl, sg_next HS.out (by simp at en; simpa [sg] using en), by repeat (first | exact hG | apply bAlloc)⟩
        case measure => simp [intOf]
    · have ik := ixTwo1
      by_cases e : s = 45
      · subst e
        go_wp2_with (first | (go_at_call 114; refine (difference_impl _ _ a1 a2 b1 b2 _).mono ?_; rintro e w' ⟨rfl, hw⟩; subst w') | (go_at_call 94; refine (rol_impl _ _).mono ?_; rintro e w' ⟨rfl, hw⟩; subst w'))
        go_ret2
        exact ⟨ret_two (by rw [twoV_45 ka kb]) (by rw [twoV_45 ka kb]), by repeat (first | exact hG | apply bAlloc)⟩
      · have en : ((45 : Int) == s) = false := by simp; omega
        clear e
        go_wp2
        go_roundw
        case rel => exact ⟨2, by omega, rfl, sg_next HS.out (by simp at en; simpa [sg] using en), by repeat (first | exact hG | apply bAlloc)⟩
        case measure => simp [intOf]
    · have ik := ixTwo2
      by_cases e : s = 42
      · subst e
        by_cases p : bits a.natAbs + bits b.natAbs ≤ 41
        · go_wp2_with (first | (go_at_call 115; refine (product_impl2 _ _ a1 a2 b1 b2 p _).mono ?_; rintro e w' ⟨rfl, hw⟩; subst w') | (go_at_call 94; refine (rol_impl _ _).mono ?_; rintro e w' ⟨rfl, hw⟩; subst w'))
          go_ret2
          exact ⟨ret_two (by rw [twoV_42 ka kb]) (by rw [twoV_42 ka kb]), by repeat (first | exact hG | apply bAlloc)⟩
        · have hno := lim_no (prod_big (a := a) (b := b) (by omega) (by omega) (by omega))
          go_wp2_with (first | (go_at_call 115; refine (product_impl1 _ _ a1 a2 b1 b2 (by omega) _).mono ?_; rintro e w' ⟨rfl, hw⟩; subst w') | (go_at_call 94; refine (rol_code _ _ (by decide) _).mono ?_; rintro e w' ⟨rfl, hw⟩; subst w'))
          go_ret2
          exact ⟨ret_two (by rw [twoV_42 ka kb]; exact hno.1.symm) (by rw [twoV_42 ka kb]; exact hno.2.symm), by repeat (first | exact hG | apply bAlloc)⟩
      · have en : ((42 : Int) == s) = false := by simp; omega
        clear e
        go_wp2
        go_roundw
        case rel => exact ⟨3, by omega, rfl, sg_next HS.out (by simp at en; simpa [sg] using en), by repeat (first | exact hG | apply bAlloc)⟩
        case measure => simp [intOf]
    · have ik := ixTwo3
      by_cases e : s = 37
      · subst e
        by_cases p : b = 0
        · have PB : Hid (twoV 37 a b = (0, 2)) := twoV_37n ka kb p
          subst p
          go_wp2_with (first | (go_at_call 116; refine (quotient_impl0 _ _).mono ?_; rintro e w' ⟨rfl, hw⟩; subst w') | (go_at_call 94; refine (rol_code _ _ (by decide) _).mono ?_; rintro e w' ⟨rfl, hw⟩; subst w'))
          go_ret2
          exact ⟨ret_two (by rw [PB.out]) (by rw [PB.out]), by repeat (first | exact hG | apply bAlloc)⟩
        · go_wp2_with (first | (go_at_call 116; refine (quotient_impl _ _ p a1 a2 b1 b2 _).mono ?_; rintro e w' ⟨rfl, hw⟩; subst w') | (go_at_call 94; refine (rol_impl _ _).mono ?_; rintro e w' ⟨rfl, hw⟩; subst w'))
          go_ret2
          exact ⟨ret_two (by rw [twoV_37 ka kb p]) (by rw [twoV_37 ka kb p]), by repeat (first | exact hG | apply bAlloc)⟩
      · have en : ((37 : Int) == s) = false := by simp; omega
        clear e
        go_wp2
        go_roundw
        case rel => exact ⟨4, by omega, rfl, sg_next HS.out (by simp at en; simpa [sg] using en), by repeat (first | exact hG | apply bAlloc)⟩
        case measure => simp [intOf]
    · have ik := ixTwo4
      by_cases e : s = 124
      · subst e
        by_cases p : a = 0
        · subst p
          go_wp2_with (first | (go_at_call 117; refine (remainder_impl0 _ _).mono ?_; rintro e w' ⟨rfl, hw⟩; subst w') | (go_at_call 94; refine (rol_impl _ _).mono ?_; rintro e w' ⟨rfl, hw⟩; subst w'))
          go_ret2
          exact ⟨ret_two (by rw [twoV_124 ka kb, if_pos rfl]) (by rw [twoV_124 ka kb, if_pos rfl]), by repeat (first | exact hG | apply bAlloc)⟩
        · go_wp2_with (first | (go_at_call 117; refine (remainder_impl _ _ p a1 a2 b1 b2 _).mono ?_; rintro e w' ⟨rfl, hw⟩; subst w') | (go_at_call 94; refine (rol_impl _ _).mono ?_; rintro e w' ⟨rfl, hw⟩; subst w'))
          go_ret2
          exact ⟨ret_two (by rw [twoV_124 ka kb, if_neg p]) (by rw [twoV_124 ka kb, if_neg p]), by repeat (first | exact hG | apply bAlloc)⟩
      · have en : ((124 : Int) == s) = false := by simp; omega
        clear e
        go_wp2
        go_roundw
        case rel => exact ⟨5, by omega, rfl, sg_next HS.out (by simp at en; simpa [sg] using en), by repeat (first | exact hG | apply bAlloc)⟩
        case measure => simp [intOf]
    · have ik := ixTwo5
      by_cases e : s = 38
      · subst e
        go_wp2_with (first | (go_at_call 118; refine (lesser_impl _ _ _).mono ?_; rintro e w' ⟨rfl, hw⟩; subst w') | (go_at_call 94; refine (rol_impl _ _).mono ?_; rintro e w' ⟨rfl, hw⟩; subst w'))
        go_ret2
        exact ⟨ret_two (by rw [twoV_38 ka kb]) (by rw [twoV_38 ka kb]), by repeat (first | exact hG | apply bAlloc)⟩
      · have en : ((38 : Int) == s) = false := by simp; omega
        clear e
        go_wp2
        go_roundw
        case rel => exact ⟨6, by omega, rfl, sg_next HS.out (by simp at en; simpa [sg] using en), by repeat (first | exact hG | apply bAlloc)⟩
        case measure => simp [intOf]
    · have ik := ixTwo6
      by_cases e : s = 94
      · subst e
        go_wp2_with (first | (go_at_call 119; refine (greater_impl _ _ _).mono ?_; rintro e w' ⟨rfl, hw⟩; subst w') | (go_at_call 94; refine (rol_impl _ _).mono ?_; rintro e w' ⟨rfl, hw⟩; subst w'))
        go_ret2
        exact ⟨ret_two (by rw [twoV_94 ka kb]) (by rw [twoV_94 ka kb]), by repeat (first | exact hG | apply bAlloc)⟩
      · have en : ((94 : Int) == s) = false := by simp; omega
        clear e
        go_wp2
        go_roundw
        case rel => exact ⟨7, by omega, rfl, sg_next HS.out (by simp at en; simpa [sg] using en), by repeat (first | exact hG | apply bAlloc)⟩
        case measure => simp [intOf]
    · have ik := ixTwo7
      by_cases e : s = 61
      · subst e
        go_wp2_with (first | (go_at_call 120; refine (isEqual_impl _ _ _).mono ?_; rintro e w' ⟨rfl, hw⟩; subst w') | (go_at_call 94; refine (rol_impl _ _).mono ?_; rintro e w' ⟨rfl, hw⟩; subst w'))
        go_ret2
        exact ⟨ret_two (by rw [twoV_61 ka kb]) (by rw [twoV_61 ka kb]), by repeat (first | exact hG | apply bAlloc)⟩
      · have en : ((61 : Int) == s) = false := by simp; omega
        clear e
        go_wp2
        go_roundw
        case rel => exact ⟨8, by omega, rfl, sg_next HS.out (by simp at en; simpa [sg] using en), by repeat (first | exact hG | apply bAlloc)⟩
        case measure => simp [intOf]
    · have ik := ixTwo8
      by_cases e : s = 60
      · subst e
        go_wp2_with (first | (go_at_call 121; refine (isBelow_impl _ _ _).mono ?_; rintro e w' ⟨rfl, hw⟩; subst w') | (go_at_call 94; refine (rol_impl _ _).mono ?_; rintro e w' ⟨rfl, hw⟩; subst w'))
        go_ret2
        exact ⟨ret_two (by rw [twoV_60 ka kb]) (by rw [twoV_60 ka kb]), by repeat (first | exact hG | apply bAlloc)⟩
      · have en : ((60 : Int) == s) = false := by simp; omega
        clear e
        go_wp2
        go_roundw
        case rel => exact ⟨9, by omega, rfl, sg_next HS.out (by simp at en; simpa [sg] using en), by repeat (first | exact hG | apply bAlloc)⟩
        case measure => simp [intOf]
    · have ik := ixTwo9
      by_cases e : s = 62
      · subst e
        go_wp2_with (first | (go_at_call 122; refine (isAbove_impl _ _ _).mono ?_; rintro e w' ⟨rfl, hw⟩; subst w') | (go_at_call 94; refine (rol_impl _ _).mono ?_; rintro e w' ⟨rfl, hw⟩; subst w'))
        go_ret2
        exact ⟨ret_two (by rw [twoV_62 ka kb]) (by rw [twoV_62 ka kb]), by repeat (first | exact hG | apply bAlloc)⟩
      · have en : ((62 : Int) == s) = false := by simp; omega
        clear e
        go_wp2
        go_roundw
        case rel => exact ⟨10, by omega, rfl, sg_next HS.out (by simp at en; simpa [sg] using en), by repeat (first | exact hG | apply bAlloc)⟩
        case measure => simp [intOf]
    · go_wp2
      go_ret2
      exact ⟨ret_two (by rw [twoV_none (sg_none HS.out)]) (by rw [twoV_none (sg_none HS.out)]), hG⟩
set_option maxHeartbeats 1000000 in
theorem two_implBad (s a b : Int) (h : ok a = false ∨ ok b = false) (w : World) :
    Calls Tryz.prog 60 #[.int .i64 s, .int .i64 a, .int .i64 b] w fun e w' => e = .returned (.tuple #[.int .i64 0, .int .i64 1]) ∧ Below w.heap.size w w' := by
  by_cases ha : ok a = true
  · have hb : ok b = false := by simpa [ha] using h
    clear h
    go_enter Tryz.func60, Tryz.ntmps60
    go_wp2_with (go_at_call 92; refine (numOk_impl _ _).mono ?_; rintro e w' ⟨rfl, hw⟩; subst w')
    go_ret2
    exact ⟨rfl, Below.refl _ _⟩
  · have ha : ok a = false := by simpa using ha
    clear h
    go_enter Tryz.func60, Tryz.ntmps60
    go_wp2_with (go_at_call 92; refine (numOk_impl _ _).mono ?_; rintro e w' ⟨rfl, hw⟩; subst w')
    go_ret2
    exact ⟨rfl, Below.refl _ _⟩
/-- The program's Two, whatever it is given. -/
theorem two_impl (s a b : Int) (w : World) :
    Calls Tryz.prog 60 #[.int .i64 s, .int .i64 a, .int .i64 b] w fun e w' => e = .returned (.tuple #[.int .i64 (twoV s a b).1, .int .i64 (twoV s a b).2]) ∧ Below w.heap.size w w' := by
  by_cases ha : ok a = true
  · by_cases hb : ok b = true
    · obtain ⟨a1, a2⟩ := ok_bd ha
      obtain ⟨b1, b2⟩ := ok_bd hb
      exact two_right s a b a1 a2 b1 b2 w
    · have hb : ok b = false := by simpa using hb
      rw [twoV_bad (.inr hb)]; exact two_implBad s a b (.inr hb) w
  · have ha : ok a = false := by simpa using ha
    rw [twoV_bad (.inl ha)]; exact two_implBad s a b (.inl ha) w
end Go.Proofs.YtcpgdhffemecbaaGreat
namespace Go.Proofs.YtcpgdhffemecbaaGreat
open Go.RowKit
set_option linter.unusedVariables false
set_option linter.unusedSimpArgs false
set_option maxRecDepth 20000 in
set_option maxHeartbeats 1000000 in
/-- numberFor. -/
theorem numberFor_impl {s d : List Int} {w : World} {v : Value} (i : Nat) (h : ArrI w v s d) (h0 : s = [] → 0 < d.length) (h1 : s ≠ [] → i < d.length) (hd : d.length ≤ 1048576) :
    Calls Tryz.prog 123 #[v, .int .i64 (i : Int)] w fun r w' => r = .returned (.int .i64 (numOf s d i)) ∧ Below w.heap.size w w' := by
  obtain ⟨a, c, b, f, rfl, i1, i2, _, _⟩ := h
  by_cases e : s = []
  · subst e
    have E : Hid (numOf [] d i = d.getD 0 0) := by show _ = _; unfold numOf; rw [if_pos rfl]
    obtain ⟨b1, o1, rfl, hb1, c1⟩ := i2.at (h0 rfl)
    rw [Nat.add_zero] at c1
    have c2 : ∀ O : Obj, (w.alloc O).cell? ⟨b1, o1, none⟩ = some (.int .i64 (d.getD 0 0)) := fun O => ((bAlloc (Below.refl _ _) O).cell (p := ⟨b1, o1, none⟩) hb1).trans c1
    have hl : (0 : Int) < (d.length : Int) := by have := h0 rfl; omega
    generalize d.getD 0 0 = x at *
    clear i1 i2 h0 h1 c1
    go_enter Tryz.func123, Tryz.ntmps123
    go_wp2
    go_ret
    exact ⟨by rw [E.out]; rfl, bAlloc (Below.refl _ _) _⟩
  · have E : Hid (numOf s d i = d.getD i 0) := by show _ = _; unfold numOf; rw [if_neg e]
    obtain ⟨b1, o1, rfl, hb1, c1⟩ := i2.at (h1 e)
    have c2 : ∀ O : Obj, (w.alloc O).cell? ⟨b1, o1 + i, none⟩ = some (.int .i64 (d.getD i 0)) := fun O => ((bAlloc (Below.refl _ _) O).cell (p := ⟨b1, o1 + i, none⟩) hb1).trans c1
    have hl : (i : Int) < (d.length : Int) := by have := h1 e; omega
    have n1 : ((s.length : Int) == 0) = false := by
      have := List.length_pos_iff.2 e
      simp; omega
    generalize d.getD i 0 = x at *
    clear i1 i2 h0 h1 c1 e
    go_enter Tryz.func123, Tryz.ntmps123
    go_wp2
    go_ret
    exact ⟨by rw [E.out]; rfl, bAlloc (Below.refl _ _) _⟩
theorem known1 (g : Int) : ((oneV g 0).2 != 1) = sign1 g := by
  by_cases h : sign1 g = true
  · rcases sign1_of h with rfl | rfl | rfl | rfl | rfl <;> decide
  · have h : sign1 g = false := by simpa using h
    rw [oneV_none h, h]; rfl
theorem known2 (g : Int) : ((twoV g 0 0).2 != 1) = sign2 g := by
  by_cases h : sign2 g = true
  · rcases sign2_of h with rfl | rfl | rfl | rfl | rfl | rfl | rfl | rfl | rfl | rfl <;> decide
  · have h : sign2 g = false := by simpa using h
    rw [twoV_none h, h]; rfl
set_option maxHeartbeats 1000000 in
/-- knownToTwo. -/
theorem knownTwo_impl (g : Int) (w : World) :
    Calls Tryz.prog 45 #[.int .i64 g] w fun r w' => r = .returned (.bool (sign2 g)) ∧ Below w.heap.size w w' := by
  have K : Hid (((twoV g 0 0).2 != 1) = sign2 g) := known2 g
  have HV : Hid (∀ W, Calls Tryz.prog 60 #[.int .i64 g, .int .i64 0, .int .i64 0] W fun e w' => e = .returned (.tuple #[.int .i64 (twoV g 0 0).1, .int .i64 (twoV g 0 0).2]) ∧ Below W.heap.size W w') := fun W => two_impl g 0 0 W
  generalize (twoV g 0 0).1 = x at *
  generalize (twoV g 0 0).2 = y at *
  go_enter Tryz.func45, Tryz.ntmps45
  go_wp2_with fail
  refine (HV.out _).mono ?_
  rintro r w1 ⟨rfl, hb⟩
  have HB : Hid (Below w.heap.size w w1) := hb
  clear hb
  go_wp2
  go_ret
  exact ⟨by rw [← K.out]; rfl, HB.out⟩
set_option maxRecDepth 20000 in
set_option maxHeartbeats 1000000 in
/-- What EachTwo does at a place. -/
theorem does2_impl {g x y : Int} {w : World} {a : Option Addr} {q c : Nat} (h : Ints w a [x, y]) (hq : w.cell? ⟨q, 0, none⟩ = some (.int .i64 g)) :
    Calls Tryz.prog 59 #[.slice a 2 c, .pointer (some ⟨q, 0, none⟩)] w fun r w' => r = .returned (.tuple #[.int .i64 (twoV g x y).1, .int .i64 (twoV g x y).2]) ∧ Below w.heap.size w w' := by
  obtain ⟨b1, o1, rfl, hb1, c1⟩ := h.at (k := 0) (by simp)
  obtain ⟨b2, o2, e2, _, c2⟩ := h.at (k := 1) (by simp)
  cases e2
  have x0 : w.cell? ⟨b1, o1, none⟩ = some (.int .i64 x) := by simpa using c1
  have x1 : w.cell? ⟨b1, o1 + 1, none⟩ = some (.int .i64 y) := by simpa using c2
  have HV : Hid (∀ W, Calls Tryz.prog 60 #[.int .i64 g, .int .i64 x, .int .i64 y] W fun e w' => e = .returned (.tuple #[.int .i64 (twoV g x y).1, .int .i64 (twoV g x y).2]) ∧ Below W.heap.size W w') := fun W => two_impl g x y W
  clear c1 c2 h
  generalize (twoV g x y).1 = u at *
  generalize (twoV g x y).2 = z at *
  go_enter Tryz.func59, Tryz.ntmps59
  go_wp2
  first
    | go_region_with (go_at_call 60; refine (HV.out _).mono ?_; rintro r w1 ⟨rfl, hb⟩; have HB1 : Hid (Below w.heap.size w w1) := bTrans ((Below.refl w.heap.size w).drew) hb; clear hb)
    | fail "no"
  all_goals
    go_wp2
    go_ret2
    exact ⟨rfl, HB1.out⟩
end Go.Proofs.YtcpgdhffemecbaaGreat
namespace Go.Proofs.YtcpgdhffemecbaaGreat
open Go.RowKit
set_option linter.unusedVariables false
set_option linter.unusedSimpArgs false
theorem piece_setN {B C g c k n : Nat} {w : World} {l : List Int} (h : Piece B C w (.slice (some ⟨g, 0, none⟩) n c) l) (hl : l.length = n) (hk : k < n) (x : Int) : Piece B C (w.setCell ⟨g, k, none⟩ (.int .i64 x)) (.slice (some ⟨g, 0, none⟩) n c) (l.set k x) := by
  subst hl
  have := h.set hk x
  simpa using this
/-- What stands while eachPlace goes on: what was there, the list that is made, the numbers of a place. -/
structure PlaceAt (w wr : World) (n m : Nat) (l x : List Int) : Prop where
  below : Below w.heap.size w wr
  list : Piece w.heap.size (w.heap.size + 1) wr (.slice (some ⟨w.heap.size, 0, none⟩) n n) l
  nums : Piece (w.heap.size + 1) (w.heap.size + 2) wr (.slice (some ⟨w.heap.size + 1, 0, none⟩) m m) x
  size : w.heap.size + 2 ≤ wr.heap.size
  llen : l.length = n
  xlen : x.length = m
theorem PlaceAt.keep {w wr w' : World} {n m : Nat} {l x : List Int} (h : PlaceAt w wr n m l x) (hb : Below wr.heap.size wr w') : PlaceAt w w' n m l x :=
  ⟨h.below.trans (hb.mono h.below.size), h.list.keep hb, h.nums.keep hb, Nat.le_trans h.size hb.size, h.llen, h.xlen⟩
theorem PlaceAt.setX {w wr : World} {n m j : Nat} {l x : List Int} (h : PlaceAt w wr n m l x) (hj : j < m) (z : Int) : PlaceAt w (wr.setCell ⟨w.heap.size + 1, j, none⟩ (.int .i64 z)) n m l (x.set j z) :=
  ⟨below_setCell h.below (by omega) _ _, h.list.win (win_setCell _ _ _ _) (.inl (Nat.le_refl _)), piece_setN h.nums h.xlen hj z, by rw [size_setCell]; exact h.size, h.llen, by rw [List.length_set]; exact h.xlen⟩
theorem PlaceAt.setL {w wr : World} {n m j : Nat} {l x : List Int} (h : PlaceAt w wr n m l x) (hj : j < n) (z : Int) : PlaceAt w (wr.setCell ⟨w.heap.size, j, none⟩ (.int .i64 z)) n m (l.set j z) x :=
  ⟨below_setCell h.below (Nat.le_refl _) _ _, piece_setN h.list h.llen hj z, h.nums.win (win_setCell _ _ _ _) (.inr (Nat.le_refl _)), by rw [size_setCell]; exact h.size, by rw [List.length_set]; exact h.llen, h.xlen⟩
theorem PlaceAt.start (w : World) (n m : Nat) : PlaceAt w ((w.alloc (.cells (vals (List.replicate n 0)) 3)).alloc (.cells (vals (List.replicate m 0)) 3)) n m (List.replicate n 0) (List.replicate m 0) := by
  have p1 : Piece w.heap.size (w.heap.size + 1) (w.alloc (.cells (vals (List.replicate n 0)) 3)) (.slice (some ⟨w.heap.size, 0, none⟩) n n) (List.replicate n 0) := by
    have := OwnInts.piece (ownInts_new w (List.replicate n 0)) (B := w.heap.size) (C := w.heap.size + 1) (Nat.le_refl _) (Nat.lt_succ_self _) n
    simpa using this
  have p2 : Piece (w.heap.size + 1) (w.heap.size + 2) ((w.alloc (.cells (vals (List.replicate n 0)) 3)).alloc (.cells (vals (List.replicate m 0)) 3)) (.slice (some ⟨w.heap.size + 1, 0, none⟩) m m) (List.replicate m 0) := by
    have := OwnInts.piece (ownInts_new (w.alloc (.cells (vals (List.replicate n 0)) 3)) (List.replicate m 0)) (B := w.heap.size + 1) (C := w.heap.size + 2) (by simp) (by simp) m
    simpa using this
  exact ⟨bAlloc (bAlloc (Below.refl _ _) _) _, p1.keep (bAlloc (Below.refl _ _) _), p2, by simp, by simp, by simp⟩
/-- The numbers of a place. -/
def numsAt (F : List (List Int)) (m k : Nat) : List Int := (List.range m).map fun i => numOf (F.getD (2 * i) []) (F.getD (2 * i + 1) []) k
theorem numsAt_set {F : List (List Int)} {m k j : Nat} {x : List Int} (hx : ∀ q, q < j → x.getD q 0 = numOf (F.getD (2 * q) []) (F.getD (2 * q + 1) []) k) (hj : j < x.length) : ∀ q, q < j + 1 → (x.set j (numOf (F.getD (2 * j) []) (F.getD (2 * j + 1) []) k)).getD q 0 = numOf (F.getD (2 * q) []) (F.getD (2 * q + 1) []) k := by
  intro q hq
  by_cases e : q = j
  · subst e; simp [hj]
  · have := hx q (by omega)
    simp only [List.getD_eq_getElem?_getD] at this ⊢
    rw [List.getElem?_set_ne (by omega)]
    exact this
theorem numsAt_eq {F : List (List Int)} {m k : Nat} {x : List Int} (hl : x.length = m) (hx : ∀ q, q < m → x.getD q 0 = numOf (F.getD (2 * q) []) (F.getD (2 * q + 1) []) k) : x = numsAt F m k := by
  apply List.ext_getElem
  · simp [numsAt, hl]
  · intro q h1 h2
    have := hx q (by omega)
    simp only [numsAt, List.getElem_map, List.getElem_range]
    rw [← this]
    simp [h1]
/-- What eachPlace answers. -/
def placesC (V : Nat → Int × Int) (n : Nat) : Int := firstC (fun i => (V i).2) n
def placesD (V : Nat → Int × Int) (n : Nat) : List Int := if placesC V n = 0 then (List.range n).map (fun i => (V i).1) else []
set_option maxRecDepth 20000 in
set_option maxHeartbeats 4000000 in
/-- eachPlace. -/
theorem eachPlace_impl {F : List (List Int)} {V : Nat → Int × Int} {w : World} {f n m ca : Nat} {aa : Option Addr} {p : Value}
    (hE : ∀ (args : Array Value) (w : World), (callFunc f args).run Tryz.prog w = .ok (.enter f args) w) (hA : ArrsI w (.slice aa m ca) F) (hm : m ≤ 2) (hn : n ≤ 300) (hL : ∀ j, (F.getD j []).length ≤ 1048576)
    (hN : ∀ i, i < m → (F.getD (2 * i) [] = [] → 0 < (F.getD (2 * i + 1) []).length) ∧ (F.getD (2 * i) [] ≠ [] → n ≤ (F.getD (2 * i + 1) []).length))
    (hV : ∀ (W : World) (A k : Nat), k < n → Below w.heap.size w W → Ints W (some ⟨A, 0, none⟩) (numsAt F m k) → Calls Tryz.prog f #[.slice (some ⟨A, 0, none⟩) m m, p] W fun r W' => r = .returned (.tuple #[.int .i64 (V k).1, .int .i64 (V k).2]) ∧ Below W.heap.size W W') :
    Calls Tryz.prog 95 #[.int .i64 (n : Int), .func (.func f) #[] #[p], .slice aa m ca] w fun r w' => ∃ a' c', r = .returned (.tuple #[.slice a' (placesD V n).length c', .int .i64 (placesC V n)]) ∧ Piece w.heap.size w'.heap.size w' (.slice a' (placesD V n).length c') (placesD V n) ∧ Below w.heap.size w w' := by
  have HA : Hid (ArrsI w (.slice aa m ca) F) := hA
  have HL : Hid (∀ j, (F.getD j []).length ≤ 1048576) := hL
  have HN : Hid (∀ i, i < m → (F.getD (2 * i) [] = [] → 0 < (F.getD (2 * i + 1) []).length) ∧ (F.getD (2 * i) [] ≠ [] → n ≤ (F.getD (2 * i + 1) []).length)) := hN
  have HV : Hid (∀ (W : World) (A k : Nat), k < n → Below w.heap.size w W → Ints W (some ⟨A, 0, none⟩) (numsAt F m k) → Calls Tryz.prog f #[.slice (some ⟨A, 0, none⟩) m m, p] W fun r W' => r = .returned (.tuple #[.int .i64 (V k).1, .int .i64 (V k).2]) ∧ Below W.heap.size W W') := hV
  have hmk1 : ∀ w, (Instr.makeSlice 24 (.int .i64 (n : Int)) (.int .i64 (n : Int))).run Tryz.prog w = .ok (.slice (some ⟨w.heap.size, 0, none⟩) n n) (w.alloc (.cells (vals (List.replicate n 0)) 3)) := fun w => make_ints n (by omega) w
  have hmk2 : ∀ w, (Instr.makeSlice 24 (.int .i64 (m : Int)) (.int .i64 (m : Int))).run Tryz.prog w = .ok (.slice (some ⟨w.heap.size, 0, none⟩) m m) (w.alloc (.cells (vals (List.replicate m 0)) 3)) := fun w => make_ints m (by omega) w
  obtain ⟨C, hC⟩ : ∃ C, C = placesC V n := ⟨_, rfl⟩
  obtain ⟨D, hD⟩ : ∃ D, D = placesD V n := ⟨_, rfl⟩
  have HC : Hid (C = firstC (fun i => (V i).2) n) := hC
  have HBAD : Hid (C ≠ 0 → D = []) := fun h => by rw [hD]; unfold placesD; rw [if_neg (by rw [← hC]; exact h)]
  have HGOOD : Hid (C = 0 → D = (List.range n).map (fun i => (V i).1)) := fun h => by rw [hD]; unfold placesD; rw [if_pos (by rw [← hC]; exact h)]
  rw [← hC, ← hD]
  clear hA hL hN hV hC hD
  go_enter Tryz.func95, Tryz.ntmps95
  go_wp2
  generalize hW : (w.alloc (.cells (vals (List.replicate n 0)) 3)).alloc (.cells (vals (List.replicate m 0)) 3) = W0
  have P0 : Hid (PlaceAt w W0 n m (List.replicate n 0) (List.replicate m 0)) := by rw [← hW]; exact PlaceAt.start w n m
  clear hW hmk1 hmk2
  go_loopw [22] (fun i w' => ∃ (k : Nat) (l x : List Int), k ≤ n ∧ i = .int .i64 (k : Int) ∧ firstC (fun i => (V i).2) k = 0 ∧ l = setTo (fun i => (V i).1) (List.replicate n 0) k ∧ PlaceAt w w' n m l x) (fun i _ => n - (intOf i).toNat)
  case atStart => exact ⟨0, _, _, by omega, rfl, rfl, by rw [setTo_zero], P0.out⟩
  case round =>
    obtain ⟨k, l, x, hk, rfl, hf, hl, hP⟩ := hrel
    have HF : Hid (firstC (fun i => (V i).2) k = 0) := hf
    have HLL : Hid (l = setTo (fun i => (V i).1) (List.replicate n 0) k) := hl
    have HP : Hid (PlaceAt w wr n m l x) := hP
    clear hf hl hP P0
    by_cases hlt : (k : Int) < (n : Int)
    · go_wp2
      go_loopw [27] (fun i w' => ∃ (j : Nat) (x : List Int), j ≤ m ∧ i = .int .i64 (j : Int) ∧ (∀ q, q < j → x.getD q 0 = numOf (F.getD (2 * q) []) (F.getD (2 * q + 1) []) k) ∧ PlaceAt w w' n m l x) (fun i _ => m - (intOf i).toNat)
      case atStart => exact ⟨0, x, by omega, rfl, by intro q hq; omega, HP.out⟩
      case round =>
        obtain ⟨j, x1, hj, rfl, hx, hP⟩ := hrel
        have HX : Hid (∀ q, q < j → x1.getD q 0 = numOf (F.getD (2 * q) []) (F.getD (2 * q + 1) []) k) := hx
        have HP1 : Hid (PlaceAt w wr n m l x1) := hP
        clear hx hP HP
        by_cases hjm : (j : Int) < (m : Int)
        · obtain ⟨o, off, sx, sy, rfl, ho, p0, p1, i0, i1⟩ := (HA.out.keep HP1.out.below).at (k := j) (by omega)
          obtain ⟨ax, cx, rfl, gix, ix⟩ := i0
          obtain ⟨ay, cy, rfl, giy, iy⟩ := i1
          have A1 : Hid (ArrI wr (.agg #[.slice ax (F.getD (2 * j) []).length cx, .slice ay (F.getD (2 * j + 1) []).length cy]) (F.getD (2 * j) []) (F.getD (2 * j + 1) [])) := ⟨_, _, _, _, rfl, ix, iy, gix, giy⟩
          obtain ⟨q1, q2⟩ := HN.out j (by omega)
          have HF1 : Hid (∀ W, Below wr.heap.size wr W → Calls Tryz.prog 123 #[.agg #[.slice ax (F.getD (2 * j) []).length cx, .slice ay (F.getD (2 * j + 1) []).length cy], .int .i64 (k : Int)] W fun r w' => r = .returned (.int .i64 (numOf (F.getD (2 * j) []) (F.getD (2 * j + 1) []) k)) ∧ Below W.heap.size W w') := fun W h => numberFor_impl k (A1.out.keep h) q1 (fun h => Nat.lt_of_lt_of_le (by omega) (q2 h)) (HL.out _)
          have HX1 : Hid (∀ q, q < j + 1 → (x1.set j (numOf (F.getD (2 * j) []) (F.getD (2 * j + 1) []) k)).getD q 0 = numOf (F.getD (2 * q) []) (F.getD (2 * q + 1) []) k) := numsAt_set (m := m) HX.out (by rw [HP1.out.xlen]; omega)
          clear ix iy gix giy q1 q2
          generalize (F.getD (2 * j) []).length = ls at *
          generalize (F.getD (2 * j + 1) []).length = ld at *
          generalize numOf (F.getD (2 * j) []) (F.getD (2 * j + 1) []) k = z at *
          go_wp2_with fail
          refine (HF1.out _ (bAlloc (Below.refl _ _) _)).mono ?_
          rintro r w2 ⟨rfl, hb⟩
          have P2 : Hid (PlaceAt w w2 n m l x1) := HP1.out.keep (bTrans (bAlloc (Below.refl _ _) _) hb)
          obtain ⟨t1, t2, _, _, _⟩ := P2.out.nums.cellAt (k := j) (by rw [P2.out.xlen]; omega)
          rw [Nat.zero_add] at t1 t2
          clear hb
          generalize x1.getD j 0 = x2 at t1
          go_wp2
          go_roundw
          case rel => exact ⟨j + 1, _, by omega, by go_num, HX1.out, P2.out.setX (by omega) z⟩
          case measure => simp [intOf]; omega
        · obtain rfl : j = m := by omega
          have HX1 : Hid (x1 = numsAt F j k) := numsAt_eq HP1.out.xlen HX.out
          have HIN : Hid (Ints wr (some ⟨w.heap.size + 1, 0, none⟩) (numsAt F j k)) := by
            obtain ⟨a', c', e', i'⟩ := HP1.out.nums.ints
            cases e'
            rw [← HX1.out]; exact i'
          have HV1 : Hid (Calls Tryz.prog f #[.slice (some ⟨w.heap.size + 1, 0, none⟩) j j, p] wr fun r W' => r = .returned (.tuple #[.int .i64 (V k).1, .int .i64 (V k).2]) ∧ Below wr.heap.size wr W') := HV.out wr _ k (by omega) HP1.out.below HIN.out
          have E1 : Hid ((V k).2 = 0 → firstC (fun i => (V i).2) (k + 1) = 0) := fun h => firstC_go HF.out h
          have E2 : Hid ((V k).2 ≠ 0 → C = (V k).2) := fun h => by rw [HC.out]; exact firstC_stop HF.out h (by omega)
          have E3 : Hid (l.set k (V k).1 = setTo (fun i => (V i).1) (List.replicate n 0) (k + 1)) := by show _ = _; rw [HLL.out]; exact setTo_set (fun i => (V i).1) _ (by simp; omega)
          clear HX HX1 HIN
          generalize (V k).1 = y at *
          generalize (V k).2 = z at *
          by_cases h0 : z = 0
          · subst h0
            have E1' : Hid (firstC (fun i => (V i).2) (k + 1) = 0) := E1.out rfl
            go_wp2_with (go_at_fn f; refine HV1.out.mono ?_; rintro r w2 ⟨rfl, hb⟩; have P2 : Hid (PlaceAt w w2 n j l x1) := HP1.out.keep hb; obtain ⟨t1, t2, _, _, _⟩ := P2.out.list.cellAt (k := k) (by rw [P2.out.llen]; omega); rw [Nat.zero_add] at t1 t2; clear hb; generalize l.getD k 0 = x2 at t1)
            go_roundw
            case rel => exact ⟨k + 1, _, _, by omega, by go_num, E1'.out, E3.out, P2.out.setL (by omega) y⟩
            case measure => simp [intOf]; omega
          · have hne : (z != 0) = true := by simpa using h0
            have EC : Hid (C = z) := E2.out h0
            have ED : Hid (D = []) := HBAD.out (by rw [EC.out]; exact h0)
            clear h0
            go_wp2_with (go_at_fn f; refine HV1.out.mono ?_; rintro r w2 ⟨rfl, hb⟩; have B2 : Hid (Below w.heap.size w w2) := (HP1.out.keep hb).below; clear hb)
            go_ret2
            refine ⟨none, 0, by rw [EC.out, ED.out]; rfl, ?_, B2.out⟩
            rw [ED.out]; exact Piece.nil _ _ _
    · obtain rfl : k = n := by omega
      have EC : Hid (C = 0) := by show _ = _; rw [HC.out, HF.out]
      have ED : Hid (D = l) := by show _ = _; rw [HGOOD.out EC.out, HLL.out, setTo_all _ _ (by simp)]
      have EL : Hid (D.length = k) := by show _ = _; rw [ED.out]; exact HP.out.llen
      go_wp2
      go_ret2
      refine ⟨some ⟨w.heap.size, 0, none⟩, k, by rw [EC.out, EL.out]; rfl, ?_, HP.out.below⟩
      rw [EL.out, ED.out]
      exact HP.out.list.mono (Nat.le_refl _) (by have := HP.out.size; omega)
end Go.Proofs.YtcpgdhffemecbaaGreat
namespace Go.Proofs.YtcpgdhffemecbaaGreat
open Go.RowKit
set_option linter.unusedVariables false
set_option linter.unusedSimpArgs false
set_option maxRecDepth 20000 in
set_option maxHeartbeats 4000000 in
/-- filled. -/
theorem filled_impl {F : List (List Int)} {V : Nat → Int × Int} {w : World} {f n m ca B E sc : Nat} {aa sa : Option Addr} {p : Value} {S : List Int}
    (hE : ∀ (args : Array Value) (w : World), (callFunc f args).run Tryz.prog w = .ok (.enter f args) w) (hA : ArrsI w (.slice aa m ca) F) (hm : m ≤ 2) (hn : n ≤ 300) (hL : ∀ j, (F.getD j []).length ≤ 1048576)
    (hN : ∀ i, i < m → (F.getD (2 * i) [] = [] → 0 < (F.getD (2 * i + 1) []).length) ∧ (F.getD (2 * i) [] ≠ [] → n ≤ (F.getD (2 * i + 1) []).length))
    (hV : ∀ (W : World) (A k : Nat), k < n → Below w.heap.size w W → Ints W (some ⟨A, 0, none⟩) (numsAt F m k) → Calls Tryz.prog f #[.slice (some ⟨A, 0, none⟩) m m, p] W fun r W' => r = .returned (.tuple #[.int .i64 (V k).1, .int .i64 (V k).2]) ∧ Below W.heap.size W W')
    (hS : Piece B E w (.slice sa S.length sc) S) (hBE : B ≤ E) (hEw : E ≤ w.heap.size) (hz : sizeV S = (n : Int)) :
    Calls Tryz.prog 61 #[.slice sa S.length sc, .func (.func f) #[] #[p], .slice aa m ca] w fun r w' => ∃ v', r = .returned (.tuple #[v', .int .i64 (placesC V n)]) ∧ Arr B w'.heap.size w' v' (if placesC V n = 0 then S else []) (placesD V n) ∧ Below w.heap.size w w' := by
  have HI : Hid (Ints w sa S) := by
    obtain ⟨a', c', e', i'⟩ := hS.ints
    cases e'
    exact i'
  have HS : Hid (Piece B E w (.slice sa S.length sc) S) := hS
  have HSZ : Hid (∀ W, Ints W sa S → Calls Tryz.prog 62 #[.slice sa S.length sc] W fun e w' => e = .returned (.int .i64 (n : Int)) ∧ Below W.heap.size W w') := fun W h => by
    have := size_impl sc h
    rw [hz] at this
    exact this
  have HEP : Hid (∀ W, Below w.heap.size w W → Calls Tryz.prog 95 #[.int .i64 (n : Int), .func (.func f) #[] #[p], .slice aa m ca] W fun r w' => ∃ a' c', r = .returned (.tuple #[.slice a' (placesD V n).length c', .int .i64 (placesC V n)]) ∧ Piece W.heap.size w'.heap.size w' (.slice a' (placesD V n).length c') (placesD V n) ∧ Below W.heap.size W w') :=
    fun W h => eachPlace_impl hE (hA.keep h) hm hn hL hN (fun W' A k hk hb hi => hV W' A k hk (bTrans h hb) hi)
  have HBE : Hid (B ≤ E ∧ E ≤ w.heap.size) := ⟨hBE, hEw⟩
  have HD0 : Hid (placesC V n ≠ 0 → placesD V n = []) := fun h => by unfold placesD; rw [if_neg h]
  obtain ⟨S', hS'⟩ : ∃ S', S' = (if placesC V n = 0 then S else []) := ⟨_, rfl⟩
  have HS1 : Hid (placesC V n = 0 → S' = S) := fun h => by rw [hS', if_pos h]
  have HS2 : Hid (placesC V n ≠ 0 → S' = []) := fun h => by rw [hS', if_neg h]
  rw [← hS']
  clear hS'
  generalize placesC V n = C at *
  generalize placesD V n = D at *
  clear hE hA hm hn hL hN hV hS hBE hEw hz
  go_enter Tryz.func61, Tryz.ntmps61
  go_wp2_with fail
  refine (HSZ.out _ (HI.out.keep (bAlloc (Below.refl _ _) _))).mono ?_
  rintro r w1 ⟨rfl, hb⟩
  have HB1 : Hid (Below w.heap.size w w1) := bTrans (bAlloc (Below.refl _ _) _) hb
  have Y1 : Hid (Box w1 w.heap.size (.slice none 0 0) (.slice none 0 0) 26) := (box_new w _ _ _).keep hb
  clear hb
  go_wp2_with fail
  refine (HEP.out _ HB1.out).mono ?_
  rintro r w2 ⟨a2, c2, rfl, hp, hb⟩
  have HP2 : Hid (Piece w1.heap.size w2.heap.size w2 (.slice a2 D.length c2) D) := hp
  have HB2 : Hid (Below w.heap.size w w2) := bTrans HB1.out hb
  have Y2 : Hid (Box w2 w.heap.size (.slice none 0 0) (.slice none 0 0) 26) := Y1.out.keep hb
  have LT : Hid (w.heap.size < w1.heap.size) := Y1.out.lt
  have LT2 : Hid (w1.heap.size ≤ w2.heap.size) := hb.size
  clear hp hb Y1
  have y0 := Y2.out.c0
  have y1 := Y2.out.c1
  have f0 : w2.frozen? ⟨w.heap.size, 0, none⟩ = false := free_at Y2.out 0
  have f1 : w2.frozen? ⟨w.heap.size, 1, none⟩ = false := free_at Y2.out 1
  by_cases h0 : C = 0
  · have EC : Hid (S' = S) := HS1.out h0
    subst h0
    clear HS1 HS2 HD0
    have HR : Hid (((w2.setCell ⟨w.heap.size, 0, none⟩ (.slice sa S.length sc)).setCell ⟨w.heap.size, 1, none⟩ (.slice a2 D.length c2)).heap[w.heap.size]? = some (.cells #[.slice sa S.length sc, .slice a2 D.length c2] 26 (0, 0))) := arr_stored Y2.out
    go_wp2
    refine bodyPost_ret (results_arr_tmp Tryz.results61 _ _ w.heap.size _ _ rfl HR.out) rfl ?_
    refine ⟨_, rfl, ?_, below_setCell (below_setCell HB2.out (Nat.le_refl _) _ _) (Nat.le_refl _) _ _⟩
    rw [EC.out]
    have L1 := LT.out
    have L2 := LT2.out
    have L3 := HBE.out
    have p1 : Piece B E w2 (.slice sa S.length sc) S := HS.out.belowC HB2.out L3.2
    have p1' := (p1.win (win_setCell w2 w.heap.size 0 (.slice sa S.length sc)) (.inl L3.2)).win (win_setCell _ w.heap.size 1 (.slice a2 D.length c2)) (.inl L3.2)
    have p2' := (HP2.out.win (win_setCell w2 w.heap.size 0 (.slice sa S.length sc)) (.inr (by omega))).win (win_setCell _ w.heap.size 1 (.slice a2 D.length c2)) (.inr (by omega))
    exact ⟨_, _, rfl, p1'.mono (Nat.le_refl _) (by simp only [size_setCell]; omega), p2'.mono (by omega) (by simp only [size_setCell]; omega), p1'.apart p2' (.inl (by omega))⟩
  · have hne : (C != 0) = true := by simpa using h0
    have ED : Hid (D = []) := HD0.out h0
    have EC : Hid (S' = []) := HS2.out h0
    clear h0
    have HR : Hid (((w2.setCell ⟨w.heap.size, 0, none⟩ (.slice none 0 0)).setCell ⟨w.heap.size, 1, none⟩ (.slice none 0 0)).heap[w.heap.size]? = some (.cells #[.slice none 0 0, .slice none 0 0] 26 (0, 0))) := arr_stored Y2.out
    go_wp2
    refine bodyPost_ret (results_arr_tmp Tryz.results61 _ _ w.heap.size _ _ rfl HR.out) rfl ?_
    refine ⟨_, rfl, ?_, below_setCell (below_setCell HB2.out (Nat.le_refl _) _ _) (Nat.le_refl _) _ _⟩
    rw [EC.out, ED.out]
    exact arr_zero _ _ _
/-- A list of one array, of two, in a block of its own. -/
theorem arrs_one {W : World} {o : Nat} {x y : Value} {t : TypeId} {s d : List Int} (hb : Box W o x y t) (h : ArrI W (.agg #[x, y]) s d) : ArrsI W (.slice (some ⟨o, 0, none⟩) 1 1) [s, d] := by
  obtain ⟨a, c, b, e, e', i1, i2, g1, g2⟩ := h
  obtain ⟨rfl, rfl⟩ : x = .slice a s.length c ∧ y = .slice b d.length e := by cases e'; exact ⟨rfl, rfl⟩
  refine ⟨_, 1, 1, rfl, rfl, .inr ⟨o, 0, [.slice a s.length c, .slice b d.length e], rfl, hb.lt, rfl, fun j hj => ?_⟩⟩
  match j, hj with
  | 0, _ => exact ⟨hb.c0, a, c, rfl, g1, i1⟩
  | 1, _ => exact ⟨hb.c1, b, e, rfl, g2, i2⟩
theorem arrs_two {W : World} {o : Nat} {x y x' y' : Value} {t : TypeId} {s d s' d' : List Int} (hb : W.heap[o]? = some (.cells #[x, y, x', y'] t (0, 0))) (h : ArrI W (.agg #[x, y]) s d) (k : ArrI W (.agg #[x', y']) s' d') : ArrsI W (.slice (some ⟨o, 0, none⟩) 2 2) [s, d, s', d'] := by
  obtain ⟨a, c, b, e, e', i1, i2, g1, g2⟩ := h
  obtain ⟨rfl, rfl⟩ : x = .slice a s.length c ∧ y = .slice b d.length e := by cases e'; exact ⟨rfl, rfl⟩
  obtain ⟨a', c', b', f', e', i3, i4, g3, g4⟩ := k
  obtain ⟨rfl, rfl⟩ : x' = .slice a' s'.length c' ∧ y' = .slice b' d'.length f' := by cases e'; exact ⟨rfl, rfl⟩
  refine ⟨_, 2, 2, rfl, rfl, .inr ⟨o, 0, [.slice a s.length c, .slice b d.length e, .slice a' s'.length c', .slice b' d'.length f'], rfl, lt_of_heapA hb, rfl, fun j hj => ?_⟩⟩
  match j, hj with
  | 0, _ => exact ⟨cell_at hb rfl, a, c, rfl, g1, i1⟩
  | 1, _ => exact ⟨cell_at hb rfl, b, e, rfl, g2, i2⟩
  | 2, _ => exact ⟨cell_at hb rfl, a', c', rfl, g3, i3⟩
  | 3, _ => exact ⟨cell_at hb rfl, b', f', rfl, g4, i4⟩
theorem numsAt_one (s d : List Int) (k : Nat) : numsAt [s, d] 1 k = [numOf s d k] := rfl
theorem numsAt_two (s d s' d' : List Int) (k : Nat) : numsAt [s, d, s', d'] 2 k = [numOf s d k, numOf s' d' k] := rfl
theorem numOf_at {s d : List Int} (ho : arrOk s d = true) {k : Nat} (hk : k < d.length) : numOf s d k = d.getD k 0 := by
  unfold numOf
  by_cases e : s = []
  · subst e
    have z := arrOk_size ho
    rw [sizeV_0'] at z
    rw [if_pos rfl]
    have : k = 0 := by omega
    rw [this]
  · rw [if_neg e]
end Go.Proofs.YtcpgdhffemecbaaGreat
namespace Go.Proofs.YtcpgdhffemecbaaGreat
open Go.RowKit
open Go.ChangeMaps (setBlock)
set_option linter.unusedVariables false
set_option linter.unusedSimpArgs false
theorem laidOutE : laidOutB Tryz.prog = true := by kernel_rfl
theorem rowE : (96 : TypeId) < Tryz.prog.types.size := of_decide_eq_true (by kernel_rfl)
theorem wideE : (match Tryz.prog.underlying 96 with | some (.array _ _) | some (.struct _) => true | _ => false) = true := by rw [Tryz.underlying96]
set_option maxRecDepth 20000 in
theorem lawE : WideMaps.KeyLaw Tryz.prog 96 := deep_law_laid laidOutE (m := 3) (by omega) rowE (by kernel_rfl) wideE
/-- A shape by value is a key. -/
theorem keyE {n x y z : Int} (hn : (Lit.int .i64 n).wf = true) (hx : (Lit.int .i64 x).wf = true) (hy : (Lit.int .i64 y).wf = true) (hz : (Lit.int .i64 z).wf = true) :
    ∃ l, keyOf Tryz.prog 96 (.agg #[.int .i64 n, .int .i64 x, .int .i64 y, .int .i64 z]) = some l := by
  have hk : Tryz.prog.keyType 96 = true := by kernel_rfl
  have c4 : Tryz.prog.cellsOf 96 = 4 := by kernel_rfl
  have c3 : Tryz.prog.cellsOf 94 = 3 := by kernel_rfl
  have c1 : Tryz.prog.cellsOf 3 = 1 := by kernel_rfl
  obtain ⟨d, hd⟩ : ∃ d, Tryz.prog.types.size + 1 = d + 1 + 1 + 1 := ⟨Tryz.prog.types.size - 2, by have h : (96 : Nat) < Tryz.prog.types.size := rowE; omega⟩
  have r3 : List.range 3 = [0, 1, 2] := by decide
  have hl : Tryz.prog.keyLits (d + 1 + 1 + 1) 96 [.int .i64 n, .int .i64 x, .int .i64 y, .int .i64 z] = some [.int .i64 n, .int .i64 x, .int .i64 y, .int .i64 z] := by
    simp [Program.keyLits, Tryz.underlying96, Tryz.underlying94, Tryz.underlying3, c4, c3, c1, r3, hn, hx, hy, hz]
  refine ⟨.string (keyBytes [.int .i64 n, .int .i64 x, .int .i64 y, .int .i64 z]), ?_⟩
  have hf : (Value.agg #[.int .i64 n, .int .i64 x, .int .i64 y, .int .i64 z]).formed Tryz.prog 96 = true := by simp [Value.formed, Tryz.underlying96, c4]
  have e : keyOf Tryz.prog 96 (.agg #[.int .i64 n, .int .i64 x, .int .i64 y, .int .i64 z]) = if (Tryz.prog.keyType 96 && (Value.agg #[.int .i64 n, .int .i64 x, .int .i64 y, .int .i64 z]).formed Tryz.prog 96) = true then (Tryz.prog.keyLits (Tryz.prog.types.size + 1) 96 [.int .i64 n, .int .i64 x, .int .i64 y, .int .i64 z]).map fun ls => .string (keyBytes ls) else none := by
    unfold keyOf
    rw [Tryz.underlying96]
    rfl
  rw [e, hk, hf, hd, hl]
  rfl
theorem find_nil {w : World} {K1 : Value} {l1 : Lit} (h1 : keyOf Tryz.prog 96 K1 = some l1) : (Instr.findKey 96 K1 []).run Tryz.prog w = .ok none w := by
  rcases lawE.find w h1 [] (by simp) with ⟨h, _⟩ | ⟨j, e, _, h, _⟩
  · exact h
  · simp at h
theorem find_one {w : World} {K1 : Value} {l1 : Lit} (h1 : keyOf Tryz.prog 96 K1 = some l1) (v : Value) (s : Nat) : (Instr.findKey 96 K1 [⟨K1, v, s⟩]).run Tryz.prog w = .ok (some (0, v)) w := by
  rcases lawE.find w h1 [⟨K1, v, s⟩] (by simpa using ⟨l1, h1⟩) with ⟨_, h⟩ | ⟨j, e, h, he, _⟩
  · simp at h
  · match j, he with
    | 0, he => simp at he; subst he; exact h
theorem find_other {w : World} {K1 : Value} {K2 : Value} {l1 : Lit} {l2 : Lit} (h1 : keyOf Tryz.prog 96 K1 = some l1) (h2 : keyOf Tryz.prog 96 K2 = some l2) (hne : K1 ≠ K2) (v : Value) (s : Nat) : (Instr.findKey 96 K2 [⟨K1, v, s⟩]).run Tryz.prog w = .ok none w := by
  rcases lawE.find w h2 [⟨K1, v, s⟩] (by simpa using ⟨l1, h1⟩) with ⟨h, _⟩ | ⟨j, e, _, he, hk⟩
  · exact h
  · match j, he with
    | 0, he => simp at he; subst he; exact absurd hk hne
theorem find_two {w : World} {K1 : Value} {K2 : Value} {l1 : Lit} {l2 : Lit} (h1 : keyOf Tryz.prog 96 K1 = some l1) (h2 : keyOf Tryz.prog 96 K2 = some l2) (hne : K1 ≠ K2) (v u : Value) (s t : Nat) : (Instr.findKey 96 K2 [⟨K1, v, s⟩, ⟨K2, u, t⟩]).run Tryz.prog w = .ok (some (1, u)) w := by
  rcases lawE.find w h2 [⟨K1, v, s⟩, ⟨K2, u, t⟩] (by simpa using ⟨⟨l1, h1⟩, l2, h2⟩) with ⟨_, h⟩ | ⟨j, e, h, he, hk⟩
  · simp at h
  · match j, he with
    | 0, he => simp at he; subst he; exact absurd hk hne
    | 1, he => simp at he; subst he; exact h
theorem zeroI (w : World) : (zeroValue 3).run Tryz.prog w = .ok (.int .i64 0) w := by kernel_rfl
theorem look_0 {w : World} {K1 : Value} {l1 : Lit} {b : Nat} (hb : w.heap[b]? = some (.map #[] 0)) (h1 : keyOf Tryz.prog 96 K1 = some l1) :
    (Instr.lookup 126 (.map (some b)) K1 false).run Tryz.prog w = .ok (.int .i64 0) w := by
  simp [Instr.lookup, run_underlying Tryz.underlying126, MapKept.run_getObj_map hb, lawE.check w true h1, find_nil h1, zeroI, Result.andThen]
theorem look_1 {w : World} {K1 : Value} {l1 : Lit} {b : Nat} {v : Value} {s c : Nat} (hb : w.heap[b]? = some (.map #[⟨K1, v, s⟩] c)) (h1 : keyOf Tryz.prog 96 K1 = some l1) :
    (Instr.lookup 126 (.map (some b)) K1 false).run Tryz.prog w = .ok v w := by
  simp [Instr.lookup, run_underlying Tryz.underlying126, MapKept.run_getObj_map hb, lawE.check w false h1, find_one h1, Result.andThen]
theorem look_other {w : World} {K1 : Value} {K2 : Value} {l1 : Lit} {l2 : Lit} {b : Nat} {v : Value} {s c : Nat} (hb : w.heap[b]? = some (.map #[⟨K1, v, s⟩] c)) (h1 : keyOf Tryz.prog 96 K1 = some l1) (h2 : keyOf Tryz.prog 96 K2 = some l2) (hne : K1 ≠ K2) :
    (Instr.lookup 126 (.map (some b)) K2 false).run Tryz.prog w = .ok (.int .i64 0) w := by
  simp [Instr.lookup, run_underlying Tryz.underlying126, MapKept.run_getObj_map hb, lawE.check w false h2, find_other h1 h2 hne, zeroI, Result.andThen]
theorem look_2 {w : World} {K1 : Value} {K2 : Value} {l1 : Lit} {l2 : Lit} {b : Nat} {v u : Value} {s t c : Nat} (hb : w.heap[b]? = some (.map #[⟨K1, v, s⟩, ⟨K2, u, t⟩] c)) (h1 : keyOf Tryz.prog 96 K1 = some l1) (h2 : keyOf Tryz.prog 96 K2 = some l2) (hne : K1 ≠ K2) :
    (Instr.lookup 126 (.map (some b)) K2 false).run Tryz.prog w = .ok u w := by
  simp [Instr.lookup, run_underlying Tryz.underlying126, MapKept.run_getObj_map hb, lawE.check w false h2, find_two h1 h2 hne, Result.andThen]
theorem entry_0 {w : World} {K1 : Value} {l1 : Lit} {b : Nat} (hb : w.heap[b]? = some (.map #[] 0)) (h1 : keyOf Tryz.prog 96 K1 = some l1) :
    (Instr.mapEntry 126 (.map (some b)) K1).run Tryz.prog w = .ok (.tuple #[.int .i64 0, .int .i64 0]) (setBlock w b (.map #[⟨K1, .int .i64 0, 0⟩] 1)) := by
  simp [Instr.mapEntry, run_underlying Tryz.underlying126, MapKept.run_getObj_map hb, lawE.check w false h1, find_nil h1, zeroI, MapKept.run_setObj_map _ hb, Result.andThen, setBlock, goInt]
theorem entry_1 {w : World} {K1 : Value} {l1 : Lit} {b : Nat} {v : Value} {c : Nat} (hb : w.heap[b]? = some (.map #[⟨K1, v, 0⟩] c)) (h1 : keyOf Tryz.prog 96 K1 = some l1) :
    (Instr.mapEntry 126 (.map (some b)) K1).run Tryz.prog w = .ok (.tuple #[v, .int .i64 0]) (setBlock w b (.map #[⟨K1, v, 0⟩] c)) := by
  simp [Instr.mapEntry, run_underlying Tryz.underlying126, MapKept.run_getObj_map hb, lawE.check w false h1, find_one h1, lawE.stays w h1, MapKept.run_setObj_map _ hb, Result.andThen, setBlock, goInt]
theorem entry_other {w : World} {K1 : Value} {K2 : Value} {l1 : Lit} {l2 : Lit} {b : Nat} {v : Value} {s : Nat} (hb : w.heap[b]? = some (.map #[⟨K1, v, s⟩] 1)) (h1 : keyOf Tryz.prog 96 K1 = some l1) (h2 : keyOf Tryz.prog 96 K2 = some l2) (hne : K1 ≠ K2) :
    (Instr.mapEntry 126 (.map (some b)) K2).run Tryz.prog w = .ok (.tuple #[.int .i64 0, .int .i64 1]) (setBlock w b (.map #[⟨K1, v, s⟩, ⟨K2, .int .i64 0, 1⟩] 2)) := by
  simp [Instr.mapEntry, run_underlying Tryz.underlying126, MapKept.run_getObj_map hb, lawE.check w false h2, find_other h1 h2 hne, zeroI, MapKept.run_setObj_map _ hb, Result.andThen, setBlock, goInt]
theorem store_1 {w : World} {K1 : Value} {b : Nat} {v : Value} {c : Nat} (u : Value) (hb : w.heap[b]? = some (.map #[⟨K1, v, 0⟩] c)) :
    (Instr.entryStore 126 (.map (some b)) (.int .i64 0) u).run Tryz.prog w = .ok () (setBlock w b (.map #[⟨K1, u, 0⟩] c)) := by
  simp [Instr.entryStore, MapKept.run_getObj_map hb, asInt, asIntOf, MapKept.run_setObj_map _ hb, Result.andThen, setBlock]
theorem store_2 {w : World} {K1 : Value} {K2 : Value} {b : Nat} {v v' : Value} {c : Nat} (u : Value) (hb : w.heap[b]? = some (.map #[⟨K1, v, 0⟩, ⟨K2, v', 1⟩] c)) :
    (Instr.entryStore 126 (.map (some b)) (.int .i64 1) u).run Tryz.prog w = .ok () (setBlock w b (.map #[⟨K1, v, 0⟩, ⟨K2, u, 1⟩] c)) := by
  simp [Instr.entryStore, List.findIdx?_cons, MapKept.run_getObj_map hb, asInt, asIntOf, MapKept.run_setObj_map _ hb, Result.andThen, setBlock]
end Go.Proofs.YtcpgdhffemecbaaGreat
namespace Go.Proofs.YtcpgdhffemecbaaGreat
open Go.RowKit
open Go.ChangeMaps (setBlock)
set_option linter.unusedVariables false
set_option linter.unusedSimpArgs false
theorem setBlock_at {w : World} {b : Nat} {o : Obj} (h : b < w.heap.size) : (setBlock w b o).heap[b]? = some o := by simp [setBlock, h]
theorem setBlock_but (w : World) (b : Nat) (o : Obj) : But b w (setBlock w b o) :=
  ⟨rfl, rfl, rfl, by simp [setBlock], fun k _ hk => by simp only [setBlock]; rw [Array.getElem?_setIfInBounds_ne (Ne.symm hk)]⟩
theorem lt_of_heap {w : World} {b : Nat} {o : Obj} (h : w.heap[b]? = some o) : b < w.heap.size := (Array.getElem?_eq_some_iff.1 h).1
theorem setBlock_size (w : World) (b : Nat) (o : Obj) : (setBlock w b o).heap.size = w.heap.size := by simp [setBlock]
theorem step_first {K1 : Value} {l1 : Lit} {b : Nat} (W : World) (hm : W.heap[b]? = some (.map #[] 0)) (h1 : keyOf Tryz.prog 96 K1 = some l1) :
    ∃ W1 W2, (Instr.lookup 126 (.map (some b)) K1 false).run Tryz.prog W = .ok (.int .i64 0) W ∧ (Instr.mapEntry 126 (.map (some b)) K1).run Tryz.prog W = .ok (.tuple #[.int .i64 0, .int .i64 0]) W1 ∧
      (Instr.lookup 126 (.map (some b)) K1 false).run Tryz.prog W1 = .ok (.int .i64 0) W1 ∧ (Instr.entryStore 126 (.map (some b)) (.int .i64 0) (.int .i64 1)).run Tryz.prog W1 = .ok () W2 ∧
      W2.heap[b]? = some (.map #[⟨K1, .int .i64 1, 0⟩] 1) ∧ But b W W2 ∧ W2.heap.size = W.heap.size := by
  have hb := lt_of_heap hm
  have q : (setBlock W b (.map #[⟨K1, .int .i64 0, 0⟩] 1)).heap[b]? = some (.map #[⟨K1, .int .i64 0, 0⟩] 1) := setBlock_at hb
  refine ⟨_, _, look_0 hm h1, entry_0 hm h1, look_1 q h1, store_1 (.int .i64 1) q, setBlock_at (by rw [setBlock_size]; exact hb), (setBlock_but _ _ _).trans (setBlock_but _ _ _), by rw [setBlock_size, setBlock_size]⟩
theorem step_same {K1 : Value} {l1 : Lit} {b : Nat} (W : World) (hm : W.heap[b]? = some (.map #[⟨K1, .int .i64 1, 0⟩] 1)) (h1 : keyOf Tryz.prog 96 K1 = some l1) :
    ∃ W1 W2, (Instr.lookup 126 (.map (some b)) K1 false).run Tryz.prog W = .ok (.int .i64 1) W ∧ (Instr.mapEntry 126 (.map (some b)) K1).run Tryz.prog W = .ok (.tuple #[.int .i64 1, .int .i64 0]) W1 ∧
      (Instr.lookup 126 (.map (some b)) K1 false).run Tryz.prog W1 = .ok (.int .i64 1) W1 ∧ (Instr.entryStore 126 (.map (some b)) (.int .i64 0) (.int .i64 2)).run Tryz.prog W1 = .ok () W2 ∧
      W2.heap[b]? = some (.map #[⟨K1, .int .i64 2, 0⟩] 1) ∧ But b W W2 := by
  have hb := lt_of_heap hm
  have q : (setBlock W b (.map #[⟨K1, .int .i64 1, 0⟩] 1)).heap[b]? = some (.map #[⟨K1, .int .i64 1, 0⟩] 1) := setBlock_at hb
  exact ⟨_, _, look_1 hm h1, entry_1 hm h1, look_1 q h1, store_1 (.int .i64 2) q, setBlock_at (by rw [setBlock_size]; exact hb), (setBlock_but _ _ _).trans (setBlock_but _ _ _)⟩
theorem step_other {K1 : Value} {K2 : Value} {l1 : Lit} {l2 : Lit} {b : Nat} (W : World) (hm : W.heap[b]? = some (.map #[⟨K1, .int .i64 1, 0⟩] 1)) (h1 : keyOf Tryz.prog 96 K1 = some l1) (h2 : keyOf Tryz.prog 96 K2 = some l2) (hne : K1 ≠ K2) :
    ∃ W1 W2, (Instr.lookup 126 (.map (some b)) K2 false).run Tryz.prog W = .ok (.int .i64 0) W ∧ (Instr.mapEntry 126 (.map (some b)) K2).run Tryz.prog W = .ok (.tuple #[.int .i64 0, .int .i64 1]) W1 ∧
      (Instr.lookup 126 (.map (some b)) K2 false).run Tryz.prog W1 = .ok (.int .i64 0) W1 ∧ (Instr.entryStore 126 (.map (some b)) (.int .i64 1) (.int .i64 1)).run Tryz.prog W1 = .ok () W2 ∧
      W2.heap[b]? = some (.map #[⟨K1, .int .i64 1, 0⟩, ⟨K2, .int .i64 1, 1⟩] 2) ∧ But b W W2 := by
  have hb := lt_of_heap hm
  have q : (setBlock W b (.map #[⟨K1, .int .i64 1, 0⟩, ⟨K2, .int .i64 0, 1⟩] 2)).heap[b]? = some (.map #[⟨K1, .int .i64 1, 0⟩, ⟨K2, .int .i64 0, 1⟩] 2) := setBlock_at hb
  exact ⟨_, _, look_other hm h1 h2 hne, entry_other hm h1 h2 hne, look_2 q h1 h2 hne, store_2 (.int .i64 1) q, setBlock_at (by rw [setBlock_size]; exact hb), (setBlock_but _ _ _).trans (setBlock_but _ _ _)⟩
theorem len_map {b : Nat} {W : World} {es : Array MapEntry} {c : Nat} (ty : TypeId) (hm : W.heap[b]? = some (.map es c)) : (Builtin.len_ #[126] ty #[.map (some b)]).run Tryz.prog W = .ok (.int .i64 es.size) W := by
  simp [Builtin.len_, Builtin.lenOf, MapKept.run_getObj_map hm, run_underlying Tryz.underlying126, goInt, Result.andThen]
set_option maxRecDepth 20000 in
set_option maxHeartbeats 4000000 in
theorem alike_one (n x y z : Int) (g : Nat) (w : World) (l1 : Lit)
    (h1 : keyOf Tryz.prog 96 (.agg #[.int .i64 n, .int .i64 x, .int .i64 y, .int .i64 z]) = some l1)
    (hg : g < w.heap.size)
    (c0 : w.cell? ⟨g, 0, none⟩ = some (.int .i64 n)) (c1 : w.cell? ⟨g, 1, none⟩ = some (.int .i64 x)) (c2 : w.cell? ⟨g, 2, none⟩ = some (.int .i64 y)) (c3 : w.cell? ⟨g, 3, none⟩ = some (.int .i64 z)) (c4 : w.cell? ⟨g, 4, none⟩ = some (.int .i64 n)) (c5 : w.cell? ⟨g, 5, none⟩ = some (.int .i64 x)) (c6 : w.cell? ⟨g, 6, none⟩ = some (.int .i64 y)) (c7 : w.cell? ⟨g, 7, none⟩ = some (.int .i64 z)) :
    Calls Tryz.prog 112 #[.slice (some ⟨g, 0, none⟩) 2 2] w fun e w' => e = .returned (.bool true) ∧ Below w.heap.size w w' := by
  have K1 : Hid (keyOf Tryz.prog 96 (.agg #[.int .i64 n, .int .i64 x, .int .i64 y, .int .i64 z]) = some l1) := h1
  clear h1
  have hmm := @run_makeMap Tryz.prog
  go_enter Tryz.func112, Tryz.ntmps112
  go_wp2
  refine wp_loop_rounds 3 ?_
  rw [rounds_succ]
  go_wp2
  generalize hW : World.alloc (World.alloc w (.map #[] 0)) (.cells #[.int .i64 n, .int .i64 x, .int .i64 y, .int .i64 z] 96) = W
  have HB : Hid (Below w.heap.size w W) := by rw [← hW]; exact bAlloc (bAlloc (Below.refl _ _) _) _
  have hm : W.heap[w.heap.size]? = some (.map #[] 0) := by rw [← hW]; exact heap_alloc2_old w _ _
  have e0 : W.cell? ⟨w.heap.size + 1, 0, none⟩ = some (.int .i64 n) := by rw [← hW]; simp
  have e1 : W.cell? ⟨w.heap.size + 1, 1, none⟩ = some (.int .i64 x) := by rw [← hW]; simp
  have e2 : W.cell? ⟨w.heap.size + 1, 2, none⟩ = some (.int .i64 y) := by rw [← hW]; simp
  have e3 : W.cell? ⟨w.heap.size + 1, 3, none⟩ = some (.int .i64 z) := by rw [← hW]; simp
  clear hW
  obtain ⟨W1, W2, f1, f2, f3, f4, m2, hbut, hsz⟩ := step_first (b := w.heap.size) W.drew hm K1.out
  have M2 : Hid (W2.heap[w.heap.size]? = some (.map #[⟨.agg #[.int .i64 n, .int .i64 x, .int .i64 y, .int .i64 z], .int .i64 1, 0⟩] 1)) := m2
  have HB2 : Hid (Below w.heap.size w W2) := (HB.out.drew).trans (hbut.below (Nat.le_refl _) HB.out.size)
  clear m2 hbut hsz
  go_region
  clear f1 f2 f3 f4 hm e0 e1 e2 e3 c0 c1 c2 c3
  clear W1 HB W
  have d4 : W2.cell? ⟨g, 4, none⟩ = some (.int .i64 n) := by rw [HB2.out.cell (p := ⟨g, 4, none⟩) hg]; exact c4
  have d5 : W2.cell? ⟨g, 5, none⟩ = some (.int .i64 x) := by rw [HB2.out.cell (p := ⟨g, 5, none⟩) hg]; exact c5
  have d6 : W2.cell? ⟨g, 6, none⟩ = some (.int .i64 y) := by rw [HB2.out.cell (p := ⟨g, 6, none⟩) hg]; exact c6
  have d7 : W2.cell? ⟨g, 7, none⟩ = some (.int .i64 z) := by rw [HB2.out.cell (p := ⟨g, 7, none⟩) hg]; exact c7
  clear c4 c5 c6 c7
  go_wp2
  rw [rounds_succ]
  go_wp2
  generalize hW : World.alloc W2 (.cells #[.int .i64 n, .int .i64 x, .int .i64 y, .int .i64 z] 96) = W
  have HB : Hid (Below w.heap.size w W) := by rw [← hW]; exact bAlloc HB2.out _
  have hm : W.heap[w.heap.size]? = some (.map #[⟨.agg #[.int .i64 n, .int .i64 x, .int .i64 y, .int .i64 z], .int .i64 1, 0⟩] 1) := by rw [← hW, heap_alloc_old _ _ (lt_of_heap M2.out)]; exact M2.out
  have e0 : W.cell? ⟨W2.heap.size, 0, none⟩ = some (.int .i64 n) := by rw [← hW]; exact cell_new _ _ _ rfl
  have e1 : W.cell? ⟨W2.heap.size, 1, none⟩ = some (.int .i64 x) := by rw [← hW]; exact cell_new _ _ _ rfl
  have e2 : W.cell? ⟨W2.heap.size, 2, none⟩ = some (.int .i64 y) := by rw [← hW]; exact cell_new _ _ _ rfl
  have e3 : W.cell? ⟨W2.heap.size, 3, none⟩ = some (.int .i64 z) := by rw [← hW]; exact cell_new _ _ _ rfl
  clear hW d4 d5 d6 d7
  obtain ⟨W3, W4, f1, f2, f3, f4, m4, hbut⟩ := step_same (b := w.heap.size) W.drew hm K1.out
  have HB4 : Hid (Below w.heap.size w W4) := (HB.out.drew).trans (hbut.below (Nat.le_refl _) HB.out.size)
  have hlen : ∀ ty, (Builtin.len_ #[126] ty #[.map (some w.heap.size)]).run Tryz.prog W4 = .ok (.int .i64 1) W4 := fun ty => len_map ty m4
  clear m4 hbut
  go_region
  clear f1 f2 f3 f4 hm e0 e1 e2 e3
  go_wp2
  rw [rounds_succ]
  go_wp2
  go_ret
  exact ⟨rfl, HB4.out⟩
set_option maxRecDepth 20000 in
set_option maxHeartbeats 4000000 in
theorem alike_two (n x y z n' x' y' z' : Int) (g : Nat) (w : World) (l1 l2 : Lit)
    (h1 : keyOf Tryz.prog 96 (.agg #[.int .i64 n, .int .i64 x, .int .i64 y, .int .i64 z]) = some l1) (h2 : keyOf Tryz.prog 96 (.agg #[.int .i64 n', .int .i64 x', .int .i64 y', .int .i64 z']) = some l2)
    (hg : g < w.heap.size)
    (c0 : w.cell? ⟨g, 0, none⟩ = some (.int .i64 n)) (c1 : w.cell? ⟨g, 1, none⟩ = some (.int .i64 x)) (c2 : w.cell? ⟨g, 2, none⟩ = some (.int .i64 y)) (c3 : w.cell? ⟨g, 3, none⟩ = some (.int .i64 z)) (c4 : w.cell? ⟨g, 4, none⟩ = some (.int .i64 n')) (c5 : w.cell? ⟨g, 5, none⟩ = some (.int .i64 x')) (c6 : w.cell? ⟨g, 6, none⟩ = some (.int .i64 y')) (c7 : w.cell? ⟨g, 7, none⟩ = some (.int .i64 z'))
    (hne : (Value.agg #[.int .i64 n, .int .i64 x, .int .i64 y, .int .i64 z]) ≠ .agg #[.int .i64 n', .int .i64 x', .int .i64 y', .int .i64 z']) :
    Calls Tryz.prog 112 #[.slice (some ⟨g, 0, none⟩) 2 2] w fun e w' => e = .returned (.bool false) ∧ Below w.heap.size w w' := by
  have K1 : Hid (keyOf Tryz.prog 96 (.agg #[.int .i64 n, .int .i64 x, .int .i64 y, .int .i64 z]) = some l1) := h1
  have K2 : Hid (keyOf Tryz.prog 96 (.agg #[.int .i64 n', .int .i64 x', .int .i64 y', .int .i64 z']) = some l2) := h2
  have NE : Hid ((Value.agg #[.int .i64 n, .int .i64 x, .int .i64 y, .int .i64 z]) ≠ .agg #[.int .i64 n', .int .i64 x', .int .i64 y', .int .i64 z']) := hne
  clear h1 h2 hne
  have hmm := @run_makeMap Tryz.prog
  go_enter Tryz.func112, Tryz.ntmps112
  go_wp2
  refine wp_loop_rounds 3 ?_
  rw [rounds_succ]
  go_wp2
  generalize hW : World.alloc (World.alloc w (.map #[] 0)) (.cells #[.int .i64 n, .int .i64 x, .int .i64 y, .int .i64 z] 96) = W
  have HB : Hid (Below w.heap.size w W) := by rw [← hW]; exact bAlloc (bAlloc (Below.refl _ _) _) _
  have hm : W.heap[w.heap.size]? = some (.map #[] 0) := by rw [← hW]; exact heap_alloc2_old w _ _
  have e0 : W.cell? ⟨w.heap.size + 1, 0, none⟩ = some (.int .i64 n) := by rw [← hW]; simp
  have e1 : W.cell? ⟨w.heap.size + 1, 1, none⟩ = some (.int .i64 x) := by rw [← hW]; simp
  have e2 : W.cell? ⟨w.heap.size + 1, 2, none⟩ = some (.int .i64 y) := by rw [← hW]; simp
  have e3 : W.cell? ⟨w.heap.size + 1, 3, none⟩ = some (.int .i64 z) := by rw [← hW]; simp
  clear hW
  obtain ⟨W1, W2, f1, f2, f3, f4, m2, hbut, hsz⟩ := step_first (b := w.heap.size) W.drew hm K1.out
  have M2 : Hid (W2.heap[w.heap.size]? = some (.map #[⟨.agg #[.int .i64 n, .int .i64 x, .int .i64 y, .int .i64 z], .int .i64 1, 0⟩] 1)) := m2
  have HB2 : Hid (Below w.heap.size w W2) := (HB.out.drew).trans (hbut.below (Nat.le_refl _) HB.out.size)
  clear m2 hbut hsz
  go_region
  clear f1 f2 f3 f4 hm e0 e1 e2 e3 c0 c1 c2 c3
  clear W1 HB W
  have d4 : W2.cell? ⟨g, 4, none⟩ = some (.int .i64 n') := by rw [HB2.out.cell (p := ⟨g, 4, none⟩) hg]; exact c4
  have d5 : W2.cell? ⟨g, 5, none⟩ = some (.int .i64 x') := by rw [HB2.out.cell (p := ⟨g, 5, none⟩) hg]; exact c5
  have d6 : W2.cell? ⟨g, 6, none⟩ = some (.int .i64 y') := by rw [HB2.out.cell (p := ⟨g, 6, none⟩) hg]; exact c6
  have d7 : W2.cell? ⟨g, 7, none⟩ = some (.int .i64 z') := by rw [HB2.out.cell (p := ⟨g, 7, none⟩) hg]; exact c7
  clear c4 c5 c6 c7
  go_wp2
  rw [rounds_succ]
  go_wp2
  generalize hW : World.alloc W2 (.cells #[.int .i64 n', .int .i64 x', .int .i64 y', .int .i64 z'] 96) = W
  have HB : Hid (Below w.heap.size w W) := by rw [← hW]; exact bAlloc HB2.out _
  have hm : W.heap[w.heap.size]? = some (.map #[⟨.agg #[.int .i64 n, .int .i64 x, .int .i64 y, .int .i64 z], .int .i64 1, 0⟩] 1) := by rw [← hW, heap_alloc_old _ _ (lt_of_heap M2.out)]; exact M2.out
  have e0 : W.cell? ⟨W2.heap.size, 0, none⟩ = some (.int .i64 n') := by rw [← hW]; exact cell_new _ _ _ rfl
  have e1 : W.cell? ⟨W2.heap.size, 1, none⟩ = some (.int .i64 x') := by rw [← hW]; exact cell_new _ _ _ rfl
  have e2 : W.cell? ⟨W2.heap.size, 2, none⟩ = some (.int .i64 y') := by rw [← hW]; exact cell_new _ _ _ rfl
  have e3 : W.cell? ⟨W2.heap.size, 3, none⟩ = some (.int .i64 z') := by rw [← hW]; exact cell_new _ _ _ rfl
  clear hW d4 d5 d6 d7
  obtain ⟨W3, W4, f1, f2, f3, f4, m4, hbut⟩ := step_other (b := w.heap.size) W.drew hm K1.out K2.out NE.out
  have HB4 : Hid (Below w.heap.size w W4) := (HB.out.drew).trans (hbut.below (Nat.le_refl _) HB.out.size)
  have hlen : ∀ ty, (Builtin.len_ #[126] ty #[.map (some w.heap.size)]).run Tryz.prog W4 = .ok (.int .i64 2) W4 := fun ty => len_map ty m4
  clear m4 hbut
  go_region
  clear f1 f2 f3 f4 hm e0 e1 e2 e3
  go_wp2
  rw [rounds_succ]
  go_wp2
  go_ret
  exact ⟨rfl, HB4.out⟩
end Go.Proofs.YtcpgdhffemecbaaGreat
namespace Go.Proofs.YtcpgdhffemecbaaGreat
open Go.RowKit
set_option linter.unusedVariables false
theorem ext_eq {l m : List Int} {n n' : Nat} {x y z x' y' z' : Int} (h1 : Ext l n x y z) (h2 : Ext m n' x' y' z') (k1 : l.length ≤ 3) (k2 : m.length ≤ 3) (e : (n : Int) = n' ∧ x = x' ∧ y = y' ∧ z = z') : l = m := by
  obtain ⟨rfl, rfl, rfl, rfl⟩ := h1
  obtain ⟨rfl, rfl, rfl, rfl⟩ := h2
  obtain ⟨e0, e1, e2, e3⟩ := e
  have e0 : l.length = m.length := by omega
  apply List.ext_getElem e0
  intro i a b
  have : i = 0 ∨ i = 1 ∨ i = 2 := by omega
  rcases this with rfl | rfl | rfl
  · simpa [a, b] using e1
  · simpa [a, b] using e2
  · simpa [a, b] using e3
theorem ext_wf {l : List Int} {n : Nat} {x y z : Int} (hs : 0 ≤ sizeV l) (he : Ext l n x y z) : (Lit.int .i64 (n : Int)).wf = true ∧ (Lit.int .i64 x).wf = true ∧ (Lit.int .i64 y).wf = true ∧ (Lit.int .i64 z).wf = true := by
  obtain ⟨rfl, rfl, rfl, rfl⟩ := he
  obtain ⟨k1, k2, k3, k4⟩ := sizeV_ok hs
  have d : ∀ k, 0 ≤ l.getD k 0 ∧ l.getD k 0 ≤ 300 := by
    intro k
    by_cases hk : k < l.length
    · rw [List.all_eq_true] at k2
      exact dimOk_bd (k2 _ (by simp [hk]))
    · simp [List.getD, List.getElem?_eq_none (Nat.le_of_not_lt hk)]
  have d0 := d 0
  have d1 := d 1
  have d2 := d 2
  exact ⟨WalkArith.wf_i64 (by omega), WalkArith.wf_i64 (by omega), WalkArith.wf_i64 (by omega), WalkArith.wf_i64 (by omega)⟩
/-- Whether two shapes by value are one. -/
theorem alike_ext {l m : List Int} {n n' : Nat} {x y z x' y' z' : Int} (hs : 0 ≤ sizeV l) (ht : 0 ≤ sizeV m) (h1 : Ext l n x y z) (h2 : Ext m n' x' y' z') (g : Nat) (w : World) (hg : g < w.heap.size)
    (c0 : w.cell? ⟨g, 0, none⟩ = some (.int .i64 n)) (c1 : w.cell? ⟨g, 1, none⟩ = some (.int .i64 x)) (c2 : w.cell? ⟨g, 2, none⟩ = some (.int .i64 y)) (c3 : w.cell? ⟨g, 3, none⟩ = some (.int .i64 z))
    (c4 : w.cell? ⟨g, 4, none⟩ = some (.int .i64 n')) (c5 : w.cell? ⟨g, 5, none⟩ = some (.int .i64 x')) (c6 : w.cell? ⟨g, 6, none⟩ = some (.int .i64 y')) (c7 : w.cell? ⟨g, 7, none⟩ = some (.int .i64 z')) :
    Calls Tryz.prog 112 #[.slice (some ⟨g, 0, none⟩) 2 2] w fun e w' => e = .returned (.bool (decide (l = m))) ∧ Below w.heap.size w w' := by
  obtain ⟨a0, a1, a2, a3⟩ := ext_wf hs h1
  obtain ⟨b0, b1, b2, b3⟩ := ext_wf ht h2
  obtain ⟨l1, k1⟩ := keyE a0 a1 a2 a3
  obtain ⟨l2, k2⟩ := keyE b0 b1 b2 b3
  by_cases e : (n : Int) = n' ∧ x = x' ∧ y = y' ∧ z = z'
  · have q := ext_eq h1 h2 (sizeV_ok hs).1 (sizeV_ok ht).1 e
    obtain ⟨e0, rfl, rfl, rfl⟩ := e
    rw [show decide (l = m) = true by simpa using q]
    rw [← e0] at c4
    exact alike_one n x y z g w l1 k1 hg c0 c1 c2 c3 c4 c5 c6 c7
  · have q : ¬ l = m := by
      rintro rfl
      obtain ⟨rfl, rfl, rfl, rfl⟩ := h1
      obtain ⟨rfl, rfl, rfl, rfl⟩ := h2
      exact e ⟨rfl, rfl, rfl, rfl⟩
    rw [show decide (l = m) = false by simpa using q]
    exact alike_two n x y z n' x' y' z' g w l1 l2 k1 k2 hg c0 c1 c2 c3 c4 c5 c6 c7 (by
      intro h
      simp at h
      exact e ⟨by omega, h.2⟩)
set_option maxRecDepth 20000 in
set_option maxHeartbeats 2000000 in
/-- ShapeSame, whatever lists it is given. -/
theorem same_impl {l m : List Int} {a b : Option Addr} {w : World} (c d : Nat) (h1 : Ints w a l) (h2 : Ints w b m) :
    Calls Tryz.prog 91 #[.slice a l.length c, .slice b m.length d] w fun e w' => e = .returned (.bool (decide (0 ≤ sizeV l) && decide (l = m))) ∧ Below w.heap.size w w' := by
  have H1 : Hid (Ints w a l) := h1
  have H2 : Hid (Ints w b m) := h2
  clear h1 h2
  by_cases hs : 0 ≤ sizeV l
  · have hs' : decide (0 ≤ sizeV l) = true := by simpa using hs
    have HS : Hid (0 ≤ sizeV l) := hs
    by_cases ht : 0 ≤ sizeV m
    · have ht' : decide (0 ≤ sizeV m) = true := by simpa using ht
      have HT : Hid (0 ≤ sizeV m) := ht
      clear hs ht
      generalize hq : decide (l = m) = q
      have HQ : Hid (decide (l = m) = q) := hq
      clear hq
      go_enter Tryz.func91, Tryz.ntmps91
      go_wp2_with fail
      refine (ext_impl _ H1.out).mono ?_
      rintro e w1 ⟨n, x, y, z, rfl, he, hb⟩
      have HE : Hid (Ext l n x y z) := he HS.out
      have HB : Hid (Below w.heap.size w w1) := hb
      clear he hb
      go_wp2_with fail
      refine (ext_impl _ ((H2.out.keep HB.out).alloc _)).mono ?_
      rintro e w2 ⟨n', x', y', z', rfl, he, hb⟩
      have HE2 : Hid (Ext m n' x' y' z') := he HT.out
      have HB2 : Hid (Below w.heap.size w w2) := bTrans (bAlloc HB.out _) hb
      have r0 : ∀ o : Obj, (w2.alloc o).cell? ⟨w1.heap.size, 0, none⟩ = some (.int .i64 n) := fun o => by rw [(bAlloc hb o).cell (p := ⟨w1.heap.size, 0, none⟩) (by simp)]; exact cell_new _ _ _ rfl
      have r1 : ∀ o : Obj, (w2.alloc o).cell? ⟨w1.heap.size, 1, none⟩ = some (.int .i64 x) := fun o => by rw [(bAlloc hb o).cell (p := ⟨w1.heap.size, 1, none⟩) (by simp)]; exact cell_new _ _ _ rfl
      have r2 : ∀ o : Obj, (w2.alloc o).cell? ⟨w1.heap.size, 2, none⟩ = some (.int .i64 y) := fun o => by rw [(bAlloc hb o).cell (p := ⟨w1.heap.size, 2, none⟩) (by simp)]; exact cell_new _ _ _ rfl
      have r3 : ∀ o : Obj, (w2.alloc o).cell? ⟨w1.heap.size, 3, none⟩ = some (.int .i64 z) := fun o => by rw [(bAlloc hb o).cell (p := ⟨w1.heap.size, 3, none⟩) (by simp)]; exact cell_new _ _ _ rfl
      clear he hb
      go_wp2_with fail
      refine (alike_ext HS.out HT.out HE.out HE2.out (w2.heap.size + 1) _ (by simp) (by simp) (by simp) (by simp) (by simp) (by simp) (by simp) (by simp) (by simp)).mono ?_
      rintro e w3 ⟨rfl, hb⟩
      have HB3 : Hid (Below w.heap.size w w3) := bTrans (bAlloc (bAlloc HB2.out _) _) hb
      clear hb
      rw [HQ.out]
      go_wp2
      go_ret
      exact ⟨by simp [hs'], HB3.out⟩
    · have ht' : decide (0 ≤ sizeV m) = false := by simpa using ht
      have hne : l ≠ m := fun e => ht (e ▸ hs)
      have HN : Hid (l ≠ m) := hne
      clear hs ht hne
      go_enter Tryz.func91, Tryz.ntmps91
      go_wp2_with fail
      refine (ext_impl _ H1.out).mono ?_
      rintro e w1 ⟨n, x, y, z, rfl, he, hb⟩
      have HB : Hid (Below w.heap.size w w1) := hb
      clear he hb
      go_wp2_with fail
      refine (ext_impl _ ((H2.out.keep HB.out).alloc _)).mono ?_
      rintro e w2 ⟨n', x', y', z', rfl, he, hb⟩
      have HB2 : Hid (Below w.heap.size w w2) := bTrans (bAlloc HB.out _) hb
      clear he hb
      go_wp2
      go_ret
      exact ⟨by simp [HN.out], bAlloc HB2.out _⟩
  · have hs' : decide (0 ≤ sizeV l) = false := by simpa using hs
    clear hs
    go_enter Tryz.func91, Tryz.ntmps91
    go_wp2_with fail
    refine (ext_impl _ H1.out).mono ?_
    rintro e w1 ⟨n, x, y, z, rfl, he, hb⟩
    have HB : Hid (Below w.heap.size w w1) := hb
    clear he hb
    go_wp2_with fail
    refine (ext_impl _ ((H2.out.keep HB.out).alloc _)).mono ?_
    rintro e w2 ⟨n', x', y', z', rfl, he, hb⟩
    have HB2 : Hid (Below w.heap.size w w2) := bTrans (bAlloc HB.out _) hb
    clear he hb
    generalize decide (0 ≤ sizeV m) = q
    go_wp2
    go_ret
    exact ⟨by simp [hs'], bAlloc HB2.out _⟩
end Go.Proofs.YtcpgdhffemecbaaGreat
namespace Go.Proofs.YtcpgdhffemecbaaGreat
open Go.RowKit
set_option linter.unusedVariables false
set_option linter.unusedSimpArgs false
theorem fitC_no {s d t e : List Int} (h : ¬ (arrOk s d = true ∧ arrOk t e = true)) : fitC s d t e = 1 := by unfold fitC; rw [if_neg h]
set_option maxRecDepth 20000 in
set_option maxHeartbeats 4000000 in
/-- Fit. -/
theorem fit_impl {s d t e : List Int} {w : World} {v u : Value} (h : ArrI w v s d) (k : ArrI w u t e) (hs : s.length ≤ 1048576) (hd : d.length ≤ 1048576) (ht : t.length ≤ 1048576) (he : e.length ≤ 1048576) :
    Calls Tryz.prog 58 #[v, u] w fun r w' => ∃ v', r = .returned (.tuple #[v', .int .i64 (fitC s d t e)]) ∧ Piece w.heap.size w'.heap.size w' v' (fitS s d t e) ∧ Below w.heap.size w w' := by
  have H : Hid (ArrI w v s d) := h
  have K : Hid (ArrI w u t e) := k
  obtain ⟨a, c, b, f, rfl, h1, h2, g1, g2⟩ := h
  obtain ⟨a', c', b', f', rfl, k1, k2, g3, g4⟩ := k
  have H1 : Hid (IntsI w (.slice a s.length c) s) := ⟨a, c, rfl, g1, h1⟩
  have K1 : Hid (IntsI w (.slice a' t.length c') t) := ⟨a', c', rfl, g3, k1⟩
  have I1 : Hid (Ints w a s) := h1
  have I2 : Hid (Ints w a' t) := k1
  have HS : Hid (s.length ≤ 1048576) := hs
  have HD : Hid (d.length ≤ 1048576) := hd
  have HT : Hid (t.length ≤ 1048576) := ht
  have HE : Hid (e.length ≤ 1048576) := he
  clear h1 h2 k1 k2 hs hd ht he g1 g2 g3 g4
  by_cases ho : arrOk s d = true
  · have HO : Hid (arrOk s d = true) := ho
    by_cases ho' : arrOk t e = true
    · have HO' : Hid (arrOk t e = true) := ho'
      have key : Hid (fitC s d t e = if s = [] ∨ t = [] then 0 else if s.length ≠ t.length then 4 else if s ≠ t then 3 else 0) := by show _ = _; unfold fitC; rw [if_pos ⟨ho, ho'⟩]
      have fs : Hid (fitS s d t e = if fitC s d t e = 0 then (if s = [] then t else s) else []) := rfl
      have SH : Hid (decide (0 ≤ sizeV s) = true) := by show _ = _; simpa using arrOk_shape ho
      clear ho ho'
      go_enter Tryz.func58, Tryz.ntmps58
      go_wp2_with fail
      refine (arrOk_impl (H.out.keep (bAlloc (bAlloc (Below.refl _ _) _) _)) HD.out).mono ?_
      rintro r w1 ⟨rfl, hb⟩
      have HB1 : Hid (Below w.heap.size w w1) := bTrans (bAlloc (bAlloc (Below.refl _ _) _) _) hb
      have X1 : Hid (Box w1 w.heap.size (.slice a s.length c) (.slice b d.length f) 26) := ((box_new w _ _ _).keep (bAlloc (Below.refl _ _) _)).keep hb
      have Y1 : Hid (Box w1 (w.heap.size + 1) (.slice a' t.length c') (.slice b' e.length f') 26) := (box_new2 w _ _ _ _).keep hb
      have x0 := X1.out.c0
      have x1 := X1.out.c1
      have y0 := Y1.out.c0
      have y1 := Y1.out.c1
      clear hb
      rw [HO.out]
      go_wp2_with fail
      refine (arrOk_impl (K.out.keep HB1.out) HE.out).mono ?_
      rintro r w2 ⟨rfl, hb⟩
      have HB2 : Hid (Below w.heap.size w w2) := bTrans HB1.out hb
      have X2 : Hid (Box w2 w.heap.size (.slice a s.length c) (.slice b d.length f) 26) := X1.out.keep hb
      have Y2 : Hid (Box w2 (w.heap.size + 1) (.slice a' t.length c') (.slice b' e.length f') 26) := Y1.out.keep hb
      clear hb x0 x1 y0 y1 X1 Y1 HB1
      have x0 := X2.out.c0
      have y0 := Y2.out.c0
      rw [HO'.out]
      by_cases e1 : s = []
      · subst e1
        have EC : Hid (fitC [] d t e = 0) := by show _ = _; rw [key.out, if_pos (.inl rfl)]
        have ES : Hid (fitS [] d t e = t) := by show _ = _; rw [fs.out, if_pos EC.out, if_pos rfl]
        go_wp2_with fail
        refine (copied_new (K1.out.keep HB2.out) HT.out).mono ?_
        rintro r w9 ⟨a9, c9, rfl, hp, hb⟩
        have P9 : Hid (Piece w.heap.size w9.heap.size w9 _ _ ∧ Below w.heap.size w w9) := ⟨hp.mono HB2.out.size (Nat.le_refl _), bTrans HB2.out hb⟩
        clear hp hb
        go_wp2
        go_ret2
        exact ⟨_, by rw [EC.out]; rfl, by rw [ES.out]; exact P9.out.1, P9.out.2⟩
      · have n1 : ((s.length : Int) == 0) = false := by
          have := List.length_pos_iff.2 e1
          simp; omega
        by_cases e2 : t = []
        · subst e2
          have EC : Hid (fitC s d [] e = 0) := by show _ = _; rw [key.out, if_pos (.inr rfl)]
          have ES : Hid (fitS s d [] e = s) := by show _ = _; rw [fs.out, if_pos EC.out, if_neg e1]
          go_wp2_with fail
          refine (copied_new (H1.out.keep HB2.out) HS.out).mono ?_
          rintro r w9 ⟨a9, c9, rfl, hp, hb⟩
          have P9 : Hid (Piece w.heap.size w9.heap.size w9 _ _ ∧ Below w.heap.size w w9) := ⟨hp.mono HB2.out.size (Nat.le_refl _), bTrans HB2.out hb⟩
          clear hp hb
          go_wp2
          go_ret2
          exact ⟨_, by rw [EC.out]; rfl, by rw [ES.out]; exact P9.out.1, P9.out.2⟩
        · have n2 : ((t.length : Int) == 0) = false := by
            have := List.length_pos_iff.2 e2
            simp; omega
          have key2 : Hid (fitC s d t e = if s.length ≠ t.length then 4 else if s ≠ t then 3 else 0) := by show _ = _; rw [key.out, if_neg (by simp [e1, e2])]
          have E1 : Hid (s ≠ []) := e1
          clear e1 e2
          by_cases e3 : s.length = t.length
          · have n3 : ((s.length : Int) != (t.length : Int)) = false := by simp [e3]
            have E3 : Hid (s.length = t.length) := e3
            clear e3
            by_cases e4 : s = t
            · have EC : Hid (fitC s d t e = 0) := by show _ = _; rw [key2.out, if_neg (by simpa using E3.out), if_neg (by simpa using e4)]
              have ES : Hid (fitS s d t e = s) := by show _ = _; rw [fs.out, if_pos EC.out, if_neg E1.out]
              have DQ : Hid ((decide (0 ≤ sizeV s) && decide (s = t)) = true) := by show _ = _; rw [SH.out]; simpa using e4
              clear e4
              go_wp2_with fail
              refine (same_impl c c' (I1.out.keep HB2.out) (I2.out.keep HB2.out)).mono ?_
              rintro r w3 ⟨rfl, hb⟩
              have HB3 : Hid (Below w.heap.size w w3) := bTrans HB2.out hb
              have z0 := (X2.out.keep hb).c0
              rw [DQ.out]
              clear hb x0 y0
              go_wp2_with fail
              refine (copied_new (H1.out.keep HB3.out) HS.out).mono ?_
              rintro r w9 ⟨a9, c9, rfl, hp, hb⟩
              have P9 : Hid (Piece w.heap.size w9.heap.size w9 _ _ ∧ Below w.heap.size w w9) := ⟨hp.mono HB3.out.size (Nat.le_refl _), bTrans HB3.out hb⟩
              clear hp hb
              go_wp2
              go_ret2
              exact ⟨_, by rw [EC.out]; rfl, by rw [ES.out]; exact P9.out.1, P9.out.2⟩
            · have EC : Hid (fitC s d t e = 3) := by show _ = _; rw [key2.out, if_neg (by simpa using E3.out), if_pos e4]
              have ES : Hid (fitS s d t e = []) := by show _ = _; rw [fs.out, if_neg (by rw [EC.out]; decide)]
              have DQ : Hid ((decide (0 ≤ sizeV s) && decide (s = t)) = false) := by show _ = _; rw [SH.out]; simpa using e4
              clear e4
              go_wp2_with fail
              refine (same_impl c c' (I1.out.keep HB2.out) (I2.out.keep HB2.out)).mono ?_
              rintro r w3 ⟨rfl, hb⟩
              have HB3 : Hid (Below w.heap.size w w3) := bTrans HB2.out hb
              rw [DQ.out]
              clear hb
              go_wp2
              go_ret2
              exact ⟨_, by rw [EC.out]; rfl, by rw [ES.out]; exact Piece.nil _ _ _, HB3.out⟩
          · have n3 : ((s.length : Int) != (t.length : Int)) = true := by simp; omega
            have EC : Hid (fitC s d t e = 4) := by show _ = _; rw [key2.out, if_pos e3]
            have ES : Hid (fitS s d t e = []) := by show _ = _; rw [fs.out, if_neg (by rw [EC.out]; decide)]
            clear e3
            go_wp2
            go_ret2
            exact ⟨_, by rw [EC.out]; rfl, by rw [ES.out]; exact Piece.nil _ _ _, HB2.out⟩
    · have EC : Hid (fitC s d t e = 1) := fitC_no (by rintro ⟨_, h⟩; exact ho' h)
      have ES : Hid (fitS s d t e = []) := fitS_bad (by rw [EC.out]; decide)
      have HO' : Hid (arrOk t e = false) := by show _ = _; simpa using ho'
      clear ho ho'
      go_enter Tryz.func58, Tryz.ntmps58
      go_wp2_with fail
      refine (arrOk_impl (H.out.keep (bAlloc (bAlloc (Below.refl _ _) _) _)) HD.out).mono ?_
      rintro r w1 ⟨rfl, hb⟩
      have HB1 : Hid (Below w.heap.size w w1) := bTrans (bAlloc (bAlloc (Below.refl _ _) _) _) hb
      have Y1 : Hid (Box w1 (w.heap.size + 1) (.slice a' t.length c') (.slice b' e.length f') 26) := (box_new2 w _ _ _ _).keep hb
      have y0 := Y1.out.c0
      have y1 := Y1.out.c1
      clear hb
      rw [HO.out]
      go_wp2_with fail
      refine (arrOk_impl (K.out.keep HB1.out) HE.out).mono ?_
      rintro r w2 ⟨rfl, hb⟩
      have HB2 : Hid (Below w.heap.size w w2) := bTrans HB1.out hb
      clear hb
      rw [HO'.out]
      go_wp2
      go_ret2
      exact ⟨_, by rw [EC.out]; rfl, by rw [ES.out]; exact Piece.nil _ _ _, HB2.out⟩
  · have EC : Hid (fitC s d t e = 1) := fitC_no (by rintro ⟨h, _⟩; exact ho h)
    have ES : Hid (fitS s d t e = []) := fitS_bad (by rw [EC.out]; decide)
    have HO : Hid (arrOk s d = false) := by show _ = _; simpa using ho
    clear ho
    go_enter Tryz.func58, Tryz.ntmps58
    go_wp2_with fail
    refine (arrOk_impl (H.out.keep (bAlloc (bAlloc (Below.refl _ _) _) _)) HD.out).mono ?_
    rintro r w1 ⟨rfl, hb⟩
    have HB1 : Hid (Below w.heap.size w w1) := bTrans (bAlloc (bAlloc (Below.refl _ _) _) _) hb
    clear hb
    rw [HO.out]
    go_wp2
    go_ret2
    exact ⟨_, by rw [EC.out]; rfl, by rw [ES.out]; exact Piece.nil _ _ _, HB1.out⟩
end Go.Proofs.YtcpgdhffemecbaaGreat
namespace Go.Proofs.YtcpgdhffemecbaaGreat
open Go.RowKit
set_option linter.unusedVariables false
set_option linter.unusedSimpArgs false
theorem four_blocks (w : World) (A B C D : Obj) : ((((w.alloc A).alloc B).alloc C).alloc D).heap[w.heap.size]? = some A ∧ ((((w.alloc A).alloc B).alloc C).alloc D).heap[w.heap.size + 1]? = some B ∧ ((((w.alloc A).alloc B).alloc C).alloc D).heap[w.heap.size + 1 + 1]? = some C ∧ ((((w.alloc A).alloc B).alloc C).alloc D).heap[w.heap.size + 1 + 1 + 1]? = some D := by
  have e1 := heap_alloc_new w A
  have e2 := heap_alloc_new (w.alloc A) B
  have e3 := heap_alloc_new ((w.alloc A).alloc B) C
  have e4 := heap_alloc_new (((w.alloc A).alloc B).alloc C) D
  simp only [World.size_alloc] at e2 e3 e4
  refine ⟨?_, ?_, ?_, e4⟩
  · rw [heap_alloc_old _ _ (by simp only [World.size_alloc]; omega), heap_alloc_old _ _ (by simp only [World.size_alloc]; omega), heap_alloc_old _ _ (by simp only [World.size_alloc]; omega)]; exact e1
  · rw [heap_alloc_old _ _ (by simp only [World.size_alloc]; omega), heap_alloc_old _ _ (by simp only [World.size_alloc]; omega)]; exact e2
  · rw [heap_alloc_old _ _ (by simp only [World.size_alloc]; omega)]; exact e3
theorem twoImpl_bad {g : Int} {s d t e : List Int} (h : eachTwoC g s d t e ≠ 0) : eachTwoS g s d t e = [] ∧ eachTwoD g s d t e = [] := by
  unfold eachTwoS eachTwoD; rw [if_neg h, if_neg h]; exact ⟨rfl, rfl⟩
set_option maxRecDepth 20000 in
set_option maxHeartbeats 4000000 in
/-- EachTwo. -/
theorem eachTwo_impl {g : Int} {s d t e : List Int} {w : World} {v u : Value} (h : ArrI w v s d) (k : ArrI w u t e) (hs : s.length ≤ 1048576) (hd : d.length ≤ 1048576) (ht : t.length ≤ 1048576) (he : e.length ≤ 1048576) :
    Calls Tryz.prog 20 #[.int .i64 g, v, u] w fun r w' => ∃ v', r = .returned (.tuple #[v', .int .i64 (eachTwoC g s d t e)]) ∧ Arr w.heap.size w'.heap.size w' v' (eachTwoS g s d t e) (eachTwoD g s d t e) ∧ Below w.heap.size w w' := by
  have H : Hid (ArrI w v s d) := h
  have K : Hid (ArrI w u t e) := k
  obtain ⟨a, c, b, f, rfl, _, _, _, _⟩ := h
  obtain ⟨a', c', b', f', rfl, _, _, _, _⟩ := k
  have HFI : Hid (∀ W, Below w.heap.size w W → Calls Tryz.prog 58 #[.agg #[.slice a s.length c, .slice b d.length f], .agg #[.slice a' t.length c', .slice b' e.length f']] W fun r w' => ∃ v', r = .returned (.tuple #[v', .int .i64 (fitC s d t e)]) ∧ Piece W.heap.size w'.heap.size w' v' (fitS s d t e) ∧ Below W.heap.size W w') := fun W hb => fit_impl (H.out.keep hb) (K.out.keep hb) hs hd ht he
  have HL : Hid (s.length ≤ 1048576 ∧ d.length ≤ 1048576 ∧ t.length ≤ 1048576 ∧ e.length ≤ 1048576) := ⟨hs, hd, ht, he⟩
  clear hs hd ht he
  by_cases hg : sign2 g = true
  · have HG : Hid (sign2 g = true) := hg
    by_cases hf : fitC s d t e = 0
    · obtain ⟨ho, ho'⟩ := fitC_ok hf
      obtain ⟨F1, F2, F3⟩ := fit_size hf
      have EC : Hid (eachTwoC g s d t e = placesC (fun i => twoV g (numOf s d i) (numOf t e i)) (eachN s d t e)) := by show _ = _; unfold eachTwoC placesC; rw [if_pos ⟨ho, ho', hg⟩, if_pos hf]
      have ES : Hid (eachTwoS g s d t e = if placesC (fun i => twoV g (numOf s d i) (numOf t e i)) (eachN s d t e) = 0 then fitS s d t e else []) := by show _ = _; unfold eachTwoS; rw [EC.out]
      have ED : Hid (eachTwoD g s d t e = placesD (fun i => twoV g (numOf s d i) (numOf t e i)) (eachN s d t e)) := by show _ = _; unfold eachTwoD placesD; rw [EC.out]
      have HFL : Hid (∀ (W : World) (q o B E : Nat) (sa : Option Addr) (sc : Nat), Below w.heap.size w W → W.cell? ⟨q, 0, none⟩ = some (.int .i64 g) → q < W.heap.size → W.heap[o]? = some (.cells #[.slice a s.length c, .slice b d.length f, .slice a' t.length c', .slice b' e.length f'] 26 (0, 0)) → Piece B E W (.slice sa (fitS s d t e).length sc) (fitS s d t e) → B ≤ E → E ≤ W.heap.size →
          Calls Tryz.prog 61 #[.slice sa (fitS s d t e).length sc, .func (.func 59) #[] #[.pointer (some ⟨q, 0, none⟩)], .slice (some ⟨o, 0, none⟩) 2 2] W fun r w' => ∃ v', r = .returned (.tuple #[v', .int .i64 (eachTwoC g s d t e)]) ∧ Arr B w'.heap.size w' v' (eachTwoS g s d t e) (eachTwoD g s d t e) ∧ Below W.heap.size W w') := by
        intro W q o B E sa sc hb hq hqs ho4 hp hBE hEW
        rw [EC.out, ES.out, ED.out]
        refine filled_impl (F := [s, d, t, e]) (enters_of Tryz.func59 (by kernel_rfl) rfl) (arrs_two ho4 (H.out.keep hb) (K.out.keep hb)) (by decide) F2 ?_ ?_ ?_ hp hBE hEW F1.symm
        · intro j
          obtain ⟨l1, l2, l3, l4⟩ := HL.out
          match j with
          | 0 => exact l1
          | 1 => exact l2
          | 2 => exact l3
          | 3 => exact l4
          | j + 4 => simp
        · intro i hi
          have z1 := arrOk_size ho
          have z2 := arrOk_size ho'
          have k1 : s = [] → d.length = 1 := by rintro rfl; rw [sizeV_0'] at z1; omega
          have k2 : t = [] → e.length = 1 := by rintro rfl; rw [sizeV_0'] at z2; omega
          match i, hi with
          | 0, _ => exact ⟨fun q => by have := k1 q; show 0 < d.length; omega, fun q => by
              show eachN s d t e ≤ d.length
              apply Classical.byContradiction
              intro hh
              have := (F3 d.length (by omega)).2.1 q
              omega⟩
          | 1, _ => exact ⟨fun q => by have := k2 q; show 0 < e.length; omega, fun q => by
              show eachN s d t e ≤ e.length
              apply Classical.byContradiction
              intro hh
              have := (F3 e.length (by omega)).2.2.2 q
              omega⟩
        · intro W' A k hk hb' hi
          exact does2_impl hi ((hb'.cell (p := ⟨q, 0, none⟩) hqs).trans hq)
      have HF0 : Hid (fitC s d t e = 0) := hf
      clear hg hf ho ho' F1 F2 F3 EC ES ED
      generalize eachTwoC g s d t e = C at *
      generalize eachTwoS g s d t e = S at *
      generalize eachTwoD g s d t e = D at *
      generalize fitS s d t e = Z at *
      go_enter Tryz.func20, Tryz.ntmps20
      go_wp2_with fail
      refine (knownTwo_impl g _).mono ?_
      rintro r w1 ⟨rfl, hb⟩
      have HB1 : Hid (Below w.heap.size w w1) := bTrans (bAlloc (bAlloc (bAlloc (bAlloc (Below.refl _ _) _) _) _) _) hb
      have q1 := four_blocks w (.cells #[.int .i64 g] 3) (.cells #[.slice a s.length c, .slice b d.length f] 26) (.cells #[.slice a' t.length c', .slice b' e.length f'] 26) (.cells #[.slice none 0 0, .slice none 0 0] 26)
      have G1 : Hid (w1.heap[w.heap.size]? = some (.cells #[.int .i64 g] 3)) := by show _ = _; rw [hb.block _ (lt_of_heapA q1.1)]; exact q1.1
      have X1 : Hid (Box w1 (w.heap.size + 1) (.slice a s.length c) (.slice b d.length f) 26) := Box.keep q1.2.1 hb
      have Y1 : Hid (Box w1 (w.heap.size + 1 + 1) (.slice a' t.length c') (.slice b' e.length f') 26) := Box.keep q1.2.2.1 hb
      have R1 : Hid (Box w1 (w.heap.size + 1 + 1 + 1) (.slice none 0 0) (.slice none 0 0) 26) := Box.keep q1.2.2.2 hb
      clear hb q1
      rw [HG.out]
      have x0 := X1.out.c0
      have x1 := X1.out.c1
      have y0 := Y1.out.c0
      have y1 := Y1.out.c1
      go_wp2_with fail
      refine (HFI.out _ HB1.out).mono ?_
      rintro r w2 ⟨v2, rfl, hp, hb⟩
      obtain ⟨a2, c2, rfl, _⟩ := hp.ints
      have HB2 : Hid (Below w.heap.size w w2) := bTrans HB1.out hb
      have P2 : Hid (Piece w1.heap.size w2.heap.size w2 (.slice a2 Z.length c2) Z) := hp
      have G2 : Hid (w2.heap[w.heap.size]? = some (.cells #[.int .i64 g] 3)) := by show _ = _; rw [hb.block _ (lt_of_heapA G1.out)]; exact G1.out
      have X2 : Hid (Box w2 (w.heap.size + 1) (.slice a s.length c) (.slice b d.length f) 26) := X1.out.keep hb
      have Y2 : Hid (Box w2 (w.heap.size + 1 + 1) (.slice a' t.length c') (.slice b' e.length f') 26) := Y1.out.keep hb
      have R2 : Hid (Box w2 (w.heap.size + 1 + 1 + 1) (.slice none 0 0) (.slice none 0 0) 26) := R1.out.keep hb
      have L1 : Hid (w.heap.size + 1 + 1 + 1 < w1.heap.size ∧ w1.heap.size ≤ w2.heap.size) := ⟨R1.out.lt, hb.size⟩
      rw [HF0.out]
      clear hb hp x0 x1 y0 y1 G1 X1 Y1 R1
      have x0 := X2.out.c0
      have x1 := X2.out.c1
      have y0 := Y2.out.c0
      have y1 := Y2.out.c1
      go_wp2_with fail
      refine (HFL.out _ w.heap.size w2.heap.size w1.heap.size w2.heap.size a2 c2 (bAlloc HB2.out _) (((bAlloc (Below.refl w2.heap.size w2) _).cell (p := ⟨w.heap.size, 0, none⟩) (lt_of_heapA G2.out)).trans (cell_at G2.out rfl)) (Nat.lt_of_lt_of_le (lt_of_heapA G2.out) (bAlloc (Below.refl w2.heap.size w2) _).size) (heap_alloc_new _ _) (P2.out.keep (bAlloc (Below.refl _ _) _)) L1.out.2 (bAlloc (Below.refl w2.heap.size w2) _).size).mono ?_
      rintro r w3 ⟨v3, rfl, ha, hb⟩
      obtain ⟨a3, c3, b3, e3, rfl, _, _, _, _⟩ := ha.arrI
      have HA3 : Hid (Arr w1.heap.size w3.heap.size w3 (.agg #[.slice a3 S.length c3, .slice b3 D.length e3]) S D) := ha
      have HB3 : Hid (Below w.heap.size w w3) := bTrans (bAlloc HB2.out _) hb
      have R3 : Hid (Box w3 (w.heap.size + 1 + 1 + 1) (.slice none 0 0) (.slice none 0 0) 26) := (R2.out.keep (bAlloc (Below.refl _ _) _)).keep hb
      clear ha hb x0 x1 y0 y1
      have r0 := R3.out.c0
      have r1 := R3.out.c1
      have f0 : w3.frozen? ⟨w.heap.size + 1 + 1 + 1, 0, none⟩ = false := free_at R3.out 0
      have f1 : w3.frozen? ⟨w.heap.size + 1 + 1 + 1, 1, none⟩ = false := free_at R3.out 1
      have HR : Hid (((w3.setCell ⟨w.heap.size + 1 + 1 + 1, 0, none⟩ (.slice a3 S.length c3)).setCell ⟨w.heap.size + 1 + 1 + 1, 1, none⟩ (.slice b3 D.length e3)).heap[w.heap.size + 1 + 1 + 1]? = some (.cells #[.slice a3 S.length c3, .slice b3 D.length e3] 26 (0, 0))) := arr_stored R3.out
      go_wp2
      refine bodyPost_ret (results_arr_tmp Tryz.results20 _ _ (w.heap.size + 1 + 1 + 1) _ _ rfl HR.out) rfl ?_
      refine ⟨_, rfl, ?_, below_setCell (below_setCell HB3.out (by omega) _ _) (by omega) _ _⟩
      have L := L1.out.1
      exact ((HA3.out.setCell L _ _).setCell L _ _).mono (by omega) (by simp only [size_setCell]; omega)
    · have EC : Hid (eachTwoC g s d t e = fitC s d t e) := by
        show _ = _
        unfold eachTwoC
        by_cases ho : arrOk s d = true ∧ arrOk t e = true
        · rw [if_pos ⟨ho.1, ho.2, hg⟩, if_neg hf]
        · rw [if_neg (fun q => ho ⟨q.1, q.2.1⟩), fitC_no ho]
      obtain ⟨es, ed⟩ := twoImpl_bad (g := g) (s := s) (d := d) (t := t) (e := e) (by rw [EC.out]; exact hf)
      rw [EC.out, es, ed]
      clear EC es ed hg
      generalize fitC s d t e = C at *
      generalize fitS s d t e = Z at *
      have hne : (C != 0) = true := by simpa using hf
      clear hf
      go_enter Tryz.func20, Tryz.ntmps20
      go_wp2_with fail
      refine (knownTwo_impl g _).mono ?_
      rintro r w1 ⟨rfl, hb⟩
      have HB1 : Hid (Below w.heap.size w w1) := bTrans (bAlloc (bAlloc (bAlloc (bAlloc (Below.refl _ _) _) _) _) _) hb
      have q1 := four_blocks w (.cells #[.int .i64 g] 3) (.cells #[.slice a s.length c, .slice b d.length f] 26) (.cells #[.slice a' t.length c', .slice b' e.length f'] 26) (.cells #[.slice none 0 0, .slice none 0 0] 26)
      have G1 : Hid (w1.heap[w.heap.size]? = some (.cells #[.int .i64 g] 3)) := by show _ = _; rw [hb.block _ (lt_of_heapA q1.1)]; exact q1.1
      have X1 : Hid (Box w1 (w.heap.size + 1) (.slice a s.length c) (.slice b d.length f) 26) := Box.keep q1.2.1 hb
      have Y1 : Hid (Box w1 (w.heap.size + 1 + 1) (.slice a' t.length c') (.slice b' e.length f') 26) := Box.keep q1.2.2.1 hb
      have R1 : Hid (Box w1 (w.heap.size + 1 + 1 + 1) (.slice none 0 0) (.slice none 0 0) 26) := Box.keep q1.2.2.2 hb
      clear hb q1
      rw [HG.out]
      have x0 := X1.out.c0
      have x1 := X1.out.c1
      have y0 := Y1.out.c0
      have y1 := Y1.out.c1
      go_wp2_with fail
      refine (HFI.out _ HB1.out).mono ?_
      rintro r w2 ⟨v2, rfl, hp, hb⟩
      obtain ⟨a2, c2, rfl, _⟩ := hp.ints
      have HB2 : Hid (Below w.heap.size w w2) := bTrans HB1.out hb
      have R2 : Hid (Box w2 (w.heap.size + 1 + 1 + 1) (.slice none 0 0) (.slice none 0 0) 26) := R1.out.keep hb
      clear hb hp x0 x1 y0 y1 G1 X1 Y1 R1
      have r0 := R2.out.c0
      have r1 := R2.out.c1
      have f0 : w2.frozen? ⟨w.heap.size + 1 + 1 + 1, 0, none⟩ = false := free_at R2.out 0
      have f1 : w2.frozen? ⟨w.heap.size + 1 + 1 + 1, 1, none⟩ = false := free_at R2.out 1
      have HR : Hid (((w2.setCell ⟨w.heap.size + 1 + 1 + 1, 0, none⟩ (.slice none 0 0)).setCell ⟨w.heap.size + 1 + 1 + 1, 1, none⟩ (.slice none 0 0)).heap[w.heap.size + 1 + 1 + 1]? = some (.cells #[.slice none 0 0, .slice none 0 0] 26 (0, 0))) := arr_stored R2.out
      go_wp2
      refine bodyPost_ret (results_arr_tmp Tryz.results20 _ _ (w.heap.size + 1 + 1 + 1) _ _ rfl HR.out) rfl ?_
      exact ⟨_, rfl, arr_zero _ _ _, below_setCell (below_setCell HB2.out (by omega) _ _) (by omega) _ _⟩
  · have hg' : sign2 g = false := by simpa using hg
    have HG : Hid (sign2 g = false) := hg'
    have EC : Hid (eachTwoC g s d t e = 1) := by
      show _ = _
      unfold eachTwoC
      rw [if_neg (fun q => hg q.2.2)]
    obtain ⟨es, ed⟩ := twoImpl_bad (g := g) (s := s) (d := d) (t := t) (e := e) (by rw [EC.out]; decide)
    rw [EC.out, es, ed]
    clear EC es ed hg hg' HFI
    go_enter Tryz.func20, Tryz.ntmps20
    go_wp2_with fail
    refine (knownTwo_impl g _).mono ?_
    rintro r w1 ⟨rfl, hb⟩
    have HB1 : Hid (Below w.heap.size w w1) := bTrans (bAlloc (bAlloc (bAlloc (bAlloc (Below.refl _ _) _) _) _) _) hb
    have q1 := four_blocks w (.cells #[.int .i64 g] 3) (.cells #[.slice a s.length c, .slice b d.length f] 26) (.cells #[.slice a' t.length c', .slice b' e.length f'] 26) (.cells #[.slice none 0 0, .slice none 0 0] 26)
    have G1 : Hid (w1.heap[w.heap.size]? = some (.cells #[.int .i64 g] 3)) := by show _ = _; rw [hb.block _ (lt_of_heapA q1.1)]; exact q1.1
    have X1 : Hid (Box w1 (w.heap.size + 1) (.slice a s.length c) (.slice b d.length f) 26) := Box.keep q1.2.1 hb
    have Y1 : Hid (Box w1 (w.heap.size + 1 + 1) (.slice a' t.length c') (.slice b' e.length f') 26) := Box.keep q1.2.2.1 hb
    have R1 : Hid (Box w1 (w.heap.size + 1 + 1 + 1) (.slice none 0 0) (.slice none 0 0) 26) := Box.keep q1.2.2.2 hb
    clear hb q1
    rw [HG.out]
    have r0 := R1.out.c0
    have r1 := R1.out.c1
    have f0 : w1.frozen? ⟨w.heap.size + 1 + 1 + 1, 0, none⟩ = false := free_at R1.out 0
    have f1 : w1.frozen? ⟨w.heap.size + 1 + 1 + 1, 1, none⟩ = false := free_at R1.out 1
    have HR : Hid (((w1.setCell ⟨w.heap.size + 1 + 1 + 1, 0, none⟩ (.slice none 0 0)).setCell ⟨w.heap.size + 1 + 1 + 1, 1, none⟩ (.slice none 0 0)).heap[w.heap.size + 1 + 1 + 1]? = some (.cells #[.slice none 0 0, .slice none 0 0] 26 (0, 0))) := arr_stored R1.out
    go_wp2
    refine bodyPost_ret (results_arr_tmp Tryz.results20 _ _ (w.heap.size + 1 + 1 + 1) _ _ rfl HR.out) rfl ?_
    exact ⟨_, rfl, arr_zero _ _ _, below_setCell (below_setCell HB1.out (by omega) _ _) (by omega) _ _⟩
end Go.Proofs.YtcpgdhffemecbaaGreat
namespace Go.Proofs.YtcpgdhffemecbaaGreat
open Go.RowKit Go.Shelf
set_option linter.unusedVariables false
set_option linter.unusedSimpArgs false
attribute [local go_sem] Oper.semAt_some
/-- An array stays where a block that is no cells is written, or a new one laid. -/
theorem Arr.grownN {B C : Nat} {W W' : World} {v : Value} {s d : List Int} {row : Option Nat} (h : Arr B C W v s d) (hg : W.grownBy W' row) (hr : ∀ r, row = some r → ∃ o : Obj, W.heap[r]? = some o ∧ o.isCells = false) : Arr B C W' v s d := by
  obtain ⟨x, y, rfl, h1, h2, h3⟩ := h
  have key : ∀ {u m}, Piece B C W u m → ∀ g, row = some g → NotAt g u := fun hp g e => by
    obtain ⟨o, ho, hc⟩ := hr g e
    exact hp.notRow (fun cur t fr hh => by rw [hh] at ho; cases ho; cases hc)
  exact ⟨x, y, rfl, h1.grown hg (key h1), h2.grown hg (key h2), h3⟩
theorem But.grownN {q : Nat} {A W W' : World} {row : Option Nat} (h : But q A W) (hg : W.grownBy W' row) (hr : ∀ r, row = some r → A.heap.size ≤ r) : But q A W' :=
  ⟨hg.os.trans h.os, hg.tape.trans h.tape, hg.output.trans h.output, Nat.le_trans h.size hg.size, fun k hk hne => (hg.block k (by have := h.size; omega) (fun e => by have := hr k e.symm; omega)).trans (h.block k hk hne)⟩
/-- What the loop keeps: nothing has turned but the box of what was reckoned so far. -/
structure RdI (A W : World) (N0 q : Nat) (x y : Value) (t D : List Int) : Prop where
  bt : But q A W
  z : Box W q x y 26
  a : ∃ B C, Arr B C W (.agg #[x, y]) t D ∧ N0 + 3 ≤ B ∧ C ≤ W.heap.size ∧ (C ≤ q ∨ q < B)
theorem RdI.arrI {A W : World} {N0 q : Nat} {x y : Value} {t D : List Int} (h : RdI A W N0 q x y t D) : ArrI W (.agg #[x, y]) t D := by
  obtain ⟨B, C, ha, _⟩ := h.a
  exact ha.arrI
theorem RdI.grown {A W W' : World} {N0 q : Nat} {x y : Value} {t D : List Int} {row : Option Nat} (h : RdI A W N0 q x y t D) (hg : W.grownBy W' row) (hr : ∀ r, row = some r → A.heap.size ≤ r ∧ ∃ o : Obj, W.heap[r]? = some o ∧ o.isCells = false) : RdI A W' N0 q x y t D := by
  obtain ⟨B, C, ha, h1, h2, h3⟩ := h.a
  refine ⟨h.bt.grownN hg (fun r e => (hr r e).1), ?_, ⟨B, C, ha.grownN hg (fun r e => (hr r e).2), h1, Nat.le_trans h2 hg.size, h3⟩⟩
  have hz := h.z
  unfold Box at hz ⊢
  rw [hg.block q (lt_of_heapA hz) (fun e => by obtain ⟨_, o, ho, hc⟩ := hr q e.symm; rw [hz] at ho; cases ho; cases hc)]
  exact hz
theorem RdI.put {A W W' : World} {N0 q C : Nat} {x y x' y' : Value} {t D D' : List Int} (h : RdI A W N0 q x y t D) (hb : Below W.heap.size W W') (ha : Arr W.heap.size C W' (.agg #[x', y']) t D') (hC : C ≤ W'.heap.size) (hN : N0 + 3 ≤ W.heap.size) : RdI A ((W'.setCell ⟨q, 0, none⟩ x').setCell ⟨q, 1, none⟩ y') N0 q x' y' t D' := by
  have h2 := h.z.lt
  have ww : Win q (q + 1) W' ((W'.setCell ⟨q, 0, none⟩ x').setCell ⟨q, 1, none⟩ y') := (win_setCell _ _ _ _).trans (win_setCell _ _ _ _)
  have b1 : But q W W' := ⟨hb.os, hb.tape, hb.output, hb.size, fun k hk _ => hb.block k hk⟩
  refine ⟨((h.bt.trans b1).setCell 0 x').setCell 1 y', arr_stored (h.z.keep hb), ⟨W.heap.size, C, ha.win ww (.inr (by omega)), hN, by simp only [size_setCell]; exact hC, .inr h2⟩⟩
theorem keepsFrom_put {B q : Nat} {W W' : World} {x' y' : Value} (hb : Below W.heap.size W W') (hq : q < B) : KeepsFrom B W ((W'.setCell ⟨q, 0, none⟩ x').setCell ⟨q, 1, none⟩ y') := by
  refine ⟨by simp only [size_setCell]; exact hb.size, fun j o h1 h2 _ => ?_⟩
  rw [heap_setCell_other _ _ _ _ (by show j ≠ q; omega), heap_setCell_other _ _ _ _ (by show j ≠ q; omega), hb.block j (Array.getElem?_eq_some_iff.1 h2).1]
  exact h2
theorem keepsTwo_put {q q8 G : Nat} {W W' : World} {x' y' : Value} (hb : Below W.heap.size W W') (h1 : q8 ≠ q) (h2 : G ≠ q) (h3 : q8 < W.heap.size) (h4 : G < W.heap.size) : KeepsTwo q8 G W ((W'.setCell ⟨q, 0, none⟩ x').setCell ⟨q, 1, none⟩ y') := by
  constructor
  · rw [heap_setCell_other _ _ _ _ (by show q8 ≠ q; exact h1), heap_setCell_other _ _ _ _ (by show q8 ≠ q; exact h1)]
    exact hb.block _ h3
  · rw [heap_setCell_other _ _ _ _ (by show G ≠ q; exact h2), heap_setCell_other _ _ _ _ (by show G ≠ q; exact h2)]
    exact hb.block _ h4
theorem box_but {A W : World} {q p : Nat} {x y : Value} {ty : TypeId} (h : Box A p x y ty) (hb : But q A W) (hne : p ≠ q) : Box W p x y ty := by
  unfold Box at h ⊢
  rw [hb.block p (lt_of_heapA h) hne]
  exact h
/-- Behind the stores of an answer that has a code. -/
theorem red_bad {w W W' : World} {N0 : Nat} {C : Int} {B : Nat} (hN : w.heap.size = N0) (hb : Below W.heap.size W W') (hw : Below N0 w W') (h1 : Box W' (N0 + 1) (.slice none 0 0) (.slice none 0 0) 26) (h2 : W'.heap[N0 + 2]? = some (.cells #[.int .i64 0] 3 (0, 0))) (hB : N0 + 3 ≤ B) :
    KeepsFrom B W (((W'.setCell ⟨N0 + 1, 0, none⟩ (.slice none 0 0)).setCell ⟨N0 + 1, 1, none⟩ (.slice none 0 0)).setCell ⟨N0 + 1 + 1, 0, none⟩ (.int .i64 C)) ∧
    Box (((W'.setCell ⟨N0 + 1, 0, none⟩ (.slice none 0 0)).setCell ⟨N0 + 1, 1, none⟩ (.slice none 0 0)).setCell ⟨N0 + 1 + 1, 0, none⟩ (.int .i64 C)) (N0 + 1) (.slice none 0 0) (.slice none 0 0) 26 ∧
    (((W'.setCell ⟨N0 + 1, 0, none⟩ (.slice none 0 0)).setCell ⟨N0 + 1, 1, none⟩ (.slice none 0 0)).setCell ⟨N0 + 1 + 1, 0, none⟩ (.int .i64 C)).heap[N0 + 2]? = some (.cells #[.int .i64 C] 3 (0, 0)) ∧
    Below N0 w (((W'.setCell ⟨N0 + 1, 0, none⟩ (.slice none 0 0)).setCell ⟨N0 + 1, 1, none⟩ (.slice none 0 0)).setCell ⟨N0 + 1 + 1, 0, none⟩ (.int .i64 C)) := by
  refine ⟨⟨by simp only [size_setCell]; exact hb.size, fun j o' k1 k2 _ => ?_⟩, ?_, ?_, ?_⟩
  · rw [heap_setCell_other _ _ _ _ (by show j ≠ N0 + 1 + 1; omega), heap_setCell_other _ _ _ _ (by show j ≠ N0 + 1; omega), heap_setCell_other _ _ _ _ (by show j ≠ N0 + 1; omega), hb.block j (Array.getElem?_eq_some_iff.1 k2).1]
    exact k2
  · have q : Box ((W'.setCell ⟨N0 + 1, 0, none⟩ (.slice none 0 0)).setCell ⟨N0 + 1, 1, none⟩ (.slice none 0 0)) (N0 + 1) (.slice none 0 0) (.slice none 0 0) 26 := arr_stored h1
    exact q.win (win_setCell _ (N0 + 1 + 1) 0 _) (.inl (by omega))
  · have q : ((W'.setCell ⟨N0 + 1, 0, none⟩ (.slice none 0 0)).setCell ⟨N0 + 1, 1, none⟩ (.slice none 0 0)).heap[N0 + 1 + 1]? = some (.cells #[.int .i64 0] 3 (0, 0)) := by
      rw [heap_setCell_other _ _ _ _ (by show N0 + 1 + 1 ≠ N0 + 1; omega), heap_setCell_other _ _ _ _ (by show N0 + 1 + 1 ≠ N0 + 1; omega)]
      exact h2
    have q2 := heap_setCell_same _ (N0 + 1 + 1) 0 _ _ (.int .i64 C) q
    rw [show N0 + 2 = N0 + 1 + 1 from rfl, q2]
    rfl
  · exact below_setCell (below_setCell (below_setCell hw (by omega) _ _) (by omega) _ _) (by omega) _ _
/-- Behind the return: the block for the rounds' deferred calls is turned. -/
theorem red_ret {w W : World} {N0 D' : Nat} {x y z : Value} (hD : N0 + 3 ≤ D') (hK : W.heap[D']? = some (.deferred (some []))) (h1 : W.heap[N0 + 1]? = some (.cells #[x, y] 26 (0, 0))) (h2 : W.heap[N0 + 2]? = some (.cells #[z] 3 (0, 0))) (hb : Below N0 w W) :
    (W.putObj D' (.deferred none)).heap[N0 + 1]? = some (.cells #[x, y] 26 (0, 0)) ∧ (W.putObj D' (.deferred none)).cell? ⟨N0 + 1 + 1, 0, none⟩ = some z ∧ Below N0 w (W.putObj D' (.deferred none)) ∧ ∀ B C v s d, Arr B C W v s d → Arr B C (W.putObj D' (.deferred none)) v s d := by
  have hg := grownBy_putObj' W D' (.deferred none)
  refine ⟨by rw [World.putObj_heap_other (by omega)]; exact h1, cell_at (by rw [World.putObj_heap_other (by omega)]; exact h2) rfl, ?_, fun B C v s d ha => ha.grownN hg (fun r e => by cases e; exact ⟨_, hK, rfl⟩)⟩
  exact ⟨hg.os.trans hb.os, hg.tape.trans hb.tape, hg.output.trans hb.output, Nat.le_trans hb.size hg.size, fun j hj => (World.putObj_heap_other (by omega)).trans (hb.block j hj)⟩
theorem red_good {w W : World} {N0 D' : Nat} {x y : Value} {t D : List Int} {B C : Nat} (hN : w.heap.size = N0) (hw : Below N0 w W) (h1 : Box W (N0 + 1) (.slice none 0 0) (.slice none 0 0) 26) (h2 : W.heap[N0 + 2]? = some (.cells #[.int .i64 0] 3 (0, 0))) (ha : Arr B C W (.agg #[x, y]) t D) (hB : N0 + 3 ≤ B) (hD : N0 + 3 ≤ D') (hK : W.heap[D']? = some (.deferred (some []))) :
    ∃ V, V = ((W.setCell ⟨N0 + 1, 0, none⟩ x).setCell ⟨N0 + 1, 1, none⟩ y).setCell ⟨N0 + 1 + 1, 0, none⟩ (.int .i64 0) ∧ V.heap[D']? = some (.deferred (some [])) ∧ V.heap[N0 + 1]? = some (.cells #[x, y] 26 (0, 0)) ∧ V.heap[N0 + 2]? = some (.cells #[.int .i64 0] 3 (0, 0)) ∧ Below N0 w V ∧ Arr B C V (.agg #[x, y]) t D ∧ V.heap.size = W.heap.size := by
  refine ⟨_, rfl, ?_, ?_, ?_, ?_, ?_, ?_⟩
  · rw [heap_setCell_other _ _ _ _ (by show D' ≠ N0 + 1 + 1; omega), heap_setCell_other _ _ _ _ (by show D' ≠ N0 + 1; omega), heap_setCell_other _ _ _ _ (by show D' ≠ N0 + 1; omega)]
    exact hK
  · have q : Box ((W.setCell ⟨N0 + 1, 0, none⟩ x).setCell ⟨N0 + 1, 1, none⟩ y) (N0 + 1) x y 26 := arr_stored h1
    exact q.win (win_setCell _ (N0 + 1 + 1) 0 _) (.inl (by omega))
  · have q : ((W.setCell ⟨N0 + 1, 0, none⟩ x).setCell ⟨N0 + 1, 1, none⟩ y).heap[N0 + 1 + 1]? = some (.cells #[.int .i64 0] 3 (0, 0)) := by
      rw [heap_setCell_other _ _ _ _ (by show N0 + 1 + 1 ≠ N0 + 1; omega), heap_setCell_other _ _ _ _ (by show N0 + 1 + 1 ≠ N0 + 1; omega)]
      exact h2
    have q2 := heap_setCell_same _ (N0 + 1 + 1) 0 _ _ (.int .i64 0) q
    rw [show N0 + 2 = N0 + 1 + 1 from rfl, q2]
    rfl
  · exact below_setCell (below_setCell (below_setCell hw (by omega) _ _) (by omega) _ _) (by omega) _ _
  · exact ((ha.setCell (by omega) _ _).setCell (by omega) _ _).setCell (by omega) _ _
  · simp only [size_setCell]
theorem slice_uptoA (W : World) (g n c m : Nat) (h : m ≤ c) : (Instr.slice 32 (.slice (some ⟨g, 0, none⟩) n c) none (some (.int .i64 (m : Int))) none).run Tryz.prog W = .ok (.slice (some ⟨g, 0, none⟩) m c) W := by
  have hs : (sizeOf 26).run Tryz.prog W = .ok 2 W := by kernel_rfl
  have he : Tryz.prog.elem 32 = 26 := by kernel_rfl
  rw [run_slice_h (P := Tryz.prog) (w := W) 32 (some ⟨g, 0, none⟩) n c (by rw [he]; exact Tryz.underlying32) .i64 (m : Int) (by omega) (by omega), he, hs]
  simp [Result.andThen, sliced, Addr.add]
theorem ListAt.cell {W0 wr : World} {g c k j : Nat} {xs : List Value} {F : List (List Int)} (h : ListAt W0 wr (.slice (some ⟨g, 0, none⟩) k c) k xs F) (hj : j < 2 * k) : wr.cell? ⟨g, 0 + j, none⟩ = some (xs.getD j undef) := by
  rcases h.own.2 with ⟨e, h0⟩ | ⟨g', cap, cur, e, hB, hg, hle, hmax, hsz, htk⟩
  · cases e
  · cases e
    have hx := h.own.1
    refine cell_at (fr := (0, 0)) hg ?_
    rw [Nat.zero_add]
    have e : (cur.toList.take (k * 2))[j]? = xs[j]? := by rw [htk]
    rw [List.getElem?_take_of_lt (by omega)] at e
    rw [← Array.getElem?_toList, e]
    have : j < xs.length := by omega
    simp [this]
theorem ListAt.form {W0 wr : World} {v : Value} {k : Nat} {xs : List Value} {F : List (List Int)} (h : ListAt W0 wr v k xs F) (hk : 0 < k) : ∃ g c, v = .slice (some ⟨g, 0, none⟩) k c ∧ W0.heap.size ≤ g ∧ g < wr.heap.size ∧ k ≤ c := by
  rcases h.own.2 with ⟨e, h0⟩ | ⟨g', cap, cur, e, hB, hg, hle, hmax, hsz, htk⟩
  · omega
  · exact ⟨g', cap, e, hB, lt_of_heapA hg, hle⟩
theorem results_arr_int {fn : Func} {p q : Tmp} (h : fn.results = #[.cell p 26, .cell q 3]) (tmps : Array Value) (w : World) (g k : Nat) (x y z : Value) (hp : tmps.getD p undef = .pointer (some ⟨g, 0, none⟩)) (hq : tmps.getD q undef = .pointer (some ⟨k, 0, none⟩))
    (hg : w.heap[g]? = some (.cells #[x, y] 26 (0, 0))) (hk : w.cell? ⟨k, 0, none⟩ = some z) : (results fn tmps).run Tryz.prog w = .ok (.tuple #[.agg #[x, y], z]) w := by
  have e : (asAddr (.pointer (some ⟨g, 0, none⟩))).run Tryz.prog w = .ok ⟨g, 0, none⟩ w := by simp [asAddr]
  have e' : (asAddr (.pointer (some ⟨k, 0, none⟩))).run Tryz.prog w = .ok ⟨k, 0, none⟩ w := by simp [asAddr]
  have l := arr_loaded hg
  have l' : (loadVar 3 ⟨k, 0, none⟩).run Tryz.prog w = .ok z w := by simp [loadVar, go_sem, hk]
  have hp' : tmps[p]?.getD undef = .pointer (some ⟨g, 0, none⟩) := by simpa using hp
  have hq' : tmps[q]?.getD undef = .pointer (some ⟨k, 0, none⟩) := by simpa using hq
  simp [results, h, hp', hq', e, e', l, l', Sem.run_bind, Result.andThen]
theorem blocks4r (w : World) (A B C D : Obj) :
    ((((w.alloc A).alloc B).alloc C).alloc D).heap[w.heap.size + 1]? = some B ∧ ((((w.alloc A).alloc B).alloc C).alloc D).heap[w.heap.size + 2]? = some C ∧ ((((w.alloc A).alloc B).alloc C).alloc D).heap[w.heap.size + 3]? = some D := by
  have s1 : (w.alloc A).heap.size = w.heap.size + 1 := by simp
  have s2 : ((w.alloc A).alloc B).heap.size = w.heap.size + 2 := by simp
  have s3 : (((w.alloc A).alloc B).alloc C).heap.size = w.heap.size + 3 := by simp
  refine ⟨?_, ?_, ?_⟩
  · have := ((bAlloc (bAlloc (Below.refl _ ((w.alloc A).alloc B)) C) D).block (w.alloc A).heap.size (by omega)).trans (heap_alloc_new (w.alloc A) B)
    rw [s1] at this; exact this
  · have := ((bAlloc (Below.refl _ (((w.alloc A).alloc B).alloc C)) D).block ((w.alloc A).alloc B).heap.size (by omega)).trans (heap_alloc_new ((w.alloc A).alloc B) C)
    rw [s2] at this; exact this
  · have := heap_alloc_new (((w.alloc A).alloc B).alloc C) D
    rw [s3] at this; exact this
def slA : Value → Option Addr
  | .slice a _ _ => a
  | _ => none
def slC : Value → Nat
  | .slice _ _ c => c
  | _ => 0
theorem sl_ints {w : World} {v : Value} {l : List Int} (h : IntsI w v l) : v = .slice (slA v) l.length (slC v) := by
  obtain ⟨a, c, rfl, _, _⟩ := h
  rfl
/-- The arrays of such a list, one by one. -/
theorem ListAt.each {W0 wr : World} {g c k : Nat} {xs : List Value} {t : List Int} {R : List (List Int)} (h : ListAt W0 wr (.slice (some ⟨g, 0, none⟩) k c) k xs (flatR t R)) (hR : R.length = k) {rg : Nat → List Int} (hrg : ∀ j, rg j = R.getD j []) : ∃ (xa ya : Nat → Option Addr) (xc yc : Nat → Nat), ∀ j, j < k →
    wr.cell? ⟨g, j * 2, none⟩ = some (.slice (xa j) t.length (xc j)) ∧ wr.cell? ⟨g, j * 2 + 1, none⟩ = some (.slice (ya j) (rg j).length (yc j)) ∧ ArrI W0 (.agg #[.slice (xa j) t.length (xc j), .slice (ya j) (rg j).length (yc j)]) t (rg j) := by
  refine ⟨fun j => slA (xs.getD (2 * j) undef), fun j => slA (xs.getD (2 * j + 1) undef), fun j => slC (xs.getD (2 * j) undef), fun j => slC (xs.getD (2 * j + 1) undef), ?_⟩
  intro j hj
  have c0 := h.cell (j := 2 * j) (by omega)
  have c1 := h.cell (j := 2 * j + 1) (by omega)
  have i0 := h.ints (2 * j) (by omega)
  have i1 := h.ints (2 * j + 1) (by omega)
  obtain ⟨f0, f1⟩ := flatR_at t R (i := j) (by omega)
  rw [f0] at i0
  rw [f1, ← hrg] at i1
  have s0 := sl_ints i0
  have s1 := sl_ints i1
  rw [Nat.zero_add] at c0
  rw [Nat.zero_add] at c1
  have e : j * 2 = 2 * j := Nat.mul_comm j 2
  refine ⟨by rw [e, c0]; exact congrArg _ s0, by rw [e, c1]; exact congrArg _ s1, ?_⟩
  simp only []
  rw [← s0, ← s1]
  obtain ⟨a, c, e, g1, h1⟩ := i0
  obtain ⟨b, f, e', g2, h2⟩ := i1
  rw [e, e']
  exact ⟨a, c, b, f, rfl, h1, h2, g1, g2⟩
set_option maxRecDepth 100000 in
set_option maxHeartbeats 8000000 in
/-- reducing's closure, of an array of one row at least. -/
theorem reduce1_impl {g : Int} {n0 : Int} {t d : List Int} {w : World} {v : Value} {o : Nat} (h : ArrI w v (n0 :: t) d) (ho : arrOk (n0 :: t) d = true) (hp : 0 < n0) (hg : w.cell? ⟨o, 0, none⟩ = some (.int .i64 g)) (hol : o < w.heap.size) :
    Calls Tryz.prog 75 #[v, .pointer (some ⟨o, 0, none⟩)] w fun r w' => ∃ v', r = .returned (.tuple #[v', .int .i64 (redL g t (rowsD (n0 :: t) d)).1]) ∧ Arr w.heap.size w'.heap.size w' v' (if (redL g t (rowsD (n0 :: t) d)).1 = 0 then t else []) (redL g t (rowsD (n0 :: t) d)).2 ∧ Below w.heap.size w w' := by
  have H : Hid (ArrI w v (n0 :: t) d) := h
  obtain ⟨a, c, b, f, rfl, _, _, _, _⟩ := h
  have HO : Hid (arrOk (n0 :: t) d = true) := ho
  have HRK : Hid (∀ i, i < (rowsD (n0 :: t) d).length → arrOk t ((rowsD (n0 :: t) d).getD i []) = true) := rowsD_ok ho (by simp)
  have hh := head_bd ho
  simp only [List.getD_cons_zero] at hh
  obtain ⟨M, hM⟩ : ∃ M : Nat, rowsN (n0 :: t) = M + 1 := ⟨n0.toNat - 1, by simp [rowsN]; omega⟩
  have hM3 : M ≤ 299 := by have : rowsN (n0 :: t) = n0.toNat := by simp [rowsN]
                           omega
  have HRL : Hid ((rowsD (n0 :: t) d).length = M + 1) := by show _ = _; rw [rowsD_len, hM]
  have HCO : Hid (∀ W q, Below w.heap.size w W → Box W q (.slice a (t.length + 1) c) (.slice b d.length f) 26 → Calls Tryz.prog 76 #[.func (.func 74) #[] #[.pointer (some ⟨q, 0, none⟩)]] W fun e w' => ∃ v xs, e = .returned v ∧ ListAt W w' v (M + 1) xs (flatR t (rowsD (n0 :: t) d))) := fun W q hb hB => by
    have q := collect_rows (H.out.keep hb) ho hB
    rw [hM] at q
    exact q
  generalize rowsD (n0 :: t) d = R at *
  obtain ⟨rg, hrg⟩ : ∃ rg : Nat → List Int, ∀ j, rg j = R.getD j [] := ⟨_, fun _ => rfl⟩
  have HRG : Hid (∀ j, rg j = R.getD j []) := hrg
  have HTL : Hid (t.length ≤ 1048576) := by
    have := (sizeV_ok (arrOk_shape (HRK.out 0 (by have := HRL.out; omega)))).1
    show _ ≤ _; omega
  have hRD : ∀ i, i < M + 1 → (rg i).length ≤ 300 := fun i hi => by rw [hrg]; exact arrOk_len (HRK.out i (by have := HRL.out; omega))
  obtain ⟨QC, hQC⟩ : ∃ QC, QC = (redL g t R).1 := ⟨_, rfl⟩
  obtain ⟨QS, hQS⟩ : ∃ QS, QS = (if (redL g t R).1 = 0 then t else []) := ⟨_, rfl⟩
  obtain ⟨QD, hQD⟩ : ∃ QD, QD = (redL g t R).2 := ⟨_, rfl⟩
  rw [← hQS, ← hQC, ← hQD]
  have EG : Hid (∀ d, redL g t R = (0, d) → QC = 0 ∧ QS = t ∧ QD = d) := fun d e => by rw [hQC, hQS, hQD, e]; exact ⟨rfl, if_pos rfl, rfl⟩
  have EB : Hid (∀ c, c ≠ 0 → redL g t R = (c, []) → QC = c ∧ QS = [] ∧ QD = []) := fun c hc e => by rw [hQC, hQS, hQD, e]; exact ⟨rfl, if_neg hc, rfl⟩
  have hne : ((M : Int) + 1 == 0) = false := by simp; omega
  clear hQC hQS hQD ho hh hM hp hrg
  refine (callsIn_wide (n := 8)).1 ?_
  refine callsIn_of_wp_marks Tryz.func75 rfl trivial ?_ rfl
  simp only [Tryz.ntmps75, List.size_toArray, List.length_cons, List.length_nil, Nat.reduceAdd, Nat.reduceSub, Array.replicate_succ, Array.replicate_zero, List.push_toArray, List.append_toArray, List.nil_append, List.cons_append]
  gi_wp2_with fail
  refine ⟨trivial, (cutRows_in _ _ _ _ rfl rfl).mono ?_⟩
  rintro rr w2 ⟨rfl, hw⟩
  have hsz2 : w2.heap.size = w.heap.size + 4 := by rw [hw]; simp
  have BK : Hid (w2.heap[w.heap.size + 1]? = some (.cells #[.slice none 0 0, .slice none 0 0] 26 (0, 0)) ∧ w2.heap[w.heap.size + 2]? = some (.cells #[.int .i64 0] 3 (0, 0)) ∧ w2.heap[w.heap.size + 3]? = some (.cells #[.slice a (t.length + 1) c, .slice b d.length f] 26 (0, 0))) := by rw [hw]; exact blocks4r w _ _ _ _
  have B2 : Hid (Below w.heap.size w w2) := by rw [hw]; exact bAlloc (bAlloc (bAlloc (bAlloc (Below.refl _ _) _) _) _) _
  clear hw
  gi_wp2_with fail
  refine ⟨trivial, (callsIn_wide.2 (HCO.out w2 (w.heap.size + 3) B2.out BK.out.2.2)).mono ?_⟩
  rintro rr w3 ⟨v3, xs, rfl, hL⟩
  obtain ⟨G, cc, rfl, hG1, hG2, hcc⟩ := hL.form (by omega)
  obtain ⟨xa, ya, xc, yc, HX⟩ := hL.each HRL.out HRG.out
  have HXX : Hid (∀ j, j < M + 1 → w3.cell? ⟨G, j * 2, none⟩ = some (.slice (xa j) t.length (xc j)) ∧ w3.cell? ⟨G, j * 2 + 1, none⟩ = some (.slice (ya j) (rg j).length (yc j)) ∧ ArrI w2 (.agg #[.slice (xa j) t.length (xc j), .slice (ya j) (rg j).length (yc j)]) t (rg j)) := HX
  have B3 : Hid (Below w2.heap.size w2 w3) := hL.below
  obtain ⟨m0, m1, mA⟩ := HX M (by omega)
  have HMA : Hid (ArrI w3 _ t (rg M)) := mA.keep hL.below
  have hsl := fun W => slice_uptoA W G (M + 1) cc M (by omega)
  have hS3 : Hid (w2.heap.size ≤ w3.heap.size) := hL.below.size
  have hml := hRD M (by omega)
  clear hL mA HX HCO
  gi_wp2_with fail
  refine ⟨trivial, (callsIn_wide.2 (copyOf_impl HMA.out HTL.out (by omega))).mono ?_⟩
  rintro rr w4 ⟨v4, rfl, ha4, hb4⟩
  obtain ⟨x4, xc4, y4, yc4, rfl, _, _, _, _⟩ := ha4.arrI
  have A4 : Hid (Arr w3.heap.size w4.heap.size w4 (.agg #[.slice x4 t.length xc4, .slice y4 (rg M).length yc4]) t (rg M)) := ha4
  have B4 : Hid (Below w3.heap.size w3 w4) := hb4
  clear ha4 hb4
  gi_wp2_with fail
  refine ⟨trivial, (backwardA_in _ _ _ rfl).mono ?_⟩
  rintro rr w6 ⟨rfl, hw⟩
  have hsz6 : w6.heap.size = w4.heap.size + 2 := by rw [hw]; simp
  have B46 : Hid (Below w4.heap.size w4 w6) := by rw [hw]; exact bAlloc (bAlloc (Below.refl _ _) _) _
  have Z6 : Hid (Box w6 w4.heap.size (.slice x4 t.length xc4) (.slice y4 (rg M).length yc4) 26) := by rw [hw]; exact (box_new w4 _ _ _).keep (bAlloc (Below.refl _ _) _)
  have Q6 : Hid (w6.cell? ⟨w4.heap.size + 1, 0, none⟩ = some (.slice (some ⟨G, 0, none⟩) M cc)) := by
    have q := heap_alloc_new (w4.alloc (.cells #[.slice x4 t.length xc4, .slice y4 (rg M).length yc4] 26)) (.cells #[.slice (some ⟨G, 0, none⟩) M cc] 32)
    rw [World.size_alloc] at q
    rw [hw]
    exact cell_at q rfl
  have s34 := B4.out.size
  have s23 := hS3.out
  have BW6 : Hid (Below w2.heap.size w2 w6) := bTrans B3.out (bTrans B4.out B46.out)
  have RD6 : Hid (RdI w6 w6 w.heap.size w4.heap.size (.slice x4 t.length xc4) (.slice y4 (rg M).length yc4) t (rg M)) :=
    ⟨But.refl _ _, Z6.out, ⟨w3.heap.size, w4.heap.size, A4.out.keep B46.out, by omega, by omega, .inl (Nat.le_refl _)⟩⟩
  have hG6 : G < w6.heap.size := by omega
  have h06 : ∀ j, j < M → w6.cell? ⟨G, 0 + j * 2, none⟩ = some (.slice (xa j) t.length (xc j)) ∧ w6.cell? ⟨G, 0 + j * 2 + 1, none⟩ = some (.slice (ya j) (rg j).length (yc j)) := fun j hj => by
    obtain ⟨q0, q1, _⟩ := HXX.out j (by omega)
    rw [Nat.zero_add]
    exact ⟨((bTrans B4.out B46.out).cell (p := ⟨G, j * 2, none⟩) hG2).trans q0, ((bTrans B4.out B46.out).cell (p := ⟨G, j * 2 + 1, none⟩) hG2).trans q1⟩
  have R36 : Hid (Box w6 (w.heap.size + 1) (.slice none 0 0) (.slice none 0 0) 26) := Box.keep (w := w2) BK.out.1 BW6.out
  have R46 : Hid (w6.heap[w.heap.size + 2]? = some (.cells #[.int .i64 0] 3 (0, 0))) := (BW6.out.block _ (by omega)).trans BK.out.2.1
  have G6 : Hid (w6.cell? ⟨o, 0, none⟩ = some (.int .i64 g)) := ((bTrans B2.out BW6.out).cell (p := ⟨o, 0, none⟩) hol).trans hg
  clear hw m0 m1 hsl hml
  gi_wp2_with fail
  refine wpIn_rangeFunc_ownH rfl (by decide) (gf := 104) (lb := #[.pointer (some ⟨w4.heap.size + 1, 0, none⟩)]) rfl trivial (enters_of Tryz.func104 (by kernel_rfl) rfl)
    (backA_stops 7 (w4.heap.size + 1) G 0 cc M (some ⟨G, 0, none⟩) xa ya (fun _ => t.length) xc (fun j => (rg j).length) yc (by decide) (by omega) (fun _ => rfl) w6 (by omega) hG6 Q6.out h06) keepsTwo_t (keepsTwo_b (by omega) hG6) (Below.refl _ _) (fun _ => rfl)
    (fun pre W => ∃ xa ya xc yc D, accR g t R M pre = (0, D) ∧ RdI w6 W w.heap.size w4.heap.size (.slice xa t.length xc) (.slice ya D.length yc) t D)
    (fun c pre W => c = Code.ret ∧ ∃ C, C ≠ 0 ∧ (accR g t R M pre).1 = C ∧ Box W (w.heap.size + 1) (.slice none 0 0) (.slice none 0 0) 26 ∧ W.heap[w.heap.size + 2]? = some (.cells #[.int .i64 C] 3 (0, 0)) ∧ Below w.heap.size w W)
    ?hI ?hIx
    ⟨_, _, _, _, _, by rw [accR_nil, ← HRG.out], RD6.out⟩
    (fun x a' W => ∃ Bx, w6.heap.size ≤ Bx ∧ Box W Bx (.slice (xa (M - 1 - x.1)) t.length (xc (M - 1 - x.1))) (.slice (ya (M - 1 - x.1)) (rg (M - 1 - x.1)).length (yc (M - 1 - x.1))) 26 ∧ a' = { tmps := #[.agg #[.slice a (t.length + 1) c, .slice b d.length f], .pointer (some ⟨o, 0, none⟩), .pointer (some ⟨w.heap.size, 0, none⟩), .pointer (some ⟨w.heap.size + 1, 0, none⟩), .pointer (some ⟨w.heap.size + 1 + 1, 0, none⟩), .slice (some ⟨G, 0, none⟩) (M + 1) cc, .int .i64 (M : Int), .pointer (some ⟨w4.heap.size, 0, none⟩), undef, .pointer (some ⟨Bx, 0, none⟩), undef, undef, .agg #[.slice a (t.length + 1) c, .slice b d.length f], .func (.func 74) #[] #[.pointer (some ⟨w.heap.size + 1 + 1 + 1, 0, none⟩)], .slice (some ⟨G, 0, none⟩) (M + 1) cc, .slice (some ⟨G, 0, none⟩) (M + 1) cc, .int .i64 ((M : Int) + 1), .bool false, undef, undef, undef, undef, undef, undef, undef, .slice (some ⟨G, 0, none⟩) (M + 1) cc, .int .i64 ((M : Int) + 1), .int .i64 (M : Int), .slice (some ⟨G, 0, none⟩) (M + 1) cc, .int .i64 (M : Int), .pointer (some ⟨G, M * 2, none⟩), .agg #[.slice (xa M) t.length (xc M), .slice (ya M) (rg M).length (yc M)], .agg #[.slice x4 t.length xc4, .slice y4 (rg M).length yc4], .slice (some ⟨G, 0, none⟩) (M + 1) cc, .int .i64 (M : Int), .slice (some ⟨G, 0, none⟩) M cc, .func (.func 104) #[] #[.pointer (some ⟨w4.heap.size + 1, 0, none⟩)], .int .i64 ((M - 1 - x.1 : Nat) : Int), .agg #[.slice (xa (M - 1 - x.1)) t.length (xc (M - 1 - x.1)), .slice (ya (M - 1 - x.1)) (rg (M - 1 - x.1)).length (yc (M - 1 - x.1))], undef, undef, undef, undef, undef, undef, undef, undef, undef, undef, undef, undef, undef], defers := [] })
    ?hAx ?assign ?body ?done ?stop
  case hI =>
    rintro pre X Y row ⟨xa5, ya5, xc5, yc5, D, hD, hst⟩ hgr hrow
    exact ⟨_, _, _, _, D, hD, hst.grown hgr (fun r e => hrow r e)⟩
  case hIx =>
    rintro c' pre X Y row ⟨hc', C, h1, h2, h3, h4, h5⟩ hgr hrow
    have hne : ∀ j, j < w6.heap.size → some j ≠ row := fun j hj e => by have := (hrow j e.symm).1; omega
    refine ⟨hc', C, h1, h2, ?_, ?_, ?_⟩
    · unfold Box at h3 ⊢
      rw [hgr.block _ (lt_of_heapA h3) (hne _ (by omega))]
      exact h3
    · rw [hgr.block _ (lt_of_heapA h4) (hne _ (by omega))]
      exact h4
    · exact ⟨hgr.os.trans h5.os, hgr.tape.trans h5.tape, hgr.output.trans h5.output, Nat.le_trans h5.size hgr.size, fun j hj => (hgr.block j (by have := h5.size; omega) (hne _ (by omega))).trans (h5.block j hj)⟩
  case hAx =>
    rintro x a' _ X Y row ⟨Bx, h1, h2, h3⟩ hgr hr'
    refine ⟨Bx, h1, ?_, h3⟩
    unfold Box at h2 ⊢
    rw [hgr.block Bx (lt_of_heapA h2) (fun e' => ?_)]
    · exact h2
    · obtain ⟨_, o, ho, hcc⟩ := hr' Bx e'.symm; rw [h2] at ho; cases ho; cases hcc
  case assign =>
    rintro l pre x W K ⟨xa5, ya5, xc5, yc5, D, hD, hst⟩ hK
    have hsW := hst.bt.size
    gi_wp2
    refine hK _ _ ((KeepsOthers.alloc _ _).from _) ⟨Below.heap_alloc _ _ _ (by omega), Below.heap_alloc _ _ _ (by omega)⟩ ⟨_, _, _, _, D, hD, hst.grown (World.grownBy_alloc W _ none) (fun r e => by cases e)⟩ ⟨W.heap.size, hsW, box_new W _ _ _, rfl⟩
  case body =>
    rintro l pre x a' W hl _ ⟨xa5, ya5, xc5, yc5, D, hD, hst⟩ ⟨Bx, hBx, hX, rfl⟩ hlt
    have HD : Hid (accR g t R M pre = (0, D)) := hD
    have HST : Hid (RdI w6 W w.heap.size w4.heap.size (.slice xa5 t.length xc5) (.slice ya5 D.length yc5) t D) := hst
    have hi : M - 1 - x.1 < M + 1 := by omega
    obtain ⟨_, _, hAi⟩ := HXX.out (M - 1 - x.1) hi
    have BWW : Hid (Below w2.heap.size w2 W) := BW6.out.trans (hst.bt.below (by omega) (by omega))
    have HAI : Hid (ArrI W (.agg #[.slice (xa (M - 1 - x.1)) t.length (xc (M - 1 - x.1)), .slice (ya (M - 1 - x.1)) (rg (M - 1 - x.1)).length (yc (M - 1 - x.1))]) t (rg (M - 1 - x.1))) := hAi.keep BWW.out
    have HRI : Hid ((rg (M - 1 - x.1)).length ≤ 1048576) := by have := hRD _ hi; show _ ≤ _; omega
    have HDL : Hid (D.length ≤ 1048576) := by
      have q := accR_len (g := g) (t := t) (R := R) (m := M) (by rw [← HRG.out]; exact hRD M (by omega)) pre
      rw [hD] at q
      show _ ≤ _
      simp only [] at q
      omega
    have HSN : Hid (accR g t R M (pre ++ [x]) = (eachTwoC g t (rg (M - 1 - x.1)) t D, eachTwoD g t (rg (M - 1 - x.1)) t D)) := by show _ = _; rw [HRG.out]; exact accR_snoc x hD
    have HE : Hid (Calls Tryz.prog 20 #[.int .i64 g, .agg #[.slice (xa (M - 1 - x.1)) t.length (xc (M - 1 - x.1)), .slice (ya (M - 1 - x.1)) (rg (M - 1 - x.1)).length (yc (M - 1 - x.1))], .agg #[.slice xa5 t.length xc5, .slice ya5 D.length yc5]] W fun r w' => ∃ v', r = .returned (.tuple #[v', .int .i64 (eachTwoC g t (rg (M - 1 - x.1)) t D)]) ∧ Arr W.heap.size w'.heap.size w' v' (eachTwoS g t (rg (M - 1 - x.1)) t D) (eachTwoD g t (rg (M - 1 - x.1)) t D) ∧ Below W.heap.size W w') := eachTwo_impl HAI.out hst.arrI HTL.out HRI.out HTL.out HDL.out
    have HSH : Hid (eachTwoC g t (rg (M - 1 - x.1)) t D = 0 → eachTwoS g t (rg (M - 1 - x.1)) t D = t) := row_shape
    obtain ⟨C, hC⟩ : ∃ C, C = eachTwoC g t (rg (M - 1 - x.1)) t D := ⟨_, rfl⟩
    obtain ⟨S', hS'⟩ : ∃ S', S' = eachTwoS g t (rg (M - 1 - x.1)) t D := ⟨_, rfl⟩
    obtain ⟨D', hD'⟩ : ∃ D', D' = eachTwoD g t (rg (M - 1 - x.1)) t D := ⟨_, rfl⟩
    rw [← hC, ← hS', ← hD'] at HE
    rw [← hC, ← hS'] at HSH
    rw [← hC, ← hD'] at HSN
    have s6 := hst.bt.size
    have x0 := hX.c0
    have x1 := hX.c1
    have z0 := hst.z.c0
    have z1 := hst.z.c1
    have g0 : W.cell? ⟨o, 0, none⟩ = some (.int .i64 g) := (hst.bt.cell (p := ⟨o, 0, none⟩) (by show o < w6.heap.size; omega) (by show o ≠ w4.heap.size; omega)).trans G6.out
    clear hC hS' hD' hD hAi hst
    gi_wp2_with fail
    refine ⟨trivial, (CallsIn.inRound l (callsIn_wide.2 HE.out)).mono ?_⟩
    rintro rr w7 ⟨v7, rfl, ha7, hb7⟩
    obtain ⟨x7, xc7, y7, yc7, rfl, _, _, _, _⟩ := ha7.arrI
    have A7 : Hid (Arr W.heap.size w7.heap.size w7 (.agg #[.slice x7 S'.length xc7, .slice y7 D'.length yc7]) S' D') := ha7
    have B7 : Hid (Below W.heap.size W w7) := hb7
    have s7 := hb7.size
    clear ha7 hb7 x0 x1 z0 z1 g0
    by_cases hc : C = 0
    · obtain rfl : S' = t := HSH.out hc
      have hcb : (C != 0) = false := by simpa using hc
      have BO : Hid (∀ O, Below W.heap.size W (w7.alloc O)) := fun O => bAlloc B7.out O
      have n0 : ∀ O : Obj, (w7.alloc O).cell? ⟨w4.heap.size, 0, none⟩ = some (.slice xa5 S'.length xc5) := fun O => (HST.out.z.keep (BO.out O)).c0
      have n1 : ∀ O : Obj, (w7.alloc O).cell? ⟨w4.heap.size, 1, none⟩ = some (.slice ya5 D.length yc5) := fun O => (HST.out.z.keep (BO.out O)).c1
      have f0 : ∀ O : Obj, (w7.alloc O).frozen? ⟨w4.heap.size, 0, none⟩ = false := fun O => free_at (HST.out.z.keep (BO.out O)) 0
      have f1 : ∀ O : Obj, (w7.alloc O).frozen? ⟨w4.heap.size, 1, none⟩ = false := fun O => free_at (HST.out.z.keep (BO.out O)) 1
      have HAC : Hid (accR g S' R M (pre ++ [x]) = (0, D')) := by show _ = _; rw [HSN.out, hc]
      clear hc
      gi_wp2
      refine ⟨keepsFrom_put (BO.out _) (by omega), keepsTwo_put (BO.out _) (by omega) (by omega) (by omega) (by omega), _, _, _, _, D', HAC.out, HST.out.put (C := w7.heap.size) (BO.out _) (A7.out.keep (bAlloc (Below.refl _ _) _)) (by simp) (by omega)⟩
    · have hcb : (C != 0) = true := by simpa using hc
      have BO : Hid (∀ O, Below W.heap.size W (w7.alloc O)) := fun O => bAlloc B7.out O
      have RX : Hid (∀ O, Box (w7.alloc O) (w.heap.size + 1) (.slice none 0 0) (.slice none 0 0) 26) := fun O => (box_but R36.out HST.out.bt (by omega)).keep (BO.out O)
      have RY : Hid (∀ O, (w7.alloc O).heap[w.heap.size + 2]? = some (.cells #[.int .i64 0] 3 (0, 0))) := fun O => ((BO.out O).block _ (by omega)).trans ((HST.out.bt.block _ (by omega) (by omega)).trans R46.out)
      have n0 : ∀ O : Obj, (w7.alloc O).cell? ⟨w.heap.size + 1, 0, none⟩ = some (.slice none 0 0) := fun O => (RX.out O).c0
      have n1 : ∀ O : Obj, (w7.alloc O).cell? ⟨w.heap.size + 1, 1, none⟩ = some (.slice none 0 0) := fun O => (RX.out O).c1
      have f0 : ∀ O : Obj, (w7.alloc O).frozen? ⟨w.heap.size + 1, 0, none⟩ = false := fun O => free_at (RX.out O) 0
      have f1 : ∀ O : Obj, (w7.alloc O).frozen? ⟨w.heap.size + 1, 1, none⟩ = false := fun O => free_at (RX.out O) 1
      have n2 : ∀ O : Obj, (w7.alloc O).cell? ⟨w.heap.size + 1 + 1, 0, none⟩ = some (.int .i64 0) := fun O => cell_at (RY.out O) rfl
      have f2 : ∀ O : Obj, (w7.alloc O).frozen? ⟨w.heap.size + 1 + 1, 0, none⟩ = false := fun O => free_at (RY.out O) 0
      have HCN : Hid (C ≠ 0) := hc
      clear hc
      have HWW : Hid (Below w.heap.size w W) := (bTrans B2.out BW6.out).trans (HST.out.bt.below (by omega) (by omega))
      gi_wp2
      obtain ⟨k1, k2, k3, k4⟩ := red_bad (C := C) (B := w6.heap.size) rfl (BO.out _) (bTrans HWW.out (BO.out _)) (RX.out _) (RY.out _) (by omega)
      exact ⟨k1, rfl, C, HCN.out, by rw [HSN.out], k2, k3, k4⟩
  case done =>
    rintro D' zs W hD' rfl ⟨xa5, ya5, xc5, yc5, D, hD, hst⟩ hK
    have HST : Hid (RdI w6 W w.heap.size w4.heap.size (.slice xa5 t.length xc5) (.slice ya5 D.length yc5) t D) := hst
    have hR : redL g t R = (0, D) := by
      have q := accR_to (g := g) (t := t) HRL.out M (Nat.le_refl _)
      rw [List.take_of_length_le (by simp), Nat.sub_self, List.drop_zero, hD] at q
      exact q.symm
    obtain ⟨rfl, rfl, rfl⟩ := EG.out _ hR
    have s6 := hst.bt.size
    have RX : Hid (Box W (w.heap.size + 1) (.slice none 0 0) (.slice none 0 0) 26) := box_but R36.out hst.bt (by omega)
    have RY : Hid (W.heap[w.heap.size + 2]? = some (.cells #[.int .i64 0] 3 (0, 0))) := (hst.bt.block _ (by omega) (by omega)).trans R46.out
    have z0 := hst.z.c0
    have z1 := hst.z.c1
    have n0 := RX.out.c0
    have n1 := RX.out.c1
    have f0 : W.frozen? ⟨w.heap.size + 1, 0, none⟩ = false := free_at RX.out 0
    have f1 : W.frozen? ⟨w.heap.size + 1, 1, none⟩ = false := free_at RX.out 1
    have n2 : W.cell? ⟨w.heap.size + 1 + 1, 0, none⟩ = some (.int .i64 0) := cell_at RY.out rfl
    have f2 : W.frozen? ⟨w.heap.size + 1 + 1, 0, none⟩ = false := free_at RY.out 0
    have HWW : Hid (Below w.heap.size w W) := (bTrans B2.out BW6.out).trans (hst.bt.below (by omega) (by omega))
    clear hD hst
    gi_wp2
    obtain ⟨B, C, ha, hB, hC, _⟩ := HST.out.a
    obtain ⟨V, hV, k1, k2, k3, k4, k5, k6⟩ := red_good (D' := D') rfl HWW.out RX.out RY.out ha hB (by omega) hK
    rw [← hV]
    obtain ⟨m1, m2, m3, m4⟩ := red_ret (w := w) (N0 := w.heap.size) (D' := D') (by omega) k1 k2 k3 k4
    refine ⟨by simp, .inl ⟨_, _, rfl, run_takeDeferred k1, ?_⟩⟩
    refine ⟨_, results_arr_int rfl _ _ (w.heap.size + 1) (w.heap.size + 1 + 1) _ _ _ rfl rfl m1 m2, _, rfl, (m4 _ _ _ _ _ k5).mono (by omega) ?_, m3⟩
    have := (grownBy_putObj' V D' (.deferred none)).size
    omega
  case stop =>
    rintro D' c' pre W hD' hSp ⟨rfl, C, h1, h2, h3, h4, h5⟩ hK
    obtain ⟨k, hk, rfl⟩ := hSp
    have hR : redL g t R = (C, []) := by
      have q := accR_to (g := g) (t := t) HRL.out k hk
      have h2' : (accR g t R M ((List.finRange M).take k)).1 = C := h2
      rw [q] at h2'
      have q2 := redL_left (g := g) (t := t) R (M - k) (by rw [h2']; exact h1)
      rw [h2'] at q2
      exact q2
    obtain ⟨rfl, rfl, rfl⟩ := EB.out _ h1 hR
    gi_wp2
    obtain ⟨m1, m2, m3, m4⟩ := red_ret (w := w) (N0 := w.heap.size) (D' := D') (by omega) hK h3 h4 h5
    refine ⟨by simp, .inl ⟨_, _, rfl, run_takeDeferred hK, ?_⟩⟩
    exact ⟨_, results_arr_int rfl _ _ (w.heap.size + 1) (w.heap.size + 1 + 1) _ _ _ rfl rfl m1 m2, _, rfl, arr_zero _ _ _, m3⟩
end Go.Proofs.YtcpgdhffemecbaaGreat
namespace Go.Proofs.YtcpgdhffemecbaaGreat
set_option linter.unusedVariables false
/-- One number with each of a list: the first code, the numbers. -/
def spreadC (g x : Int) (e : List Int) : Int := firstC (fun j => (twoV g x (e.getD j 0)).2) e.length
def spreadD (g x : Int) (e : List Int) (n : Nat) : List Int := (List.range n).map (fun j => (twoV g x (e.getD j 0)).1)
/-- The first n numbers of d with each of e. -/
def outC (g : Int) (d e : List Int) (n : Nat) : Int := firstC (fun i => spreadC g (d.getD i 0) e) n
def outD (g : Int) (d e : List Int) (n : Nat) : List Int := (List.range n).flatMap (fun i => spreadD g (d.getD i 0) e e.length)
def outerC (g : Int) (s d t e : List Int) : Int := if arrOk s d = true ∧ arrOk t e = true ∧ sign2 g = true then (if 3 < s.length + t.length then 4 else if sizeV (s ++ t) < 0 then 6 else outC g d e d.length) else 1
def outerR (g : Int) (s d t e : List Int) : Int × List Int × List Int := mkR (outerC g s d t e) (s ++ t) (outD g d e d.length)
theorem outerR_bad {g : Int} {s d t e : List Int} (h : ¬ (arrOk s d = true ∧ arrOk t e = true ∧ sign2 g = true)) : outerR g s d t e = (1, [], []) := by
  unfold outerR; rw [show outerC g s d t e = 1 from by unfold outerC; rw [if_neg h]]; rfl
theorem outerR_told {g : Int} {s d t e : List Int} (h1 : arrOk s d = true) (h2 : arrOk t e = true) (h3 : sign2 g = true) :
    outerR g s d t e = if 3 < s.length + t.length then (4, [], []) else if sizeV (s ++ t) < 0 then (6, [], []) else mkR (outC g d e d.length) (s ++ t) (outD g d e d.length) := by
  unfold outerR outerC
  rw [if_pos ⟨h1, h2, h3⟩]
  split
  · rfl
  · split <;> rfl
theorem spreadD_len (g x : Int) (e : List Int) (n : Nat) : (spreadD g x e n).length = n := by simp [spreadD]
theorem spreadD_succ (g x : Int) (e : List Int) (n : Nat) : spreadD g x e (n + 1) = spreadD g x e n ++ [(twoV g x (e.getD n 0)).1] := by
  unfold spreadD; rw [List.range_succ, List.map_append]; rfl
theorem outD_succ (g : Int) (d e : List Int) (n : Nat) : outD g d e (n + 1) = outD g d e n ++ spreadD g (d.getD n 0) e e.length := by
  unfold outD; rw [List.range_succ, List.flatMap_append]; simp
theorem outD_len (g : Int) (d e : List Int) (n : Nat) : (outD g d e n).length = n * e.length := by
  induction n with
  | zero => simp [outD]
  | succ n ih => rw [outD_succ, List.length_append, ih, spreadD_len, Nat.succ_mul]
/-- A number of rank 0 and an array, element by element. -/
theorem each_spread {g x : Int} {t e : List Int} (hx : ok x = true) (h2 : arrOk t e = true) (h3 : sign2 g = true) :
    eachTwoC g [] [x] t e = spreadC g x e ∧ eachTwoS g [] [x] t e = (if spreadC g x e = 0 then t else []) ∧ eachTwoD g [] [x] t e = (if spreadC g x e = 0 then spreadD g x e e.length else []) := by
  have h1 : arrOk [] [x] = true := by simp [arrOk, hx, sizeV_0']
  have hf : fitC [] [x] t e = 0 := by unfold fitC; rw [if_pos ⟨h1, h2⟩, if_pos (.inl rfl)]
  have hS : fitS [] [x] t e = t := by unfold fitS; rw [if_pos hf, if_pos rfl]
  have z2 := arrOk_size h2
  have hN : eachN [] [x] t e = e.length := by unfold eachN; rw [hS]; omega
  have hn : ∀ i, i < e.length → numOf t e i = e.getD i 0 := by
    intro i hi
    unfold numOf
    by_cases ht : t = []
    · subst ht
      rw [sizeV_0'] at z2
      rw [if_pos rfl, show i = 0 by omega]
    · rw [if_neg ht]
  have hm : ∀ i, numOf [] [x] i = x := fun i => by unfold numOf; simp
  have hC : eachTwoC g [] [x] t e = spreadC g x e := by
    unfold eachTwoC spreadC
    rw [if_pos ⟨h1, h2, h3⟩, if_pos hf, hN]
    exact firstC_eq fun i hi => by rw [hm, hn i hi]
  refine ⟨hC, ?_, ?_⟩
  · unfold eachTwoS; rw [hC, hS]
  · unfold eachTwoD spreadD
    rw [hC, hN]
    split
    · apply List.map_congr_left
      intro i hi
      rw [hm, hn i (by simpa using hi)]
    · rfl
end Go.Proofs.YtcpgdhffemecbaaGreat
namespace Go.Proofs.YtcpgdhffemecbaaGreat
open Go.RowKit
set_option linter.unusedVariables false
set_option linter.unusedSimpArgs false
/-- The first k of n places are filled, again and again. -/
def againTo (e : List Int) (n k : Nat) : List Int := (List.range n).map fun i => if i < k then e.getD (i % e.length) 0 else 0
theorem againTo_zero (e : List Int) (n : Nat) : againTo e n 0 = List.replicate n 0 := by
  unfold againTo
  apply List.ext_getElem
  · simp
  · intro i h1 h2; simp
theorem againTo_all {e : List Int} (h : e ≠ []) (n : Nat) : againTo e n n = againD e n := by
  unfold againTo againD
  apply List.map_congr_left
  intro i hi
  rw [if_pos (by simpa using hi), if_neg h]
theorem againD_nil (n : Nat) : againD [] n = List.replicate n 0 := by
  unfold againD
  apply List.ext_getElem
  · simp
  · intro i h1 h2; simp
theorem againTo_length (e : List Int) (n k : Nat) : (againTo e n k).length = n := by simp [againTo]
theorem againTo_at (e : List Int) {n k i : Nat} (hi : i < n) : (againTo e n k).getD i 0 = if i < k then e.getD (i % e.length) 0 else 0 := by
  unfold againTo
  simp [hi]
theorem paste_again {e : List Int} {n k m : Nat} (hk : k % e.length = 0) (hm : m ≤ e.length) (hn : k + m ≤ n) : paste (againTo e n k) k e m = againTo e n (k + m) := by
  apply List.ext_getElem
  · rw [paste_length (by rw [againTo_length]; exact hn) hm, againTo_length, againTo_length]
  · intro i h1 h2
    have hi : i < n := by rwa [againTo_length] at h2
    have q := paste_at (l := againTo e n k) (e := e) (k := k) (m := m) (by rw [againTo_length]; exact hn) hm i
    rw [againTo_at e hi] at q
    have r := againTo_at e (k := k + m) hi
    simp only [List.getD_eq_getElem?_getD] at q r
    rw [List.getElem?_eq_getElem h1] at q
    rw [List.getElem?_eq_getElem h2] at r
    simp only [Option.getD_some] at q r
    rw [q, r]
    by_cases c1 : i < k
    · rw [if_pos c1, if_pos c1, if_pos (by omega)]
    · rw [if_neg c1, if_neg c1]
      by_cases c2 : i < k + m
      · rw [if_pos c2, if_pos c2]
        have : i % e.length = i - k := by
          have e1 : i = k + (i - k) := by omega
          conv => lhs; rw [e1]
          rw [Nat.add_mod, hk, Nat.zero_add, Nat.mod_mod, Nat.mod_eq_of_lt (by omega)]
        rw [this]
      · rw [if_neg c2, if_neg c2]
set_option maxRecDepth 20000 in
set_option maxHeartbeats 2000000 in
/-- againAndAgain. -/
theorem again_impl {e : List Int} {a : Option Addr} {w : World} {n c : Nat} (h : Ints w a e) (he : e.length ≤ 1048576) (hn : n ≤ 1048576) :
    Calls Tryz.prog 127 #[.slice a e.length c, .int .i64 (n : Int)] w fun r w' => r = .returned (.slice (some ⟨w.heap.size, 0, none⟩) n n) ∧ OwnInts w' w.heap.size (againD e n) ∧ Below w.heap.size w w' := by
  have hmk : ∀ w, (Instr.makeSlice 24 (.int .i64 (n : Int)) (.int .i64 (n : Int))).run Tryz.prog w = .ok (.slice (some ⟨w.heap.size, 0, none⟩) n n) (w.alloc (.cells (vals (List.replicate n 0)) 3)) := fun w => make_ints n (by omega) w
  obtain ⟨D, hD⟩ : ∃ D, D = againD e n := ⟨_, rfl⟩
  rw [← hD]
  by_cases h0 : e = []
  · have ED : Hid (D = List.replicate n 0) := by show _ = _; rw [hD, h0, againD_nil]
    subst h0
    clear hD
    simp only [List.length_nil]
    go_enter Tryz.func127, Tryz.ntmps127
    go_wp2
    go_ret
    refine ⟨rfl, ?_, bAlloc (Below.refl _ _) _⟩
    rw [ED.out]
    exact ownInts_new _ _
  · have ED : Hid (D = againTo e n n) := by show _ = _; rw [hD, againTo_all h0]
    have hl : 0 < e.length := by cases e with | nil => exact absurd rfl h0 | cons _ _ => simp
    have hne : ((e.length : Int) == 0) = false := by simp; exact h0
    have HI : Hid (Ints w a e) := h
    have HP : Hid (∀ k m, k % e.length = 0 → m ≤ e.length → k + m ≤ n → paste (againTo e n k) k e m = againTo e n (k + m)) := fun k m a b c => paste_again a b c
    have HCP : Hid (∀ W g l k r dC, Below w.heap.size w W → OwnInts W g l → k + min e.length r ≤ l.length → (Builtin.copy_ #[24, 24] 3 #[.slice (some ⟨g, k, none⟩) r dC, .slice a e.length c]).run Tryz.prog W = .ok (.int .i64 ((min e.length r : Nat) : Int)) (W.setRow g (vals (paste l k e (min e.length r))))) := fun W g l k r dC hb ho hf => copy_paste ho (HI.out.keep hb) hf _ dC c
    clear hD h0 h he
    generalize e.length = p at *
    go_enter Tryz.func127, Tryz.ntmps127
    go_wp2
    go_loopw [6] (fun i w' => ∃ (k r : Nat) (A : Option Addr), k + r = n ∧ i = .slice A r r ∧ (0 < r → A = some ⟨w.heap.size, k, none⟩ ∧ k % p = 0) ∧ OwnInts w' w.heap.size (againTo e n k) ∧ Below w.heap.size w w') (fun i _ => match i with | .slice _ r _ => r | _ => 0)
    case atStart => exact ⟨0, n, _, by omega, rfl, fun _ => ⟨rfl, by simp⟩, by rw [againTo_zero]; exact ownInts_new _ _, bAlloc (Below.refl _ _) _⟩
    case round =>
      obtain ⟨k, r, A, hkr, rfl, hA, hO, hb⟩ := hrel
      have HK : Hid (k + r = n) := hkr
      have HO : Hid (OwnInts wr w.heap.size (againTo e n k)) := hO
      have HB : Hid (Below w.heap.size w wr) := hb
      by_cases hlt : (0 : Int) < (r : Int)
      · obtain ⟨rfl, hk⟩ := hA (by omega)
        have hcp := HCP.out wr w.heap.size (againTo e n k) k r r hb hO (by rw [againTo_length]; omega)
        rw [HP.out k (min p r) hk (by omega) (by omega)] at hcp
        have HM : Hid (min p r ≤ r ∧ 0 < min p r ∧ (0 < r - min p r → (k + min p r) % p = 0)) := ⟨by omega, by omega, fun h => by
          have : min p r = p := by omega
          rw [this, Nat.add_mod_right, hk]⟩
        generalize min p r = m at *
        have hsl := fun W => run_from (a := some ⟨w.heap.size, k, none⟩) (n := r) (c := r) (M := m) HM.out.1 (Nat.le_refl _) W
        have HO' : Hid (OwnInts (wr.setRow w.heap.size (vals (againTo e n (k + m)))) w.heap.size (againTo e n (k + m))) := hO.setRow _
        have HB' : Hid (Below w.heap.size w (wr.setRow w.heap.size (vals (againTo e n (k + m))))) := below_setRow hb (Nat.le_refl _) _
        clear hA hO hb hkr hk
        generalize hW : wr.setRow w.heap.size (vals (againTo e n (k + m))) = W at *
        clear hW
        go_wp2
        go_roundw
        case rel => exact ⟨k + m, r - m, _, by have := HK.out; have := HM.out; omega, rfl, fun h => ⟨by rw [if_neg (by omega)]; first | done | simp [Addr.add], HM.out.2.2 h⟩, HO'.out, HB'.out⟩
        case measure => have := HM.out; show r - m < r; omega
      · obtain rfl : r = 0 := by omega
        obtain rfl : k = n := by omega
        clear hA hO hb hkr
        go_wp2
        go_ret
        exact ⟨rfl, by rw [ED.out]; exact HO.out, HB.out⟩
/-- belowNought. -/
theorem belowN_impl (x : Int) (w : World) : Calls Tryz.prog 126 #[.int .i64 x] w fun r w' => r = .returned (.bool (decide (x < 0))) ∧ w' = w := by
  by_cases h : x < 0
  all_goals
    go_enter Tryz.func126, Tryz.ntmps126
    go_wp2
    go_ret
    exact ⟨by simp [h], rfl⟩
set_option maxRecDepth 20000 in
set_option maxHeartbeats 2000000 in
/-- slices.IndexFunc over belowNought: where there is one below nought. -/
theorem indexBelow_impl {l : List Int} {a : Option Addr} {w : World} {c : Nat} (h : Ints w a l) (hl : l.length ≤ 1048576) :
    Calls Tryz.prog 131 #[.slice a l.length c, .func (.func 126) #[] #[]] w fun r w' => ∃ x : Int, r = .returned (.int .i64 x) ∧ (decide (0 ≤ x) = l.any fun x => decide (x < 0)) ∧ w' = w := by
  have HI : Hid (Ints w a l) := h
  have hE : ∀ (args : Array Value) (w : World), (callFunc 126 args).run Tryz.prog w = .ok (.enter 126 args) w := enters_of Tryz.func126 (by kernel_rfl) rfl
  clear h
  go_enter Tryz.func131, Tryz.ntmps131
  go_wp2
  go_loopw [8] (fun i w' => ∃ k : Nat, k ≤ l.length ∧ i = .int .i64 (k : Int) ∧ ((l.take k).any fun x => decide (x < 0)) = false ∧ w' = w) (fun i _ => l.length - (intOf i).toNat)
  case atStart => exact ⟨0, by omega, rfl, by simp, rfl⟩
  case round =>
    obtain ⟨k, hk, rfl, ht, rfl⟩ := hrel
    have HT : Hid (((l.take k).any fun x => decide (x < 0)) = false) := ht
    clear ht
    by_cases hlt : (k : Int) < (l.length : Int)
    · have L : k < l.length := by omega
      obtain ⟨b1, o1, rfl, _, c1⟩ := HI.out.at L
      have Q : Hid (((l.take (k + 1)).any fun x => decide (x < 0)) = (((l.take k).any fun x => decide (x < 0)) || decide (l.getD k 0 < 0))) := by show _ = _; rw [take_snoc L]; simp
      have QB : Hid (l.getD k 0 < 0 → (l.any fun x => decide (x < 0)) = true) := fun h => by
        rw [List.any_eq_true]
        exact ⟨l.getD k 0, by simp [L], by simpa using h⟩
      clear L
      generalize l.getD k 0 = x at c1 Q QB
      by_cases hx : x < 0
      · have QB' : Hid ((l.any fun x => decide (x < 0)) = true) := QB.out hx
        clear Q QB
        have hd : decide (x < 0) = true := by simp [hx]
        go_wp2_with (go_at_fn 126; refine (belowN_impl x _).mono ?_; rintro r w2 ⟨rfl, hw⟩; subst w2; rw [hd])
        go_ret
        exact ⟨_, rfl, by rw [QB'.out]; simp, rfl⟩
      · have HT' : Hid (((l.take (k + 1)).any fun x => decide (x < 0)) = false) := by show _ = _; rw [Q.out, HT.out]; simpa using hx
        clear Q QB
        have hd : decide (x < 0) = false := by simpa using hx
        go_wp2_with (go_at_fn 126; refine (belowN_impl x _).mono ?_; rintro r w2 ⟨rfl, hw⟩; subst w2; rw [hd])
        go_roundw
        case rel => exact ⟨k + 1, by omega, by go_num, HT'.out, by first | trivial | rfl⟩
        case measure => simp [intOf]; omega
    · have HV : Hid ((l.any fun x => decide (x < 0)) = false) := by
        have h := HT.out
        show _ = _
        rw [List.take_of_length_le (by omega)] at h
        exact h
      go_wp2
      go_ret
      exact ⟨_, rfl, by rw [HV.out]; rfl, rfl⟩
set_option maxRecDepth 20000 in
set_option maxHeartbeats 2000000 in
/-- slices.ContainsFunc over belowNought. -/
theorem containsBelow_impl {l : List Int} {a : Option Addr} {w : World} {c : Nat} (h : Ints w a l) (hl : l.length ≤ 1048576) :
    Calls Tryz.prog 125 #[.slice a l.length c, .func (.func 126) #[] #[]] w fun r w' => r = .returned (.bool (l.any fun x => decide (x < 0))) ∧ w' = w := by
  have HC : Hid (Calls Tryz.prog 131 #[.slice a l.length c, .func (.func 126) #[] #[]] w fun r w' => ∃ x : Int, r = .returned (.int .i64 x) ∧ (decide (0 ≤ x) = l.any fun x => decide (x < 0)) ∧ w' = w) := indexBelow_impl h hl
  clear h
  generalize (l.any fun x => decide (x < 0)) = q at *
  go_enter Tryz.func125, Tryz.ntmps125
  go_wp2_with fail
  refine HC.out.mono ?_
  rintro r w1 ⟨x, rfl, hx, rfl⟩
  clear HC
  by_cases h0 : (0 : Int) ≤ x
  · have E : Hid (q = true) := by show _ = _; rw [← hx]; simpa using h0
    clear hx
    go_wp2
    go_ret
    exact ⟨by rw [E.out]; simp [h0], rfl⟩
  · have E : Hid (q = false) := by show _ = _; rw [← hx]; simpa using h0
    clear hx
    go_wp2
    go_ret
    exact ⟨by rw [E.out]; simp [h0], rfl⟩
end Go.Proofs.YtcpgdhffemecbaaGreat
namespace Go.Proofs.YtcpgdhffemecbaaGreat
open Go.RowKit
set_option linter.unusedVariables false
set_option linter.unusedSimpArgs false
theorem run_between {a : Option Addr} {n c M N : Nat} (hM : M ≤ N) (hc : N ≤ c) (W : World) : (Instr.slice 24 (.slice a n c) (some (.int .i64 (M : Int))) (some (.int .i64 (N : Int))) none).run Tryz.prog W = .ok (.slice (if c - M = 0 then a else a.map (·.add (M * 1))) (N - M) (c - M)) W := by
  have hs : (sizeOf 3).run Tryz.prog W = .ok 1 W := by kernel_rfl
  have he : Tryz.prog.elem 24 = 3 := by kernel_rfl
  rw [run_slice_lh (P := Tryz.prog) (w := W) 24 a n c (by rw [he]; exact Tryz.underlying24) .i64 .i64 (M : Int) (N : Int) (by omega) (by omega) (by omega), he, hs]
  have e : (c = M) = (c - M = 0) := by apply propext; omega
  simp [Result.andThen, sliced, e]
theorem ints_cell5 {w : World} {b o : Nat} {l : List Int} {k : Nat} (h : Ints w (some ⟨b, o, none⟩) l) (hk : k < l.length) : w.cell? ⟨b, o + k, none⟩ = some (.int .i64 (l.getD k 0)) := by
  obtain ⟨b', o', e, hb, hc⟩ := h.at hk
  cases e
  exact hc
theorem ints_from5 {w : World} {b : Option Addr} {d : List Int} {e : Nat} (C : Nat) (h : Ints w b d) (he : d.length ≤ e) : Ints w (if e - C = 0 then b else b.map (·.add (C * 1))) (d.drop C) := by
  by_cases h0 : d.length ≤ C
  · exact .inl (List.drop_of_length_le h0)
  · rw [if_neg (by omega)]
    obtain ⟨b', o', rfl, _, _⟩ := h.at (k := 0) (by omega)
    have := ints_tail C h
    by_cases hC0 : C = 0 <;> simpa [Addr.add, hC0] using this
theorem OwnInts.keep5 {w w' : World} {g : Nat} {l : List Int} (h : OwnInts w g l) (hb : Below w.heap.size w w') : OwnInts w' g l := by
  unfold OwnInts
  rw [hb.block _ (lt_of_heapA h)]
  exact h
theorem measure5 {k n : Nat} (h : wrap64 ((k : Int) + 1) = (k : Int) + 1) (hk : k < n) : n - (wrap64 ((k : Int) + 1)).toNat < n - ((k : Int)).toNat := by
  rw [h]; omega
theorem wrap5 {a : Int} (h1 : -1000000000000000 ≤ a) (h2 : a ≤ 1000000000000000) : wrap64 a = a := by unfold wrap64; omega
/-- A row is copied to its place. -/
theorem copy_row5 {w : World} {g m A B C L e : Nat} {l d : List Int} {b : Option Addr} (ho : OwnInts w g l) (hl : l.length = m) (hi : Ints w b d) (he : d.length ≤ e) (hA : A + L = B) (hB : B ≤ m) (hC : C + L ≤ d.length) (ty : TypeId) :
    (Builtin.copy_ #[24, 24] ty #[.slice (if m - A = 0 then some ⟨g, 0, none⟩ else (some (⟨g, 0, none⟩ : Addr)).map (·.add (A * 1))) (B - A) (m - A), .slice (if e - C = 0 then b else b.map (·.add (C * 1))) (d.length - C) (e - C)]).run Tryz.prog w = .ok (.int .i64 (L : Int)) (w.setRow g (vals (paste l A (d.drop C) L))) := by
  have hi' := ints_from5 (e := e) C hi he
  have hL : B - A = L := by omega
  have hd : (d.drop C).length = d.length - C := by simp
  rw [hL]
  by_cases h0 : m - A = 0
  · obtain rfl : L = 0 := by omega
    rw [if_pos h0, paste_zero, setRow_self w g (vals l) _ _ ho]
    exact run_copy_none (P := Tryz.prog) _ 24 24 ty 3 _ _ _ _ _ _ Tryz.underlying24 int_size (Nat.min_zero _)
  · rw [if_neg h0]
    have q := copy_paste (k := A) (n := L) (l := l) ho hi' (by rw [hd]; omega) ty (m - A) (e - C)
    rw [hd, Nat.min_eq_right (by omega)] at q
    have e1 : (some (⟨g, 0, none⟩ : Addr)).map (·.add (A * 1)) = some ⟨g, A, none⟩ := by
      by_cases hA0 : A = 0 <;> simp [Addr.add, hA0]
    rw [e1]
    exact q
set_option maxRecDepth 20000 in
set_option maxHeartbeats 4000000 in
/-- chosenRows. -/
theorem chosen_impl {s d : List Int} {w : World} {v p : Value} {f n : Nat} {φ : Nat → Int} {z : Int} (hzn : z = (n : Int)) (hE : ∀ (args : Array Value) (w : World), (callFunc f args).run Tryz.prog w = .ok (.enter f args) w) (h : ArrI w v s d) (ho : arrOk s d = true) (hs : s ≠ []) (hz : 0 ≤ sizeV ((n : Int) :: s.drop 1))
    (hV : ∀ (W : World) (k : Nat), k < n → Below w.heap.size w W → Calls Tryz.prog f #[.int .i64 (k : Int), p] W fun r W' => r = .returned (.int .i64 (φ k)) ∧ Below W.heap.size W W') :
    Calls Tryz.prog 80 #[v, .int .i64 z, .func (.func f) #[] #[p]] w fun r w' => ∃ v', r = .returned v' ∧ Arr w.heap.size w'.heap.size w' v' ((n : Int) :: s.drop 1) (chosenD s d φ n) ∧ Below w.heap.size w w' := by
  obtain ⟨a, c, b, e, rfl, i1, i2, g1, g2⟩ := h
  have hsl : s.length ≤ 1048576 := by have := (sizeV_ok (arrOk_shape ho)).1; omega
  have HOR : Hid (∀ W, Below w.heap.size w W → Calls Tryz.prog 40 #[.slice a s.length c, .int .i64 z] W fun r w' => ∃ a' c', r = .returned (.slice a' ((n : Int) :: s.drop 1).length c') ∧ Piece W.heap.size w'.heap.size w' (.slice a' ((n : Int) :: s.drop 1).length c') ((n : Int) :: s.drop 1) ∧ Below W.heap.size W w') := fun W hb => by rw [hzn]; exact ofRows_impl (n : Int) (IntsI.keep ⟨a, c, rfl, g1, i1⟩ hb) hsl hs
  have HV : Hid (∀ (W : World) (k : Nat), k < n → Below w.heap.size w W → Calls Tryz.prog f #[.int .i64 (k : Int), p] W fun r W' => r = .returned (.int .i64 (φ k)) ∧ Below W.heap.size W W') := hV
  have hm : sizeV ((n : Int) :: s.drop 1) = ((n * rowN s : Nat) : Int) := by
    by_cases h0 : (n : Int) = 0
    · have : n = 0 := by omega
      subst this
      rw [Nat.zero_mul]
      exact zero5 hz
    · obtain ⟨p0, p1, p2⟩ := tail5 hz (by omega)
      rw [← p1, Int.natCast_mul]
      unfold rowN
      rw [Int.toNat_of_nonneg p0]
  have hz3 := sizeV_bd ((n : Int) :: s.drop 1)
  have hn3 := dim5 hz
  have HSZ : Hid (∀ W a' c', Ints W a' ((n : Int) :: s.drop 1) → Calls Tryz.prog 62 #[.slice a' ((n : Int) :: s.drop 1).length c'] W fun r w' => r = .returned (.int .i64 ((n * rowN s : Nat) : Int)) ∧ Below W.heap.size W w') := fun W a' c' h => by
    have q := size_impl c' h
    rw [hm] at q
    exact q
  have HTO0 : Hid (chosenTo s d φ n 0 = List.replicate (n * rowN s) 0) := chosenTo_zero s d φ n
  have HTOA : Hid (chosenTo s d φ n n = chosenD s d φ n) := chosenTo_all s d φ n
  have HTOL : Hid (∀ k, k ≤ n → (chosenTo s d φ n k).length = n * rowN s) := fun k hk => chosenTo_length ho hs φ hk
  have HTON : Hid (∀ k, k < n → ¬ (0 ≤ φ k ∧ φ k < s.getD 0 0) → chosenTo s d φ n k = chosenTo s d φ n (k + 1)) := fun k hk h => chosenTo_no hk h
  have HTOY : Hid (∀ k, k < n → 0 ≤ φ k ∧ φ k < s.getD 0 0 → paste (chosenTo s d φ n k) (k * rowN s) (d.drop ((φ k).toNat * rowN s)) (rowN s) = chosenTo s d φ n (k + 1)) := fun k hk h => chosenTo_yes ho hs hk h
  have HRW : Hid (∀ j : Int, 0 ≤ j → j < s.getD 0 0 → j.toNat * rowN s + rowN s ≤ d.length ∧ j ≤ 300) := fun j h0 h1 => by
    have q := rows5 ho hs
    obtain ⟨r1, r2⟩ := rowsN5 ho
    have : (j.toNat + 1) * rowN s ≤ rowsN s * rowN s := Nat.mul_le_mul_right _ (by omega)
    rw [Nat.succ_mul] at this
    omega
  have HD3 : Hid (d.length ≤ 300) := arrOk_len ho
  obtain ⟨ab, ao, rfl, _, _⟩ := i1.at (k := 0) (List.length_pos_iff.2 hs)
  have HN0 : Hid (∀ W, Below w.heap.size w W → W.cell? ⟨ab, ao, none⟩ = some (.int .i64 (s.getD 0 0))) := fun W hb => ints_cell5 (i1.keep hb) (List.length_pos_iff.2 hs)
  have HI2 : Hid (Ints w b d) := i2
  have HG2 : Hid (d.length ≤ e) := g2
  have hsp : 0 < s.length := List.length_pos_iff.2 hs
  have hmk : ∀ w, (Instr.makeSlice 24 (.int .i64 ((n * rowN s : Nat) : Int)) (.int .i64 ((n * rowN s : Nat) : Int))).run Tryz.prog w = .ok (.slice (some ⟨w.heap.size, 0, none⟩) (n * rowN s) (n * rowN s)) (w.alloc (.cells (vals (List.replicate (n * rowN s) 0)) 3)) := fun w => make_ints (n * rowN s) (by omega) w
  have HM : Hid (n * rowN s ≤ 300 ∧ n ≤ 300) := ⟨by omega, by omega⟩
  have HML : Hid (∀ k, k < n → (k + 1) * rowN s ≤ n * rowN s) := fun k hk => Nat.mul_le_mul_right _ hk
  have HQ : Hid (0 < n → Int.tdiv ((n * rowN s : Nat) : Int) z = (rowN s : Int)) := fun h => by
    rw [hzn, Int.natCast_mul, Int.mul_tdiv_cancel_left _ (by omega)]
  have HW : Hid (∀ k : Nat, k < n → wrap64 ((k : Int) + 1) = (k : Int) + 1 ∧ wrap64 ((k : Int) * (rowN s : Int)) = ((k * rowN s : Nat) : Int) ∧ wrap64 (((k : Int) + 1) * (rowN s : Int)) = (((k + 1) * rowN s : Nat) : Int)) := fun k hk => by
    have h1 : k * rowN s + rowN s = (k + 1) * rowN s := (Nat.succ_mul k _).symm
    have h2 : (k + 1) * rowN s ≤ n * rowN s := Nat.mul_le_mul_right _ hk
    refine ⟨wrap5 (by omega) (by omega), ?_, ?_⟩
    · rw [← Int.natCast_mul]; exact wrap5 (by omega) (by omega)
    · have : ((k : Int) + 1) * (rowN s : Int) = (((k + 1) * rowN s : Nat) : Int) := by rw [Int.natCast_mul]; rfl
      rw [this]; exact wrap5 (by omega) (by omega)
  have HWJ : Hid (∀ j : Int, 0 ≤ j → j < s.getD 0 0 → wrap64 (j * (rowN s : Int)) = ((j.toNat * rowN s : Nat) : Int)) := fun j h0 h1 => by
    obtain ⟨q1, q2⟩ := HRW.out j h0 h1
    have := HD3.out
    have : j * (rowN s : Int) = ((j.toNat * rowN s : Nat) : Int) := by rw [Int.natCast_mul, Int.toNat_of_nonneg h0]
    rw [this]; exact wrap5 (by omega) (by omega)
  have HWL : Hid (0 < n → wrap64 (rowN s : Int) = (rowN s : Int)) := fun h0 => by
    have h2 : 1 * rowN s ≤ n * rowN s := Nat.mul_le_mul_right _ h0
    exact wrap5 (by omega) (by omega)
  have HCY : Hid (∀ (k g : Nat) (j : Int) (W : World), k < n → 0 ≤ j → j < s.getD 0 0 → φ k = j → OwnInts W g (chosenTo s d φ n k) → Ints W b d → (Builtin.copy_ #[24, 24] 3 #[.slice (if n * rowN s - k * rowN s = 0 then some ⟨g, 0, none⟩ else (some (⟨g, 0, none⟩ : Addr)).map (·.add (k * rowN s * 1))) ((k + 1) * rowN s - k * rowN s) (n * rowN s - k * rowN s), .slice (if e - j.toNat * rowN s = 0 then b else b.map (·.add (j.toNat * rowN s * 1))) (d.length - j.toNat * rowN s) (e - j.toNat * rowN s)]).run Tryz.prog W = .ok (.int .i64 (rowN s : Int)) (W.setRow g (vals (chosenTo s d φ n (k + 1))))) := fun k g j W hk h0 h1 hj ho' hi => by
    have q := copy_row5 ho' (HTOL.out k (Nat.le_of_lt hk)) hi g2 (Nat.succ_mul k (rowN s)).symm (HML.out k hk) (HRW.out j h0 h1).1 3
    rw [← hj, HTOY.out k hk (by rw [hj]; exact ⟨h0, h1⟩), hj] at q
    exact q
  have HSA : Hid (∀ (k g : Nat) (W : World), k < n → (Instr.slice 24 (.slice (some ⟨g, 0, none⟩) (n * rowN s) (n * rowN s)) (some (.int .i64 ((k * rowN s : Nat) : Int))) (some (.int .i64 (((k + 1) * rowN s : Nat) : Int))) none).run Tryz.prog W = .ok (.slice (if n * rowN s - k * rowN s = 0 then some ⟨g, 0, none⟩ else (some (⟨g, 0, none⟩ : Addr)).map (·.add (k * rowN s * 1))) ((k + 1) * rowN s - k * rowN s) (n * rowN s - k * rowN s)) W) := fun k g W hk => run_between (Nat.mul_le_mul_right _ (Nat.le_succ k)) (HML.out k hk) W
  have HSB : Hid (∀ (j : Int) (W : World), 0 ≤ j → j < s.getD 0 0 → (Instr.slice 24 (.slice b d.length e) (some (.int .i64 ((j.toNat * rowN s : Nat) : Int))) none none).run Tryz.prog W = .ok (.slice (if e - j.toNat * rowN s = 0 then b else b.map (·.add (j.toNat * rowN s * 1))) (d.length - j.toNat * rowN s) (e - j.toNat * rowN s)) W) := fun j W h0 h1 => run_from (by have := (HRW.out j h0 h1).1; omega) g2 W
  obtain ⟨S, hS⟩ : ∃ S, S = (n : Int) :: s.drop 1 := ⟨_, rfl⟩
  obtain ⟨D, hD⟩ : ∃ D, D = chosenD s d φ n := ⟨_, rfl⟩
  rw [← hS] at HOR HSZ ⊢
  rw [← hD] at HTOA ⊢
  have HZ : Hid (z = (n : Int)) := hzn
  clear hzn hS hD hV ho hz hm i1 i2 g1 g2 hsl hs hz3 hn3 HTOY HRW HML HD3
  generalize rowN s = L at *
  generalize s.getD 0 0 = N at *
  generalize hN : n * L = m at *
  have HN : Hid (n * L = m) := hN
  clear hN
  generalize hTO : chosenTo s d φ n = TO at *
  clear hTO
  go_enter Tryz.func80, Tryz.ntmps80
  go_wp2_with fail
  refine (HOR.out _ (bAlloc (bAlloc (Below.refl _ _) _) _)).mono ?_
  rintro r w1 ⟨a1, c1, rfl, hp, hb⟩
  have HB1 : Hid (Below w.heap.size w w1) := bTrans (bAlloc (bAlloc (Below.refl _ _) _) _) hb
  have X1 : Hid (Box w1 w.heap.size (.slice (some ⟨ab, ao, none⟩) s.length c) (.slice b d.length e) 26) := ((box_new w _ _ _).keep (bAlloc (Below.refl _ _) _)).keep hb
  have R1 : Hid (Box w1 (w.heap.size + 1) (.slice none 0 0) (.slice none 0 0) 26) := (box_new2 w _ _ _ _).keep hb
  have P1 : Hid (Piece (w.heap.size + 2) w1.heap.size w1 (.slice a1 S.length c1) S) := by show Piece _ _ _ _ _; simpa using hp
  have I1 : Hid (Ints w1 a1 S) := by
    obtain ⟨q1, q2, q3, q4⟩ := hp.ints
    cases q3
    exact q4
  have LT : Hid (w.heap.size + 2 ≤ w1.heap.size) := by have := hb.size; show _ ≤ _; simpa using this
  clear hp hb
  go_wp2_with fail
  refine (HSZ.out _ _ _ I1.out).mono ?_
  rintro r w2 ⟨rfl, hb⟩
  have HB2 : Hid (Below w.heap.size w w2) := bTrans HB1.out hb
  have X2 : Hid (Box w2 w.heap.size (.slice (some ⟨ab, ao, none⟩) s.length c) (.slice b d.length e) 26) := X1.out.keep hb
  have R2 : Hid (Box w2 (w.heap.size + 1) (.slice none 0 0) (.slice none 0 0) 26) := R1.out.keep hb
  have P2 : Hid (Piece (w.heap.size + 2) w1.heap.size w2 (.slice a1 S.length c1) S) := P1.out.keep hb
  have LT2 : Hid (w1.heap.size ≤ w2.heap.size) := hb.size
  clear hb X1 R1 P1 I1 HB1 HOR HSZ
  go_wp2
  generalize hW : w2.alloc (.cells (vals (List.replicate m 0)) 3) = W
  have HBW : Hid (Below w2.heap.size w2 W) := by rw [← hW]; exact bAlloc (Below.refl _ _) _
  have HOW : Hid (OwnInts W w2.heap.size (TO 0)) := by rw [← hW, HTO0.out]; exact ownInts_new _ _
  clear hW hmk
  go_loopw [20] (fun i w' => ∃ k : Nat, k ≤ n ∧ i = .int .i64 (k : Int) ∧ OwnInts w' w2.heap.size (TO k) ∧ Below w2.heap.size w2 w') (fun i _ => n - (intOf i).toNat)
  case atStart => exact ⟨0, by omega, rfl, HOW.out, HBW.out⟩
  case round =>
    obtain ⟨k, hk, rfl, hO, hb⟩ := hrel
    have HO : Hid (OwnInts wr w2.heap.size (TO k)) := hO
    have HB : Hid (Below w2.heap.size w2 wr) := hb
    clear hO hb HOW HBW
    have hzn := HZ.out
    by_cases hlt : (k : Int) < z
    · have HLT : Hid (k < n) := by show _ < _; omega
      have hq := HQ.out (by omega)
      have hn0 : z ≠ 0 := by omega
      have HVK : Hid (Calls Tryz.prog f #[.int .i64 (k : Int), p] wr fun r W' => r = .returned (.int .i64 (φ k)) ∧ Below wr.heap.size wr W') := HV.out wr k HLT.out (bTrans HB2.out HB.out)
      have TN : Hid (¬ (0 ≤ φ k ∧ φ k < N) → TO k = TO (k + 1)) := HTON.out k HLT.out
      clear hzn
      have hwL := HWL.out (Nat.lt_of_le_of_lt (Nat.zero_le _) HLT.out)
      have hz3 : z ≤ 300 := by have := HZ.out; have := HM.out; omega
      have HCK := HCY.out k w2.heap.size (φ k)
      generalize φ k = j at *
      by_cases hj : 0 ≤ j
      · by_cases hj2 : j < N
        · have HCP : Hid (∀ W, OwnInts W w2.heap.size (TO k) → Ints W b d → (Builtin.copy_ #[24, 24] 3 #[.slice (if m - k * L = 0 then some ⟨w2.heap.size, 0, none⟩ else (some (⟨w2.heap.size, 0, none⟩ : Addr)).map (·.add (k * L * 1))) ((k + 1) * L - k * L) (m - k * L), .slice (if e - j.toNat * L = 0 then b else b.map (·.add (j.toNat * L * 1))) (d.length - j.toNat * L) (e - j.toNat * L)]).run Tryz.prog W = .ok (.int .i64 (L : Int)) (W.setRow w2.heap.size (vals (TO (k + 1))))) := fun W h1 h2 => HCK W HLT.out hj hj2 rfl h1 h2
          have hs1 := fun W => HSA.out k w2.heap.size W HLT.out
          have hs2 := fun W => HSB.out j W hj hj2
          obtain ⟨hk1, w1', w2'⟩ := HW.out k HLT.out
          have HZ3 : Hid (z ≤ 300 ∧ (k : Int) < z) := ⟨hz3, hlt⟩
          have HW4 : Hid (wrap64 ((k : Int) + 1) = (k : Int) + 1 ∧ wrap64 ((k : Int) * (L : Int)) = ((k * L : Nat) : Int) ∧ wrap64 (((k : Int) + 1) * (L : Int)) = (((k + 1) * L : Nat) : Int)) := ⟨hk1, w1', w2'⟩
          clear hk1 w1' w2'
          have HW3 : Hid (wrap64 (j * (L : Int)) = ((j.toNat * L : Nat) : Int)) := HWJ.out j hj hj2
          clear TN HCK HSA HSB HW HWJ HCY HTON HTOL
          generalize (if m - k * L = 0 then some ⟨w2.heap.size, 0, none⟩ else (some (⟨w2.heap.size, 0, none⟩ : Addr)).map (·.add (k * L * 1))) = A1 at *
          generalize (if e - j.toNat * L = 0 then b else b.map (·.add (j.toNat * L * 1))) = A2 at *
          generalize (k + 1) * L - k * L = n1 at *
          generalize m - k * L = n2 at *
          generalize d.length - j.toNat * L = n3 at *
          generalize e - j.toNat * L = n4 at *
          generalize (k + 1) * L = n5 at *
          generalize k * L = n6 at *
          generalize j.toNat * L = n7 at *
          go_wp2_with (go_at_fn f; refine HVK.out.mono ?_; rintro r w3 ⟨rfl, hb⟩; have HB3 : Hid (Below w2.heap.size w2 w3) := bTrans HB.out hb; have HO3 : Hid (OwnInts w3 w2.heap.size (TO k)) := (HO.out.keep5 hb); have x0 := (X2.out.keep HB3.out).c0; have x1 := (X2.out.keep HB3.out).c1; have xn := HN0.out _ (bTrans HB2.out HB3.out); have hcp := HCP.out w3.drew (HO3.out.keep5 (Below.refl w3.heap.size w3).drew) (HI2.out.keep (bTrans HB2.out HB3.out.drew)); clear hb)
          have HO4 : Hid (OwnInts (w3.drew.setRow w2.heap.size (vals (TO (k + 1)))) w2.heap.size (TO (k + 1))) := (HO3.out.keep5 (Below.refl w3.heap.size w3).drew).setRow _
          have HB4 : Hid (Below w2.heap.size w2 (w3.drew.setRow w2.heap.size (vals (TO (k + 1))))) := below_setRow HB3.out.drew (Nat.le_refl _) _
          generalize hW : w3.drew.setRow w2.heap.size (vals (TO (k + 1))) = W4 at *
          clear hW
          obtain ⟨hk1, w1', w2'⟩ := HW4.out
          have w3' := HW3.out
          clear hz3 hlt
          go_region
          obtain ⟨hz3, hlt⟩ := HZ3.out
          clear hk1 w1' w2' w3' hs1 hs2 hcp x0 x1 xn
          go_wp2
          go_roundw
          case rel => exact ⟨k + 1, HLT.out, by go_num, HO4.out, HB4.out⟩
          case measure => simp [intOf]; have := HLT.out; omega
        · have HT' : Hid (TO k = TO (k + 1)) := TN.out (fun q => hj2 q.2)
          clear TN HCK
          go_wp2_with (go_at_fn f; refine HVK.out.mono ?_; rintro r w3 ⟨rfl, hb⟩; have HB3 : Hid (Below w2.heap.size w2 w3) := bTrans HB.out hb; have HO3 : Hid (OwnInts w3 w2.heap.size (TO k)) := (HO.out.keep5 hb); have x0 := (X2.out.keep HB3.out).c0; have xn := HN0.out _ (bTrans HB2.out HB3.out); clear hb)
          go_roundw
          case rel => exact ⟨k + 1, HLT.out, by go_num, by rw [← HT'.out]; exact HO3.out, HB3.out⟩
          case measure => simp [intOf]; have := HLT.out; omega
      · have HT' : Hid (TO k = TO (k + 1)) := TN.out (fun q => hj q.1)
        clear TN HCK
        go_wp2_with (go_at_fn f; refine HVK.out.mono ?_; rintro r w3 ⟨rfl, hb⟩; have HB3 : Hid (Below w2.heap.size w2 w3) := bTrans HB.out hb; have HO3 : Hid (OwnInts w3 w2.heap.size (TO k)) := (HO.out.keep5 hb); clear hb)
        go_roundw
        case rel => exact ⟨k + 1, HLT.out, by go_num, by rw [← HT'.out]; exact HO3.out, HB3.out⟩
        case measure => simp [intOf]; have := HLT.out; omega
    · obtain rfl : k = n := by omega
      clear hzn
      have LD : Hid (D.length = m) := by show _ = _; rw [← HTOA.out]; exact HTOL.out k (Nat.le_refl _)
      have R3 : Hid (Box wr (w.heap.size + 1) (.slice none 0 0) (.slice none 0 0) 26) := R2.out.keep HB.out
      have P3 : Hid (Piece (w.heap.size + 2) w1.heap.size wr (.slice a1 S.length c1) S) := P2.out.keep HB.out
      have PD : Hid (Piece w2.heap.size (w2.heap.size + 1) wr (.slice (some ⟨w2.heap.size, 0, none⟩) m m) D) := by
        have q := OwnInts.piece HO.out (B := w2.heap.size) (C := w2.heap.size + 1) (Nat.le_refl _) (by omega) m (by rw [HTOL.out k (Nat.le_refl _)]; exact Nat.le_refl _)
        rw [HTOL.out k (Nat.le_refl _), HTOA.out] at q
        exact q
      have LW : Hid (w2.heap.size + 1 ≤ wr.heap.size) := lt_of_heapA HO.out
      have HB5 : Hid (Below w.heap.size w wr) := bTrans HB2.out HB.out
      have y0 := R3.out.c0
      have y1 := R3.out.c1
      have f0 : wr.frozen? ⟨w.heap.size + 1, 0, none⟩ = false := free_at R3.out 0
      have f1 : wr.frozen? ⟨w.heap.size + 1, 1, none⟩ = false := free_at R3.out 1
      have HR : Hid (((wr.setCell ⟨w.heap.size + 1, 0, none⟩ (.slice a1 S.length c1)).setCell ⟨w.heap.size + 1, 1, none⟩ (.slice (some ⟨w2.heap.size, 0, none⟩) m m)).heap[w.heap.size + 1]? = some (.cells #[.slice a1 S.length c1, .slice (some ⟨w2.heap.size, 0, none⟩) m m] 26 (0, 0))) := arr_stored R3.out
      go_wp2
      refine bodyPost_ret (v := .agg #[.slice a1 S.length c1, .slice (some ⟨w2.heap.size, 0, none⟩) m m]) (results_arr rfl _ _ (w.heap.size + 1) _ _ rfl HR.out) rfl ?_
      refine ⟨_, rfl, ?_, below_setCell (below_setCell HB5.out (by omega) _ _) (by omega) _ _⟩
      have L1 := LT.out
      have L2 := LT2.out
      have L3 := LW.out
      have p1' := (P3.out.win (win_setCell wr (w.heap.size + 1) 0 (.slice a1 S.length c1)) (.inr (by omega))).win (win_setCell _ (w.heap.size + 1) 1 (.slice (some ⟨w2.heap.size, 0, none⟩) m m)) (.inr (by omega))
      have p2' := (PD.out.win (win_setCell wr (w.heap.size + 1) 0 (.slice a1 S.length c1)) (.inr (by omega))).win (win_setCell _ (w.heap.size + 1) 1 (.slice (some ⟨w2.heap.size, 0, none⟩) m m)) (.inr (by omega))
      exact ⟨_, _, rfl, p1'.mono (by omega) (by simp only [size_setCell]; omega), p2'.mono (by omega) (by simp only [size_setCell]; omega), p1'.apart p2' (.inl (by omega))⟩
set_option maxRecDepth 20000 in
set_option maxHeartbeats 4000000 in
/-- chosenRows. -/
theorem chosen2_impl {s d : List Int} {w : World} {v p q : Value} {f n : Nat} {φ : Nat → Int} {z : Int} (hzn : z = (n : Int)) (hE : ∀ (args : Array Value) (w : World), (callFunc f args).run Tryz.prog w = .ok (.enter f args) w) (h : ArrI w v s d) (ho : arrOk s d = true) (hs : s ≠ []) (hz : 0 ≤ sizeV ((n : Int) :: s.drop 1))
    (hV : ∀ (W : World) (k : Nat), k < n → Below w.heap.size w W → Calls Tryz.prog f #[.int .i64 (k : Int), p, q] W fun r W' => r = .returned (.int .i64 (φ k)) ∧ Below W.heap.size W W') :
    Calls Tryz.prog 80 #[v, .int .i64 z, .func (.func f) #[] #[p, q]] w fun r w' => ∃ v', r = .returned v' ∧ Arr w.heap.size w'.heap.size w' v' ((n : Int) :: s.drop 1) (chosenD s d φ n) ∧ Below w.heap.size w w' := by
  obtain ⟨a, c, b, e, rfl, i1, i2, g1, g2⟩ := h
  have hsl : s.length ≤ 1048576 := by have := (sizeV_ok (arrOk_shape ho)).1; omega
  have HOR : Hid (∀ W, Below w.heap.size w W → Calls Tryz.prog 40 #[.slice a s.length c, .int .i64 z] W fun r w' => ∃ a' c', r = .returned (.slice a' ((n : Int) :: s.drop 1).length c') ∧ Piece W.heap.size w'.heap.size w' (.slice a' ((n : Int) :: s.drop 1).length c') ((n : Int) :: s.drop 1) ∧ Below W.heap.size W w') := fun W hb => by rw [hzn]; exact ofRows_impl (n : Int) (IntsI.keep ⟨a, c, rfl, g1, i1⟩ hb) hsl hs
  have HV : Hid (∀ (W : World) (k : Nat), k < n → Below w.heap.size w W → Calls Tryz.prog f #[.int .i64 (k : Int), p, q] W fun r W' => r = .returned (.int .i64 (φ k)) ∧ Below W.heap.size W W') := hV
  have hm : sizeV ((n : Int) :: s.drop 1) = ((n * rowN s : Nat) : Int) := by
    by_cases h0 : (n : Int) = 0
    · have : n = 0 := by omega
      subst this
      rw [Nat.zero_mul]
      exact zero5 hz
    · obtain ⟨p0, p1, p2⟩ := tail5 hz (by omega)
      rw [← p1, Int.natCast_mul]
      unfold rowN
      rw [Int.toNat_of_nonneg p0]
  have hz3 := sizeV_bd ((n : Int) :: s.drop 1)
  have hn3 := dim5 hz
  have HSZ : Hid (∀ W a' c', Ints W a' ((n : Int) :: s.drop 1) → Calls Tryz.prog 62 #[.slice a' ((n : Int) :: s.drop 1).length c'] W fun r w' => r = .returned (.int .i64 ((n * rowN s : Nat) : Int)) ∧ Below W.heap.size W w') := fun W a' c' h => by
    have q := size_impl c' h
    rw [hm] at q
    exact q
  have HTO0 : Hid (chosenTo s d φ n 0 = List.replicate (n * rowN s) 0) := chosenTo_zero s d φ n
  have HTOA : Hid (chosenTo s d φ n n = chosenD s d φ n) := chosenTo_all s d φ n
  have HTOL : Hid (∀ k, k ≤ n → (chosenTo s d φ n k).length = n * rowN s) := fun k hk => chosenTo_length ho hs φ hk
  have HTON : Hid (∀ k, k < n → ¬ (0 ≤ φ k ∧ φ k < s.getD 0 0) → chosenTo s d φ n k = chosenTo s d φ n (k + 1)) := fun k hk h => chosenTo_no hk h
  have HTOY : Hid (∀ k, k < n → 0 ≤ φ k ∧ φ k < s.getD 0 0 → paste (chosenTo s d φ n k) (k * rowN s) (d.drop ((φ k).toNat * rowN s)) (rowN s) = chosenTo s d φ n (k + 1)) := fun k hk h => chosenTo_yes ho hs hk h
  have HRW : Hid (∀ j : Int, 0 ≤ j → j < s.getD 0 0 → j.toNat * rowN s + rowN s ≤ d.length ∧ j ≤ 300) := fun j h0 h1 => by
    have q := rows5 ho hs
    obtain ⟨r1, r2⟩ := rowsN5 ho
    have : (j.toNat + 1) * rowN s ≤ rowsN s * rowN s := Nat.mul_le_mul_right _ (by omega)
    rw [Nat.succ_mul] at this
    omega
  have HD3 : Hid (d.length ≤ 300) := arrOk_len ho
  obtain ⟨ab, ao, rfl, _, _⟩ := i1.at (k := 0) (List.length_pos_iff.2 hs)
  have HN0 : Hid (∀ W, Below w.heap.size w W → W.cell? ⟨ab, ao, none⟩ = some (.int .i64 (s.getD 0 0))) := fun W hb => ints_cell5 (i1.keep hb) (List.length_pos_iff.2 hs)
  have HI2 : Hid (Ints w b d) := i2
  have HG2 : Hid (d.length ≤ e) := g2
  have hsp : 0 < s.length := List.length_pos_iff.2 hs
  have hmk : ∀ w, (Instr.makeSlice 24 (.int .i64 ((n * rowN s : Nat) : Int)) (.int .i64 ((n * rowN s : Nat) : Int))).run Tryz.prog w = .ok (.slice (some ⟨w.heap.size, 0, none⟩) (n * rowN s) (n * rowN s)) (w.alloc (.cells (vals (List.replicate (n * rowN s) 0)) 3)) := fun w => make_ints (n * rowN s) (by omega) w
  have HM : Hid (n * rowN s ≤ 300 ∧ n ≤ 300) := ⟨by omega, by omega⟩
  have HML : Hid (∀ k, k < n → (k + 1) * rowN s ≤ n * rowN s) := fun k hk => Nat.mul_le_mul_right _ hk
  have HQ : Hid (0 < n → Int.tdiv ((n * rowN s : Nat) : Int) z = (rowN s : Int)) := fun h => by
    rw [hzn, Int.natCast_mul, Int.mul_tdiv_cancel_left _ (by omega)]
  have HW : Hid (∀ k : Nat, k < n → wrap64 ((k : Int) + 1) = (k : Int) + 1 ∧ wrap64 ((k : Int) * (rowN s : Int)) = ((k * rowN s : Nat) : Int) ∧ wrap64 (((k : Int) + 1) * (rowN s : Int)) = (((k + 1) * rowN s : Nat) : Int)) := fun k hk => by
    have h1 : k * rowN s + rowN s = (k + 1) * rowN s := (Nat.succ_mul k _).symm
    have h2 : (k + 1) * rowN s ≤ n * rowN s := Nat.mul_le_mul_right _ hk
    refine ⟨wrap5 (by omega) (by omega), ?_, ?_⟩
    · rw [← Int.natCast_mul]; exact wrap5 (by omega) (by omega)
    · have : ((k : Int) + 1) * (rowN s : Int) = (((k + 1) * rowN s : Nat) : Int) := by rw [Int.natCast_mul]; rfl
      rw [this]; exact wrap5 (by omega) (by omega)
  have HWJ : Hid (∀ j : Int, 0 ≤ j → j < s.getD 0 0 → wrap64 (j * (rowN s : Int)) = ((j.toNat * rowN s : Nat) : Int)) := fun j h0 h1 => by
    obtain ⟨q1, q2⟩ := HRW.out j h0 h1
    have := HD3.out
    have : j * (rowN s : Int) = ((j.toNat * rowN s : Nat) : Int) := by rw [Int.natCast_mul, Int.toNat_of_nonneg h0]
    rw [this]; exact wrap5 (by omega) (by omega)
  have HWL : Hid (0 < n → wrap64 (rowN s : Int) = (rowN s : Int)) := fun h0 => by
    have h2 : 1 * rowN s ≤ n * rowN s := Nat.mul_le_mul_right _ h0
    exact wrap5 (by omega) (by omega)
  have HCY : Hid (∀ (k g : Nat) (j : Int) (W : World), k < n → 0 ≤ j → j < s.getD 0 0 → φ k = j → OwnInts W g (chosenTo s d φ n k) → Ints W b d → (Builtin.copy_ #[24, 24] 3 #[.slice (if n * rowN s - k * rowN s = 0 then some ⟨g, 0, none⟩ else (some (⟨g, 0, none⟩ : Addr)).map (·.add (k * rowN s * 1))) ((k + 1) * rowN s - k * rowN s) (n * rowN s - k * rowN s), .slice (if e - j.toNat * rowN s = 0 then b else b.map (·.add (j.toNat * rowN s * 1))) (d.length - j.toNat * rowN s) (e - j.toNat * rowN s)]).run Tryz.prog W = .ok (.int .i64 (rowN s : Int)) (W.setRow g (vals (chosenTo s d φ n (k + 1))))) := fun k g j W hk h0 h1 hj ho' hi => by
    have q := copy_row5 ho' (HTOL.out k (Nat.le_of_lt hk)) hi g2 (Nat.succ_mul k (rowN s)).symm (HML.out k hk) (HRW.out j h0 h1).1 3
    rw [← hj, HTOY.out k hk (by rw [hj]; exact ⟨h0, h1⟩), hj] at q
    exact q
  have HSA : Hid (∀ (k g : Nat) (W : World), k < n → (Instr.slice 24 (.slice (some ⟨g, 0, none⟩) (n * rowN s) (n * rowN s)) (some (.int .i64 ((k * rowN s : Nat) : Int))) (some (.int .i64 (((k + 1) * rowN s : Nat) : Int))) none).run Tryz.prog W = .ok (.slice (if n * rowN s - k * rowN s = 0 then some ⟨g, 0, none⟩ else (some (⟨g, 0, none⟩ : Addr)).map (·.add (k * rowN s * 1))) ((k + 1) * rowN s - k * rowN s) (n * rowN s - k * rowN s)) W) := fun k g W hk => run_between (Nat.mul_le_mul_right _ (Nat.le_succ k)) (HML.out k hk) W
  have HSB : Hid (∀ (j : Int) (W : World), 0 ≤ j → j < s.getD 0 0 → (Instr.slice 24 (.slice b d.length e) (some (.int .i64 ((j.toNat * rowN s : Nat) : Int))) none none).run Tryz.prog W = .ok (.slice (if e - j.toNat * rowN s = 0 then b else b.map (·.add (j.toNat * rowN s * 1))) (d.length - j.toNat * rowN s) (e - j.toNat * rowN s)) W) := fun j W h0 h1 => run_from (by have := (HRW.out j h0 h1).1; omega) g2 W
  obtain ⟨S, hS⟩ : ∃ S, S = (n : Int) :: s.drop 1 := ⟨_, rfl⟩
  obtain ⟨D, hD⟩ : ∃ D, D = chosenD s d φ n := ⟨_, rfl⟩
  rw [← hS] at HOR HSZ ⊢
  rw [← hD] at HTOA ⊢
  have HZ : Hid (z = (n : Int)) := hzn
  clear hzn hS hD hV ho hz hm i1 i2 g1 g2 hsl hs hz3 hn3 HTOY HRW HML HD3
  generalize rowN s = L at *
  generalize s.getD 0 0 = N at *
  generalize hN : n * L = m at *
  have HN : Hid (n * L = m) := hN
  clear hN
  generalize hTO : chosenTo s d φ n = TO at *
  clear hTO
  go_enter Tryz.func80, Tryz.ntmps80
  go_wp2_with fail
  refine (HOR.out _ (bAlloc (bAlloc (Below.refl _ _) _) _)).mono ?_
  rintro r w1 ⟨a1, c1, rfl, hp, hb⟩
  have HB1 : Hid (Below w.heap.size w w1) := bTrans (bAlloc (bAlloc (Below.refl _ _) _) _) hb
  have X1 : Hid (Box w1 w.heap.size (.slice (some ⟨ab, ao, none⟩) s.length c) (.slice b d.length e) 26) := ((box_new w _ _ _).keep (bAlloc (Below.refl _ _) _)).keep hb
  have R1 : Hid (Box w1 (w.heap.size + 1) (.slice none 0 0) (.slice none 0 0) 26) := (box_new2 w _ _ _ _).keep hb
  have P1 : Hid (Piece (w.heap.size + 2) w1.heap.size w1 (.slice a1 S.length c1) S) := by show Piece _ _ _ _ _; simpa using hp
  have I1 : Hid (Ints w1 a1 S) := by
    obtain ⟨q1, q2, q3, q4⟩ := hp.ints
    cases q3
    exact q4
  have LT : Hid (w.heap.size + 2 ≤ w1.heap.size) := by have := hb.size; show _ ≤ _; simpa using this
  clear hp hb
  go_wp2_with fail
  refine (HSZ.out _ _ _ I1.out).mono ?_
  rintro r w2 ⟨rfl, hb⟩
  have HB2 : Hid (Below w.heap.size w w2) := bTrans HB1.out hb
  have X2 : Hid (Box w2 w.heap.size (.slice (some ⟨ab, ao, none⟩) s.length c) (.slice b d.length e) 26) := X1.out.keep hb
  have R2 : Hid (Box w2 (w.heap.size + 1) (.slice none 0 0) (.slice none 0 0) 26) := R1.out.keep hb
  have P2 : Hid (Piece (w.heap.size + 2) w1.heap.size w2 (.slice a1 S.length c1) S) := P1.out.keep hb
  have LT2 : Hid (w1.heap.size ≤ w2.heap.size) := hb.size
  clear hb X1 R1 P1 I1 HB1 HOR HSZ
  go_wp2
  generalize hW : w2.alloc (.cells (vals (List.replicate m 0)) 3) = W
  have HBW : Hid (Below w2.heap.size w2 W) := by rw [← hW]; exact bAlloc (Below.refl _ _) _
  have HOW : Hid (OwnInts W w2.heap.size (TO 0)) := by rw [← hW, HTO0.out]; exact ownInts_new _ _
  clear hW hmk
  go_loopw [20] (fun i w' => ∃ k : Nat, k ≤ n ∧ i = .int .i64 (k : Int) ∧ OwnInts w' w2.heap.size (TO k) ∧ Below w2.heap.size w2 w') (fun i _ => n - (intOf i).toNat)
  case atStart => exact ⟨0, by omega, rfl, HOW.out, HBW.out⟩
  case round =>
    obtain ⟨k, hk, rfl, hO, hb⟩ := hrel
    have HO : Hid (OwnInts wr w2.heap.size (TO k)) := hO
    have HB : Hid (Below w2.heap.size w2 wr) := hb
    clear hO hb HOW HBW
    have hzn := HZ.out
    by_cases hlt : (k : Int) < z
    · have HLT : Hid (k < n) := by show _ < _; omega
      have hq := HQ.out (by omega)
      have hn0 : z ≠ 0 := by omega
      have HVK : Hid (Calls Tryz.prog f #[.int .i64 (k : Int), p, q] wr fun r W' => r = .returned (.int .i64 (φ k)) ∧ Below wr.heap.size wr W') := HV.out wr k HLT.out (bTrans HB2.out HB.out)
      have TN : Hid (¬ (0 ≤ φ k ∧ φ k < N) → TO k = TO (k + 1)) := HTON.out k HLT.out
      clear hzn
      have hwL := HWL.out (Nat.lt_of_le_of_lt (Nat.zero_le _) HLT.out)
      have hz3 : z ≤ 300 := by have := HZ.out; have := HM.out; omega
      have HCK := HCY.out k w2.heap.size (φ k)
      generalize φ k = j at *
      by_cases hj : 0 ≤ j
      · by_cases hj2 : j < N
        · have HCP : Hid (∀ W, OwnInts W w2.heap.size (TO k) → Ints W b d → (Builtin.copy_ #[24, 24] 3 #[.slice (if m - k * L = 0 then some ⟨w2.heap.size, 0, none⟩ else (some (⟨w2.heap.size, 0, none⟩ : Addr)).map (·.add (k * L * 1))) ((k + 1) * L - k * L) (m - k * L), .slice (if e - j.toNat * L = 0 then b else b.map (·.add (j.toNat * L * 1))) (d.length - j.toNat * L) (e - j.toNat * L)]).run Tryz.prog W = .ok (.int .i64 (L : Int)) (W.setRow w2.heap.size (vals (TO (k + 1))))) := fun W h1 h2 => HCK W HLT.out hj hj2 rfl h1 h2
          have hs1 := fun W => HSA.out k w2.heap.size W HLT.out
          have hs2 := fun W => HSB.out j W hj hj2
          obtain ⟨hk1, w1', w2'⟩ := HW.out k HLT.out
          have HZ3 : Hid (z ≤ 300 ∧ (k : Int) < z) := ⟨hz3, hlt⟩
          have HW4 : Hid (wrap64 ((k : Int) + 1) = (k : Int) + 1 ∧ wrap64 ((k : Int) * (L : Int)) = ((k * L : Nat) : Int) ∧ wrap64 (((k : Int) + 1) * (L : Int)) = (((k + 1) * L : Nat) : Int)) := ⟨hk1, w1', w2'⟩
          clear hk1 w1' w2'
          have HW3 : Hid (wrap64 (j * (L : Int)) = ((j.toNat * L : Nat) : Int)) := HWJ.out j hj hj2
          clear TN HCK HSA HSB HW HWJ HCY HTON HTOL
          generalize (if m - k * L = 0 then some ⟨w2.heap.size, 0, none⟩ else (some (⟨w2.heap.size, 0, none⟩ : Addr)).map (·.add (k * L * 1))) = A1 at *
          generalize (if e - j.toNat * L = 0 then b else b.map (·.add (j.toNat * L * 1))) = A2 at *
          generalize (k + 1) * L - k * L = n1 at *
          generalize m - k * L = n2 at *
          generalize d.length - j.toNat * L = n3 at *
          generalize e - j.toNat * L = n4 at *
          generalize (k + 1) * L = n5 at *
          generalize k * L = n6 at *
          generalize j.toNat * L = n7 at *
          go_wp2_with (go_at_fn f; refine HVK.out.mono ?_; rintro r w3 ⟨rfl, hb⟩; have HB3 : Hid (Below w2.heap.size w2 w3) := bTrans HB.out hb; have HO3 : Hid (OwnInts w3 w2.heap.size (TO k)) := (HO.out.keep5 hb); have x0 := (X2.out.keep HB3.out).c0; have x1 := (X2.out.keep HB3.out).c1; have xn := HN0.out _ (bTrans HB2.out HB3.out); have hcp := HCP.out w3.drew (HO3.out.keep5 (Below.refl w3.heap.size w3).drew) (HI2.out.keep (bTrans HB2.out HB3.out.drew)); clear hb)
          have HO4 : Hid (OwnInts (w3.drew.setRow w2.heap.size (vals (TO (k + 1)))) w2.heap.size (TO (k + 1))) := (HO3.out.keep5 (Below.refl w3.heap.size w3).drew).setRow _
          have HB4 : Hid (Below w2.heap.size w2 (w3.drew.setRow w2.heap.size (vals (TO (k + 1))))) := below_setRow HB3.out.drew (Nat.le_refl _) _
          generalize hW : w3.drew.setRow w2.heap.size (vals (TO (k + 1))) = W4 at *
          clear hW
          obtain ⟨hk1, w1', w2'⟩ := HW4.out
          have w3' := HW3.out
          clear hz3 hlt
          go_region
          obtain ⟨hz3, hlt⟩ := HZ3.out
          clear hk1 w1' w2' w3' hs1 hs2 hcp x0 x1 xn
          go_wp2
          go_roundw
          case rel => exact ⟨k + 1, HLT.out, by go_num, HO4.out, HB4.out⟩
          case measure => simp [intOf]; have := HLT.out; omega
        · have HT' : Hid (TO k = TO (k + 1)) := TN.out (fun q => hj2 q.2)
          clear TN HCK
          go_wp2_with (go_at_fn f; refine HVK.out.mono ?_; rintro r w3 ⟨rfl, hb⟩; have HB3 : Hid (Below w2.heap.size w2 w3) := bTrans HB.out hb; have HO3 : Hid (OwnInts w3 w2.heap.size (TO k)) := (HO.out.keep5 hb); have x0 := (X2.out.keep HB3.out).c0; have xn := HN0.out _ (bTrans HB2.out HB3.out); clear hb)
          go_roundw
          case rel => exact ⟨k + 1, HLT.out, by go_num, by rw [← HT'.out]; exact HO3.out, HB3.out⟩
          case measure => simp [intOf]; have := HLT.out; omega
      · have HT' : Hid (TO k = TO (k + 1)) := TN.out (fun q => hj q.1)
        clear TN HCK
        go_wp2_with (go_at_fn f; refine HVK.out.mono ?_; rintro r w3 ⟨rfl, hb⟩; have HB3 : Hid (Below w2.heap.size w2 w3) := bTrans HB.out hb; have HO3 : Hid (OwnInts w3 w2.heap.size (TO k)) := (HO.out.keep5 hb); clear hb)
        go_roundw
        case rel => exact ⟨k + 1, HLT.out, by go_num, by rw [← HT'.out]; exact HO3.out, HB3.out⟩
        case measure => simp [intOf]; have := HLT.out; omega
    · obtain rfl : k = n := by omega
      clear hzn
      have LD : Hid (D.length = m) := by show _ = _; rw [← HTOA.out]; exact HTOL.out k (Nat.le_refl _)
      have R3 : Hid (Box wr (w.heap.size + 1) (.slice none 0 0) (.slice none 0 0) 26) := R2.out.keep HB.out
      have P3 : Hid (Piece (w.heap.size + 2) w1.heap.size wr (.slice a1 S.length c1) S) := P2.out.keep HB.out
      have PD : Hid (Piece w2.heap.size (w2.heap.size + 1) wr (.slice (some ⟨w2.heap.size, 0, none⟩) m m) D) := by
        have q := OwnInts.piece HO.out (B := w2.heap.size) (C := w2.heap.size + 1) (Nat.le_refl _) (by omega) m (by rw [HTOL.out k (Nat.le_refl _)]; exact Nat.le_refl _)
        rw [HTOL.out k (Nat.le_refl _), HTOA.out] at q
        exact q
      have LW : Hid (w2.heap.size + 1 ≤ wr.heap.size) := lt_of_heapA HO.out
      have HB5 : Hid (Below w.heap.size w wr) := bTrans HB2.out HB.out
      have y0 := R3.out.c0
      have y1 := R3.out.c1
      have f0 : wr.frozen? ⟨w.heap.size + 1, 0, none⟩ = false := free_at R3.out 0
      have f1 : wr.frozen? ⟨w.heap.size + 1, 1, none⟩ = false := free_at R3.out 1
      have HR : Hid (((wr.setCell ⟨w.heap.size + 1, 0, none⟩ (.slice a1 S.length c1)).setCell ⟨w.heap.size + 1, 1, none⟩ (.slice (some ⟨w2.heap.size, 0, none⟩) m m)).heap[w.heap.size + 1]? = some (.cells #[.slice a1 S.length c1, .slice (some ⟨w2.heap.size, 0, none⟩) m m] 26 (0, 0))) := arr_stored R3.out
      go_wp2
      refine bodyPost_ret (v := .agg #[.slice a1 S.length c1, .slice (some ⟨w2.heap.size, 0, none⟩) m m]) (results_arr rfl _ _ (w.heap.size + 1) _ _ rfl HR.out) rfl ?_
      refine ⟨_, rfl, ?_, below_setCell (below_setCell HB5.out (by omega) _ _) (by omega) _ _⟩
      have L1 := LT.out
      have L2 := LT2.out
      have L3 := LW.out
      have p1' := (P3.out.win (win_setCell wr (w.heap.size + 1) 0 (.slice a1 S.length c1)) (.inr (by omega))).win (win_setCell _ (w.heap.size + 1) 1 (.slice (some ⟨w2.heap.size, 0, none⟩) m m)) (.inr (by omega))
      have p2' := (PD.out.win (win_setCell wr (w.heap.size + 1) 0 (.slice a1 S.length c1)) (.inr (by omega))).win (win_setCell _ (w.heap.size + 1) 1 (.slice (some ⟨w2.heap.size, 0, none⟩) m m)) (.inr (by omega))
      exact ⟨_, _, rfl, p1'.mono (by omega) (by simp only [size_setCell]; omega), p2'.mono (by omega) (by simp only [size_setCell]; omega), p1'.apart p2' (.inl (by omega))⟩
end Go.Proofs.YtcpgdhffemecbaaGreat
namespace Go.Proofs.YtcpgdhffemecbaaGreat
set_option linter.unusedVariables false
/-- How often row i is told. -/
def often (d : List Int) (i : Nat) : Int := d.getD (i % d.length) 0
def tot (d : List Int) : Nat → Int
  | 0 => 0
  | n + 1 => tot d n + often d n
def copyC (s d t e : List Int) : Int := if arrOk s d = true ∧ arrOk t e = true then (if 1 < s.length ∨ t = [] then 4 else if d.length ≠ 1 ∧ (d.length : Int) ≠ t.getD 0 0 then 3 else if d.any (fun x => decide (x < 0)) = true then 2 else if sizeV (tot d (rowsN t) :: t.drop 1) < 0 then 6 else 0) else 1
/-- The rows of the first numbers, each as often as told. -/
def toldTo (d : List Int) (f : Nat → List Int) : Nat → List Int
  | 0 => []
  | n + 1 => toldTo d f n ++ (List.replicate (often d n).toNat (f n)).flatten
def copyD (d t e : List Int) : List Int := toldTo d (fun i => rowAt t e i) (rowsN t)
def copyR (s d t e : List Int) : Int × List Int × List Int := mkR (copyC s d t e) (tot d (rowsN t) :: t.drop 1) (copyD d t e)
theorem copyR_bad {s d t e : List Int} (h : ¬ (arrOk s d = true ∧ arrOk t e = true)) : copyR s d t e = (1, [], []) := by
  unfold copyR; rw [show copyC s d t e = 1 from by unfold copyC; rw [if_neg h]]; rfl
theorem copyR_told {s d t e : List Int} (h1 : arrOk s d = true) (h2 : arrOk t e = true) :
    copyR s d t e = if 1 < s.length ∨ t = [] then (4, [], []) else if d.length ≠ 1 ∧ (d.length : Int) ≠ t.getD 0 0 then (3, [], []) else if d.any (fun x => decide (x < 0)) = true then (2, [], []) else if sizeV (tot d (rowsN t) :: t.drop 1) < 0 then (6, [], []) else (0, tot d (rowsN t) :: t.drop 1, copyD d t e) := by
  unfold copyR copyC
  rw [if_pos ⟨h1, h2⟩]
  split
  · rfl
  · split
    · rfl
    · split
      · rfl
      · split <;> rfl
theorem often_bd {s d : List Int} (ho : arrOk s d = true) (hn : ∀ j, j < d.length → 0 ≤ d.getD j 0) (i : Nat) : 0 ≤ often d i ∧ often d i ≤ 1000000000000 := by
  unfold often
  by_cases h : i % d.length < d.length
  · have hk : ok (d.getD (i % d.length) 0) = true := by
      unfold arrOk at ho
      rw [Bool.and_eq_true, List.all_eq_true] at ho
      exact ho.2 _ (by simp [h])
    exact ⟨hn _ h, (ok_bd hk).2⟩
  · have e : d.getD (i % d.length) 0 = 0 := by simp [List.getD, List.getElem?_eq_none (show d.length ≤ i % d.length by omega)]
    rw [e]
    omega
theorem tot_bd {s d : List Int} (ho : arrOk s d = true) (hn : ∀ j, j < d.length → 0 ≤ d.getD j 0) (i : Nat) : 0 ≤ tot d i ∧ tot d i ≤ i * 1000000000000 := by
  induction i with
  | zero => exact ⟨Int.le_refl _, by simp [tot]⟩
  | succ i ih =>
    have := often_bd ho hn i
    unfold tot
    push_cast
    omega
theorem tot_mono {s d : List Int} (ho : arrOk s d = true) (hn : ∀ j, j < d.length → 0 ≤ d.getD j 0) {i n : Nat} (h : i ≤ n) : tot d i ≤ tot d n := by
  induction n with
  | zero => obtain rfl : i = 0 := by omega
            exact Int.le_refl _
  | succ n ih =>
    by_cases e : i = n + 1
    · subst e; exact Int.le_refl _
    · have := ih (by omega)
      have := often_bd ho hn n
      show tot d i ≤ tot d n + often d n
      omega
theorem told_len {s d : List Int} (ho : arrOk s d = true) (hn : ∀ j, j < d.length → 0 ≤ d.getD j 0) (f : Nat → List Int) (m : Nat) (hf : ∀ i, (f i).length ≤ m) (i : Nat) : ((toldTo d f i).length : Int) ≤ tot d i * m := by
  induction i with
  | zero => simp [toldTo, tot]
  | succ i ih =>
    have hb := often_bd ho hn i
    unfold toldTo tot
    rw [List.length_append, Int.add_mul]
    have e : ((List.replicate (often d i).toNat (f i)).flatten.length : Int) = often d i * ((f i).length : Int) := by
      rw [List.length_flatten]
      simp
      rw [Int.max_eq_left hb.1]
    have h2 : often d i * ((f i).length : Int) ≤ often d i * (m : Int) := Int.mul_le_mul_of_nonneg_left (by have := hf i; omega) hb.1
    push_cast
    omega
theorem told_ext {d : List Int} {f g : Nat → List Int} {n : Nat} (h : ∀ i, i < n → f i = g i) : toldTo d f n = toldTo d g n := by
  induction n with
  | zero => rfl
  | succ n ih =>
    unfold toldTo
    rw [ih (fun i hi => h i (by omega)), h n (by omega)]
theorem big_shape {x : Int} {u : List Int} (h : 300 < x) : sizeV (x :: u) < 0 := by
  unfold sizeV
  split
  · decide
  · rw [if_neg (by simp [dimOk]; omega)]; decide
end Go.Proofs.YtcpgdhffemecbaaGreat
namespace Go.Proofs.YtcpgdhffemecbaaGreat
set_option linter.unusedVariables false
def sumL (l : List Int) : Nat → Int
  | 0 => 0
  | n + 1 => sumL l n + l.getD n 0
/-- Each place of a list as often as its number tells. -/
def toldP (l : List Int) : Nat → List Int
  | 0 => []
  | n + 1 => toldP l n ++ List.replicate (l.getD n 0).toNat (n : Int)
theorem again_often {d : List Int} {n i : Nat} (h : i < n) : (againD d n).getD i 0 = often d i := by
  unfold againD often
  by_cases e : d = []
  · simp [e, h]
  · simp [e, h]
theorem again_len (d : List Int) (n : Nat) : (againD d n).length = n := by simp [againD]
theorem sumL_tot {d : List Int} {n : Nat} : ∀ {k : Nat}, k ≤ n → sumL (againD d n) k = tot d k := by
  intro k
  induction k with
  | zero => intro _; rfl
  | succ k ih =>
    intro h
    show sumL (againD d n) k + (againD d n).getD k 0 = tot d k + often d k
    rw [ih (by omega), again_often (by omega)]
theorem told_rows {d : List Int} {n : Nat} (g : Nat → List Int) : ∀ {k : Nat}, k ≤ n → (toldP (againD d n) k).flatMap (fun x => g x.toNat) = toldTo d g k := by
  intro k
  induction k with
  | zero => intro _; rfl
  | succ k ih =>
    intro h
    show (toldP (againD d n) k ++ List.replicate ((againD d n).getD k 0).toNat (k : Int)).flatMap _ = toldTo d g k ++ (List.replicate (often d k).toNat (g k)).flatten
    rw [List.flatMap_append, ih (by omega), again_often (by omega)]
    congr 1
    rw [List.flatMap_def, List.map_replicate]
    rfl
theorem toldP_len {l : List Int} (h : ∀ j, j < l.length → 0 ≤ l.getD j 0) : ∀ {k : Nat}, k ≤ l.length → ((toldP l k).length : Int) = sumL l k := by
  intro k
  induction k with
  | zero => intro _; rfl
  | succ k ih =>
    intro hk
    show (((toldP l k) ++ List.replicate (l.getD k 0).toNat (k : Int)).length : Int) = sumL l k + l.getD k 0
    rw [List.length_append, List.length_replicate]
    have := h k (by omega)
    have := ih (by omega)
    push_cast
    omega
theorem toldP_mem {l : List Int} : ∀ {k : Nat} {x : Int}, x ∈ toldP l k → 0 ≤ x ∧ x < k := by
  intro k
  induction k with
  | zero => intro x h; cases h
  | succ k ih =>
    intro x h
    have h' : x ∈ toldP l k ++ List.replicate (l.getD k 0).toNat (k : Int) := h
    rw [List.mem_append] at h'
    rcases h' with h' | h'
    · have := ih h'; omega
    · have := List.eq_of_mem_replicate h'; omega
theorem range_getD (P : List Int) (g : Int → List Int) : (List.range P.length).flatMap (fun i => g (P.getD i 0)) = P.flatMap g := by
  rw [List.flatMap_def, List.flatMap_def]
  congr 1
  apply List.ext_getElem
  · simp
  · intro i h1 h2
    simp at h1
    simp [h1]
theorem flatMap_mem {P : List Int} {g h : Int → List Int} (q : ∀ x, x ∈ P → g x = h x) : P.flatMap g = P.flatMap h := by
  rw [List.flatMap_def, List.flatMap_def, List.map_congr_left q]
/-- The rows that are chosen by what is told are what Copy answers. -/
theorem copy_chosen {d t e : List Int} (h2 : arrOk t e = true) : chosenD t e (fun k => (toldP (againD d (rowsN t)) (rowsN t)).getD k 0) (toldP (againD d (rowsN t)) (rowsN t)).length = copyD d t e := by
  obtain ⟨e1, e2⟩ := rowsN5 h2
  unfold chosenD copyD
  rw [range_getD _ (fun x => chosenRow t e x), ← told_rows (n := rowsN t) (fun i => rowAt t e i) (Nat.le_refl _)]
  refine flatMap_mem (fun x hx => ?_)
  have := toldP_mem hx
  unfold chosenRow
  rw [if_pos ⟨by omega, by omega⟩]
theorem any_below {d : List Int} : d.any (fun x => decide (x < 0)) = false ↔ ∀ j, j < d.length → 0 ≤ d.getD j 0 := by
  constructor
  · intro h j hj
    rw [List.any_eq_false] at h
    have := h (d.getD j 0) (by simp [hj])
    simpa using this
  · intro h
    rw [List.any_eq_false]
    intro y hy
    obtain ⟨j, hj, rfl⟩ := List.getElem_of_mem hy
    have := h j hj
    rw [List.getD_eq_getElem?_getD, List.getElem?_eq_getElem hj] at this
    simpa using this
theorem copyC_zero {s d t e : List Int} (h : copyC s d t e = 0) : arrOk s d = true ∧ arrOk t e = true ∧ t ≠ [] ∧ (∀ j, j < d.length → 0 ≤ d.getD j 0) ∧ 0 ≤ sizeV (tot d (rowsN t) :: t.drop 1) := by
  unfold copyC at h
  by_cases q : arrOk s d = true ∧ arrOk t e = true
  · rw [if_pos q] at h
    by_cases q2 : 1 < s.length ∨ t = []
    · rw [if_pos q2] at h; cases h
    · rw [if_neg q2] at h
      by_cases q3 : d.length ≠ 1 ∧ (d.length : Int) ≠ t.getD 0 0
      · rw [if_pos q3] at h; cases h
      · rw [if_neg q3] at h
        by_cases q4 : d.any (fun x => decide (x < 0)) = true
        · rw [if_pos q4] at h; cases h
        · rw [if_neg q4] at h
          by_cases q5 : sizeV (tot d (rowsN t) :: t.drop 1) < 0
          · rw [if_pos q5] at h; cases h
          · exact ⟨q.1, q.2, fun k => q2 (.inr k), any_below.1 (by simpa using q4), by omega⟩
  · rw [if_neg q] at h; cases h
theorem copy_len {s d t e : List Int} (h : copyC s d t e = 0) : (tot d (rowsN t) :: t.drop 1).length ≤ 1048576 ∧ (copyD d t e).length ≤ 1048576 := by
  obtain ⟨h1, h2, h3, h4, h5⟩ := copyC_zero h
  have e2 := arrOk_len h2
  have e3 := (sizeV_ok h5).1
  have e4 := dim5 h5
  constructor
  · omega
  · have := told_len h1 h4 (fun i => rowAt t e i) 300 (fun i => by unfold rowAt; rw [List.length_take, List.length_drop]; omega) (rowsN t)
    have h6 : tot d (rowsN t) * ((300 : Nat) : Int) ≤ 300 * 300 := Int.mul_le_mul_of_nonneg_right e4.2 (by decide)
    unfold copyD
    omega
end Go.Proofs.YtcpgdhffemecbaaGreat
namespace Go.Proofs.YtcpgdhffemecbaaGreat
open Go.RowKit
set_option linter.unusedVariables false
set_option linter.unusedSimpArgs false
theorem sumL_bd {l : List Int} (h : ∀ j, j < l.length → 0 ≤ l.getD j 0 ∧ l.getD j 0 ≤ 1000000000000) : ∀ {k : Nat}, k ≤ l.length → 0 ≤ sumL l k ∧ sumL l k ≤ k * 1000000000000 := by
  intro k
  induction k with
  | zero => intro _; exact ⟨Int.le_refl _, by simp [sumL]⟩
  | succ k ih =>
    intro hk
    have h1 := h k (by omega)
    have h2 := ih (by omega)
    show 0 ≤ sumL l k + l.getD k 0 ∧ sumL l k + l.getD k 0 ≤ _
    push_cast
    omega
/-- A list of no number, with room. -/
theorem make0_ints (n : Nat) (hn : n ≤ 1073741824) (w : World) :
    ∃ w', (Instr.makeSlice 24 (.int .i64 0) (.int .i64 (n : Int))).run Tryz.prog w = .ok (.slice (some ⟨w.heap.size, 0, none⟩) 0 n) w' ∧ NewInts w.heap.size w' (.slice (some ⟨w.heap.size, 0, none⟩) 0 n) [] ∧ Below w.heap.size w w' := by
  have hi := info_int
  cases hq : Tryz.prog.info? 3 with
  | none => rw [hq] at hi; cases hi
  | some i =>
    rw [hq] at hi
    simp at hi
    obtain ⟨z1, z2, z3⟩ := hi
    have := run_make (P := Tryz.prog) w 24 3 i (.int .i64 0) Tryz.underlying24 hq z1 .i64 .i64 0 n (by omega) (by omega) (by rw [z3]; omega) (by omega)
    rw [z2, Int.toNat_natCast, Nat.mul_one] at this
    refine ⟨_, this, ⟨rfl, .inr ⟨w.heap.size, n, _, rfl, Nat.le_refl _, heap_alloc_new w _, Nat.zero_le _, by unfold maxLen; omega, ?_, by simp⟩⟩, bAlloc (Below.refl _ _) _⟩
    rw [made_zero]
    simp [vals]
end Go.Proofs.YtcpgdhffemecbaaGreat
namespace Go.Proofs.YtcpgdhffemecbaaGreat
open Go.RowKit
set_option linter.unusedVariables false
set_option linter.unusedSimpArgs false
theorem flat_succ (D : Nat → List Int) (k : Nat) : (List.range (k + 1)).flatMap D = (List.range k).flatMap D ++ D k := by
  rw [List.range_succ, List.flatMap_append]; simp
set_option maxRecDepth 20000 in
set_option maxHeartbeats 8000000 in
/-- strung. -/
theorem strung_impl {S : List Int} {n B E : Nat} {C : Nat → Int} {T D : Nat → List Int} {w : World} {a : Option Addr} {c f : Nat} {p q : Value} (hE : ∀ (args : Array Value) (w : World), (callFunc f args).run Tryz.prog w = .ok (.enter f args) w)
    (hS : Piece B E w (.slice a S.length c) S) (hB : B ≤ w.heap.size) (hEw : E ≤ w.heap.size) (hz : 0 ≤ sizeV S) (hn : n ≤ 90000) (hD : ∀ k, k ≤ n → ((List.range k).flatMap D).length ≤ 100000)
    (hV : ∀ (W : World) (k : Nat), k < n → Below w.heap.size w W → Calls Tryz.prog f #[.int .i64 (k : Int), p, q] W fun r W' => ∃ v', r = .returned (.tuple #[v', .int .i64 (C k)]) ∧ Arr W.heap.size W'.heap.size W' v' (T k) (D k) ∧ Below W.heap.size W W') :
    Calls Tryz.prog 52 #[.slice a S.length c, .int .i64 (n : Int), .func (.func f) #[] #[p, q]] w fun r w' => ∃ v', r = .returned (.tuple #[v', .int .i64 (firstC C n)]) ∧ Arr B w'.heap.size w' v' (mkR (firstC C n) S ((List.range n).flatMap D)).2.1 (mkR (firstC C n) S ((List.range n).flatMap D)).2.2 ∧ Below w.heap.size w w' := by
  have HV : Hid (∀ (W : World) (k : Nat), k < n → Below w.heap.size w W → Calls Tryz.prog f #[.int .i64 (k : Int), p, q] W fun r W' => ∃ v', r = .returned (.tuple #[v', .int .i64 (C k)]) ∧ Arr W.heap.size W'.heap.size W' v' (T k) (D k) ∧ Below W.heap.size W W') := hV
  have HD : Hid (∀ k, k ≤ n → ((List.range k).flatMap D).length ≤ 100000) := hD
  have HS : Hid (Piece B E w (.slice a S.length c) S) := hS
  obtain ⟨m, hm⟩ : ∃ m : Nat, sizeV S = (m : Int) := ⟨(sizeV S).toNat, by omega⟩
  have hm3 : m ≤ 300 := by have := sizeV_bd S; omega
  have HSZ : Hid (∀ W, Below w.heap.size w W → Calls Tryz.prog 62 #[.slice a S.length c] W fun r w' => r = .returned (.int .i64 (m : Int)) ∧ Below W.heap.size W w') := fun W hb => by
    obtain ⟨q1, q2, q3, q4⟩ := (hS.keep hb).ints
    cases q3
    have qq := size_impl c q4
    rw [hm] at qq
    exact qq
  have HB0 : Hid (B ≤ w.heap.size) := hB
  have HE0 : Hid (E ≤ w.heap.size) := hEw
  clear hV hD hS hm hz hB hEw
  go_enter Tryz.func52, Tryz.ntmps52
  go_wp2_with fail
  refine (HSZ.out _ (bAlloc (Below.refl _ _) _)).mono ?_
  rintro r w2 ⟨rfl, hb⟩
  have HB2 : Hid (Below w.heap.size w w2) := bTrans (bAlloc (Below.refl _ _) _) hb
  have R2 : Hid (Box w2 w.heap.size (.slice none 0 0) (.slice none 0 0) 26) := (box_new w _ _ _).keep hb
  have LT : Hid (w.heap.size < w2.heap.size) := R2.out.lt
  clear hb HSZ
  obtain ⟨w3, r3, n3, b3⟩ := make0_ints m (by omega) w2
  have N3 : Hid (NewInts w2.heap.size w3 (.slice (some ⟨w2.heap.size, 0, none⟩) 0 m) []) := n3
  have B3 : Hid (Below w2.heap.size w2 w3) := b3
  clear n3 b3
  go_wp2
  clear r3
  go_loopw [8, 16] (fun v i w' => ∃ (k : Nat), k ≤ n ∧ i = .int .i64 (k : Int) ∧ NewInts w2.heap.size w' v ((List.range k).flatMap D) ∧ firstC C k = 0 ∧ Below w2.heap.size w2 w') (fun _ i _ => n - (intOf i).toNat)
  case atStart => exact ⟨0, by omega, rfl, N3.out, rfl, B3.out⟩
  case round =>
    obtain ⟨k, hk, rfl, hN, hF, hB⟩ := hrel
    have NK : Hid (NewInts w2.heap.size wr _ ((List.range k).flatMap D)) := hN
    have BK : Hid (Below w2.heap.size w2 wr) := hB
    have FK : Hid (firstC C k = 0) := hF
    obtain ⟨a5, c5, rfl, _⟩ := hN.ints
    clear hN hB hF N3 B3
    by_cases hlt : (k : Int) < (n : Int)
    · have L : k < n := by omega
      have HVK : Hid (Calls Tryz.prog f #[.int .i64 (k : Int), p, q] wr fun r W' => ∃ v', r = .returned (.tuple #[v', .int .i64 (C k)]) ∧ Arr wr.heap.size W'.heap.size W' v' (T k) (D k) ∧ Below wr.heap.size wr W') := HV.out wr k L (bTrans HB2.out BK.out)
      have E1 : Hid (C k = 0 → firstC C (k + 1) = 0) := fun h => firstC_go FK.out h
      have E2 : Hid (C k ≠ 0 → firstC C n = C k) := fun h => firstC_stop FK.out h L
      have LD := HD.out (k + 1) (by omega)
      have EF : Hid ((List.range (k + 1)).flatMap D = (List.range k).flatMap D ++ D k) := flat_succ D k
      rw [EF.out, List.length_append] at LD
      obtain ⟨P, hP⟩ : ∃ P, P = (List.range k).flatMap D := ⟨_, rfl⟩
      rw [← hP] at NK LD EF ⊢
      clear hP
      obtain ⟨dk, hdk⟩ : ∃ dk, dk = D k := ⟨_, rfl⟩
      obtain ⟨tk, htk⟩ : ∃ tk, tk = T k := ⟨_, rfl⟩
      rw [← hdk] at EF LD HVK
      rw [← htk] at HVK
      clear hdk htk
      have LDK : Hid (P.length + dk.length ≤ 100000) := LD
      clear LD
      generalize C k = x at *
      by_cases hx : x = 0
      · subst hx
        have E1' : Hid (firstC C (k + 1) = 0) := E1.out rfl
        clear E1 E2
        go_wp2_with fail
        go_at_fn f
        refine HVK.out.mono ?_
        rintro r w4 ⟨v4, rfl, ha, hb⟩
        obtain ⟨ta, tc, da, dc, rfl, _, i4, _, _⟩ := ha.arrI
        have I4 : Hid (Ints w4 da dk) := i4
        have HB4 : Hid (Below wr.heap.size wr w4) := hb
        clear ha hb i4
        obtain ⟨a7, c7, w7, r7, n7, b7⟩ := growL (NewInts.keep (NewInts.keep NK.out HB4.out) (bAlloc (Below.refl _ _) (.cells #[.slice ta tk.length tc, .slice da dk.length dc] 26))) (I4.out.keep (bAlloc (Below.refl _ _) (.cells #[.slice ta tk.length tc, .slice da dk.length dc] 26))) (by have := BK.out.size; have := HB4.out.size; simp; omega) (by have := LDK.out; omega) dc
        have R7 : Hid (_ = _) := r7
        have N7 : Hid (NewInts w2.heap.size w7 (.slice a7 (P ++ dk).length c7) (P ++ dk)) := n7
        have B7 : Hid (Below w2.heap.size w2 w7) := (bAlloc (bTrans BK.out HB4.out) _).trans b7
        clear r7 n7 b7
        go_wp2_with (at_builtin; refine wpList_append_ty rfl _ _ 24 24 rfl _ _ _ rfl rfl R7.out ?_)
        go_roundw
        case rel => exact ⟨k + 1, by omega, by go_num, by rw [EF.out]; have := N7.out; rw [List.length_append] at this; exact this, E1'.out, B7.out⟩
        case measure => simp [intOf]; omega
      · have E2' : Hid (firstC C n = x) := E2.out hx
        clear E1 E2
        go_wp2_with fail
        go_at_fn f
        refine HVK.out.mono ?_
        rintro r w4 ⟨v4, rfl, ha, hb⟩
        obtain ⟨ta, tc, da, dc, rfl, _, _, _, _⟩ := ha.arrI
        have HB4 : Hid (Below w2.heap.size w2 w4) := bTrans BK.out hb
        have R4 : Hid (Box (w4.alloc (.cells #[.slice ta tk.length tc, .slice da dk.length dc] 26)) w.heap.size (.slice none 0 0) (.slice none 0 0) 26) := ((R2.out.keep HB4.out).keep (bAlloc (Below.refl _ _) _))
        have BW4 : Hid (Below w.heap.size w (w4.alloc (.cells #[.slice ta tk.length tc, .slice da dk.length dc] 26))) := bAlloc (bTrans HB2.out HB4.out) _
        clear ha hb
        have y0 := R4.out.c0
        have y1 := R4.out.c1
        have f0 := free_at R4.out 0
        have f1 := free_at R4.out 1
        have HR : Hid (_ = _) := arr_stored (x' := .slice none 0 0) (y' := .slice none 0 0) R4.out
        have hxx : (x != 0) = true := by simpa using hx
        go_wp2
        refine bodyPost_ret (results_arr_tmp Tryz.results52 _ _ w.heap.size _ _ rfl HR.out) rfl ?_
        rw [E2'.out, mkR_bad hx]
        exact ⟨_, rfl, arr_zero _ _ _, below_setCell (below_setCell BW4.out (by omega) _ _) (by omega) _ _⟩
    · obtain rfl : k = n := by omega
      have R4 : Hid (Box wr w.heap.size (.slice none 0 0) (.slice none 0 0) 26) := R2.out.keep BK.out
      have BW4 : Hid (Below w.heap.size w wr) := bTrans HB2.out BK.out
      have P4 : Hid (Piece B E wr (.slice a S.length c) S) := HS.out.keep BW4.out
      have N4 : Hid (Piece w2.heap.size wr.heap.size wr (.slice a5 ((List.range k).flatMap D).length c5) ((List.range k).flatMap D)) := NK.out.piece
      clear NK
      generalize ((List.range k).flatMap D).length = q9 at *
      have y0 := R4.out.c0
      have y1 := R4.out.c1
      have f0 := free_at R4.out 0
      have f1 := free_at R4.out 1
      have HR : Hid (_ = _) := arr_stored (x' := .slice a S.length c) (y' := .slice a5 q9 c5) R4.out
      go_wp2
      refine bodyPost_ret (results_arr_tmp Tryz.results52 _ _ w.heap.size _ _ rfl HR.out) rfl ?_
      rw [FK.out, mkR_good]
      refine ⟨_, rfl, ?_, below_setCell (below_setCell BW4.out (by omega) _ _) (by omega) _ _⟩
      have L1 := LT.out
      have L2 := HE0.out
      have L3 := HB0.out
      have p1' := (P4.out.win (win_setCell wr w.heap.size 0 (.slice a S.length c)) (.inl (by omega))).win (win_setCell _ w.heap.size 1 (.slice a5 q9 c5)) (.inl (by omega))
      have p2' := (N4.out.win (win_setCell wr w.heap.size 0 (.slice a S.length c)) (.inr (by omega))).win (win_setCell _ w.heap.size 1 (.slice a5 q9 c5)) (.inr (by omega))
      have L4 := BW4.out.size
      exact ⟨_, _, rfl, p1'.mono (by omega) (by simp only [size_setCell]; omega), p2'.mono (by omega) (by simp only [size_setCell]; omega), p1'.apart p2' (.inl (by omega))⟩
end Go.Proofs.YtcpgdhffemecbaaGreat
namespace Go.Proofs.YtcpgdhffemecbaaGreat
open Go.RowKit
set_option linter.unusedVariables false
set_option linter.unusedSimpArgs false
theorem cell_keep6 {w w' : World} {o : Nat} {x : Value} (h : w.cell? ⟨o, 0, none⟩ = some x) (ho : o < w.heap.size) (hb : Below w.heap.size w w') : w'.cell? ⟨o, 0, none⟩ = some x := by rw [hb.cell (p := ⟨o, 0, none⟩) ho]; exact h
theorem from1_impl {N : Int} {k o : Nat} {W : World} (h : W.cell? ⟨o, 0, none⟩ = some (.int .i64 N)) (h0 : -2000000000000 ≤ N) (h1 : N ≤ 2000000000000) (hk : (k : Int) ≤ 300) :
    Calls Tryz.prog 81 #[.int .i64 (k : Int), .pointer (some ⟨o, 0, none⟩)] W fun r W' => r = .returned (.int .i64 (N + (k : Int))) ∧ W' = W := by
  go_enter Tryz.func81, Tryz.ntmps81
  go_wp2
  go_ret
  exact ⟨by go_num, rfl⟩
theorem three5 (w : World) (A B C : Obj) :
    (((w.alloc A).alloc B).alloc C).heap[w.heap.size]? = some A ∧ (((w.alloc A).alloc B).alloc C).heap[w.heap.size + 1]? = some B ∧ (((w.alloc A).alloc B).alloc C).heap[w.heap.size + 1 + 1]? = some C := by
  have e1 := heap_alloc_new w A
  have e2 := heap_alloc_new (w.alloc A) B
  have e3 := heap_alloc_new ((w.alloc A).alloc B) C
  simp only [World.size_alloc] at e2 e3
  refine ⟨?_, ?_, e3⟩
  · rw [heap_alloc_old _ _ (by simp only [World.size_alloc]; omega), heap_alloc_old _ _ (by simp only [World.size_alloc]; omega)]; exact e1
  · rw [heap_alloc_old _ _ (by simp only [World.size_alloc]; omega)]; exact e2
set_option maxRecDepth 20000 in
set_option maxHeartbeats 4000000 in
/-- rowsFrom. -/
theorem from_impl {s d : List Int} {w : World} {v : Value} {N z : Int} {n : Nat} (hzn : z = (n : Int)) (h : ArrI w v s d) (ho : arrOk s d = true) (hs : s ≠ []) (hz : 0 ≤ sizeV ((n : Int) :: s.drop 1)) (h0 : -2000000000000 ≤ N) (h1 : N ≤ 2000000000000) :
    Calls Tryz.prog 41 #[v, .int .i64 N, .int .i64 z] w fun r w' => ∃ v', r = .returned v' ∧ Arr w.heap.size w'.heap.size w' v' ((n : Int) :: s.drop 1) (chosenD s d (fun k => N + (k : Int)) n) ∧ Below w.heap.size w w' := by
  have hn3 := dim5 hz
  have HCH : Hid (∀ (W : World) (o : Nat), Below w.heap.size w W → W.cell? ⟨o, 0, none⟩ = some (.int .i64 N) → o < W.heap.size → Calls Tryz.prog 80 #[v, .int .i64 z, .func (.func 81) #[] #[.pointer (some ⟨o, 0, none⟩)]] W fun r w' => ∃ v', r = .returned v' ∧ Arr W.heap.size w'.heap.size w' v' ((n : Int) :: s.drop 1) (chosenD s d (fun k => N + (k : Int)) n) ∧ Below W.heap.size W w') := fun W o hb hc hoW =>
    chosen_impl (s := s) (d := d) (w := W) (v := v) (p := .pointer (some ⟨o, 0, none⟩)) (f := 81) (n := n) (φ := fun k => N + (k : Int)) hzn (enters_of Tryz.func81 (by kernel_rfl) rfl) (h.keep hb) ho hs hz (fun W' k hk hb' => by
      refine (from1_impl (cell_keep6 hc hoW hb') h0 h1 (by omega)).mono ?_
      rintro r w' ⟨rfl, rfl⟩
      exact ⟨rfl, Below.refl _ _⟩)
  obtain ⟨a, c, b, e, rfl, ia, ib, ga, gb⟩ := h
  generalize (n : Int) :: s.drop 1 = S at *
  generalize chosenD s d (fun k => N + (k : Int)) n = D at *
  clear ia ib ga gb hz ho hs h0 h1 hn3 hzn
  go_enter Tryz.func41, Tryz.ntmps41
  have q3 := three5 w (.cells #[.slice a s.length c, .slice b d.length e] 26) (.cells #[.int .i64 N] 3) (.cells #[.slice none 0 0, .slice none 0 0] 26)
  have HQ : Hid (_ ∧ _ ∧ _) := q3
  clear q3
  go_wp2_with fail
  refine (HCH.out _ _ (bAlloc (bAlloc (bAlloc (Below.refl _ _) _) _) _) (cell_at (cs := #[.int .i64 N]) HQ.out.2.1 rfl) (lt_of_heapA HQ.out.2.1)).mono ?_
  rintro r w1 ⟨v', rfl, ha, hb⟩
  obtain ⟨a2, c2, b2, e2, rfl, _, _, _, _⟩ := ha.arrI
  have HA : Hid (Arr (w.heap.size + 1 + 1 + 1) w1.heap.size w1 (.agg #[.slice a2 S.length c2, .slice b2 D.length e2]) S D) := ha.mono (by simp) (Nat.le_refl _)
  have HB : Hid (Below w.heap.size w w1) := bTrans (bAlloc (bAlloc (bAlloc (Below.refl _ _) _) _) _) hb
  have R : Hid (Box w1 (w.heap.size + 1 + 1) (.slice none 0 0) (.slice none 0 0) 26) := Box.keep HQ.out.2.2 hb
  clear ha hb HQ
  have y0 := R.out.c0
  have y1 := R.out.c1
  have f0 : w1.frozen? ⟨w.heap.size + 1 + 1, 0, none⟩ = false := free_at R.out 0
  have f1 : w1.frozen? ⟨w.heap.size + 1 + 1, 1, none⟩ = false := free_at R.out 1
  have HR : Hid (((w1.setCell ⟨w.heap.size + 1 + 1, 0, none⟩ (.slice a2 S.length c2)).setCell ⟨w.heap.size + 1 + 1, 1, none⟩ (.slice b2 D.length e2)).heap[w.heap.size + 1 + 1]? = some (.cells #[.slice a2 S.length c2, .slice b2 D.length e2] 26 (0, 0))) := arr_stored R.out
  go_wp2
  refine bodyPost_ret (v := .agg #[.slice a2 S.length c2, .slice b2 D.length e2]) (results_arr rfl _ _ (w.heap.size + 1 + 1) _ _ rfl HR.out) rfl ?_
  refine ⟨_, rfl, ?_, below_setCell (below_setCell HB.out (by omega) _ _) (by omega) _ _⟩
  exact ((HA.out.setCell (by omega) _ _).setCell (by omega) _ _).mono (by omega) (by simp [size_setCell])
end Go.Proofs.YtcpgdhffemecbaaGreat
namespace Go.Proofs.YtcpgdhffemecbaaGreat
open Go.RowKit
set_option linter.unusedVariables false
set_option linter.unusedSimpArgs false
set_option maxHeartbeats 1000000 in
/-- reducing. -/
theorem reducing_impl (g : Int) (w : World) :
    Calls Tryz.prog 35 #[.int .i64 g] w fun r w' => r = .returned (.func (.func 75) #[] #[.pointer (some ⟨w.heap.size, 0, none⟩)]) ∧ w' = w.alloc (.cells #[.int .i64 g] 3) := by
  go_enter Tryz.func35, Tryz.ntmps35
  go_wp2
  go_ret
  exact ⟨rfl, rfl⟩
set_option maxHeartbeats 1000000 in
/-- scanning. -/
theorem scanning_impl (g : Int) (w : World) :
    Calls Tryz.prog 26 #[.int .i64 g] w fun r w' => r = .returned (.func (.func 68) #[] #[.pointer (some ⟨w.heap.size + 1, 0, none⟩)]) ∧ w'.cell? ⟨w.heap.size, 0, none⟩ = some (.int .i64 g) ∧ w'.cell? ⟨w.heap.size + 1, 0, none⟩ = some (.func (.func 75) #[] #[.pointer (some ⟨w.heap.size, 0, none⟩)]) ∧ Below w.heap.size w w' ∧ w.heap.size + 2 ≤ w'.heap.size := by
  go_enter Tryz.func26, Tryz.ntmps26
  go_wp2_with (go_at_call 35; refine (reducing_impl _ _).mono ?_; rintro r w1 ⟨rfl, hw1⟩; subst hw1)
  go_ret
  refine ⟨rfl, ?_, ?_, bAlloc (bAlloc (Below.refl _ _) _) _, by simp⟩
  · exact cell_at (heap_alloc2_old w _ _) rfl
  · exact cell_at (heap_alloc2_new w _ _) rfl
set_option maxRecDepth 20000 in
set_option maxHeartbeats 4000000 in
/-- The beginning of so many rows, reduced. -/
theorem scan2_impl {g n0 : Int} {t d : List Int} {w : World} {o p q k : Nat} {x y : Value} (hw : w.cell? ⟨p, 0, none⟩ = some (.func (.func 75) #[] #[.pointer (some ⟨o, 0, none⟩)])) (hp : p < w.heap.size) (hg : w.cell? ⟨o, 0, none⟩ = some (.int .i64 g)) (hol : o < w.heap.size) (hq : Box w q x y 26) (hA : ArrI w (.agg #[x, y]) (n0 :: t) d) (ho : arrOk (n0 :: t) d = true) (hk : k < n0.toNat) :
    Calls Tryz.prog 69 #[.int .i64 (k : Int), .pointer (some ⟨p, 0, none⟩), .pointer (some ⟨q, 0, none⟩)] w fun r w' => ∃ v', r = .returned (.tuple #[v', .int .i64 (scanK g (n0 :: t) d k).1]) ∧ Arr w.heap.size w'.heap.size w' v' (if (scanK g (n0 :: t) d k).1 = 0 then t else []) (scanK g (n0 :: t) d k).2 ∧ Below w.heap.size w w' := by
  obtain ⟨f1, f2, f3⟩ := beg_facts ho hk
  have hh := head_bd ho
  simp only [List.getD_cons_zero] at hh
  have HF : Hid (∀ W, Below w.heap.size w W → Calls Tryz.prog 41 #[.agg #[x, y], .int .i64 0, .int .i64 ((k : Int) + 1)] W fun r w' => ∃ v', r = .returned v' ∧ Arr W.heap.size w'.heap.size w' v' (((k + 1 : Nat) : Int) :: t) (chosenD (n0 :: t) d (fun j => 0 + (j : Int)) (k + 1)) ∧ Below W.heap.size W w') := fun W hb => from_impl (N := 0) (n := k + 1) (z := (k : Int) + 1) (by simp) (hA.keep hb) ho (by simp) (by exact f1) (by omega) (by omega)
  have HR : Hid (∀ W v, Below w.heap.size w W → ArrI W v (((k + 1 : Nat) : Int) :: t) (chosenD (n0 :: t) d (fun j => 0 + (j : Int)) (k + 1)) → Calls Tryz.prog 75 #[v, .pointer (some ⟨o, 0, none⟩)] W fun r w' => ∃ v', r = .returned (.tuple #[v', .int .i64 (scanK g (n0 :: t) d k).1]) ∧ Arr W.heap.size w'.heap.size w' v' (if (scanK g (n0 :: t) d k).1 = 0 then t else []) (scanK g (n0 :: t) d k).2 ∧ Below W.heap.size W w') := fun W v hb hv => by
    have q := reduce1_impl hv f2 (by omega) ((hb.cell (p := ⟨o, 0, none⟩) hol).trans hg) (Nat.lt_of_lt_of_le hol hb.size)
    rw [f3] at q
    exact q
  obtain ⟨C, hC⟩ : ∃ C, C = (scanK g (n0 :: t) d k).1 := ⟨_, rfl⟩
  obtain ⟨S, hS⟩ : ∃ S, S = (if (scanK g (n0 :: t) d k).1 = 0 then t else []) := ⟨_, rfl⟩
  obtain ⟨D, hD⟩ : ∃ D, D = (scanK g (n0 :: t) d k).2 := ⟨_, rfl⟩
  rw [← hS, ← hC, ← hD] at HR
  rw [← hS, ← hC, ← hD]
  generalize hX : (((k + 1 : Nat) : Int) :: t) = SX at *
  generalize chosenD (n0 :: t) d (fun j => 0 + (j : Int)) (k + 1) = DX at *
  have hw1 : IntKind.i64.wrap ((k : Int) + 1) = (k : Int) + 1 := by rw [IntKind.wrap_i64]; omega
  have u0 : ∀ O : Obj, (w.alloc O).cell? ⟨p, 0, none⟩ = some (.func (.func 75) #[] #[.pointer (some ⟨o, 0, none⟩)]) := fun O => ((bAlloc (Below.refl w.heap.size w) O).cell (p := ⟨p, 0, none⟩) hp).trans hw
  have u1 : ∀ O : Obj, (w.alloc O).cell? ⟨q, 0, none⟩ = some x := fun O => (hq.keep (bAlloc (Below.refl w.heap.size w) O)).c0
  have u2 : ∀ O : Obj, (w.alloc O).cell? ⟨q, 1, none⟩ = some y := fun O => (hq.keep (bAlloc (Below.refl w.heap.size w) O)).c1
  have HQ : Hid (Box w q x y 26) := hq
  have HP : Hid (w.cell? ⟨p, 0, none⟩ = some (.func (.func 75) #[] #[.pointer (some ⟨o, 0, none⟩)]) ∧ p < w.heap.size) := ⟨hw, hp⟩
  obtain ⟨_, _, _, _, ev, _, _, _, _⟩ := hA
  cases ev
  have hE := enters_of Tryz.func75 (by kernel_rfl) rfl
  clear hC hS hD hX ho f1 f2 f3 hg hw hq hk
  go_enter Tryz.func69, Tryz.ntmps69
  go_wp2_with fail
  go_region_with (first
    | (go_at_call 41; refine (HF.out _ ((bAlloc (Below.refl w.heap.size w) (.cells #[.slice none 0 0, .slice none 0 0] 26)).drew)).mono ?_; rintro r w1 ⟨v1, rfl, ha, hb⟩; have HB1 : Hid (Below w.heap.size w w1) := bTrans ((bAlloc (Below.refl w.heap.size w) (.cells #[.slice none 0 0, .slice none 0 0] 26)).drew) hb; have HA1 : Hid (ArrI w1 v1 SX DX) := ha.arrI; obtain ⟨xa1, xc1, ya1, yc1, rfl, _, _, _, _⟩ := ha.arrI; have R1 : Hid (Box w1 w.heap.size (.slice none 0 0) (.slice none 0 0) 26) := (((box_new w _ _ _).keep (Below.refl _ _).drew)).keep hb; clear ha hb; have h1 := (HB1.out.cell (p := ⟨p, 0, none⟩) HP.out.2).trans HP.out.1; have h2 := (HQ.out.keep HB1.out).c0; have h3 := (HQ.out.keep HB1.out).c1)
    | (go_at_call 75; refine (HR.out _ _ HB1.out HA1.out).mono ?_; rintro r w2 ⟨v2, rfl, ha, hb⟩; obtain ⟨s1, d1, rfl, p1, p2, p3⟩ := ha; obtain ⟨ta, tc, rfl, _⟩ := p1.ints; obtain ⟨da, dc, rfl, _⟩ := p2.ints; have HB2 : Hid (Below w.heap.size w w2) := bTrans HB1.out hb; have R2 : Hid (Box w2 w.heap.size (.slice none 0 0) (.slice none 0 0) 26) := R1.out.keep hb; have LT : Hid (w.heap.size < w1.heap.size) := R1.out.lt; have A2 : Hid (Arr w1.heap.size w2.heap.size w2 (.agg #[.slice ta S.length tc, .slice da D.length dc]) S D) := ⟨_, _, rfl, p1, p2, p3⟩; clear p1 p2 p3 hb; have y0 := R2.out.c0; have y1 := R2.out.c1; have f0 := free_at R2.out 0; have f1 := free_at R2.out 1; have HRR : Hid (_ = _) := arr_stored (x' := .slice ta S.length tc) (y' := .slice da D.length dc) R2.out))
  all_goals
    go_wp2
    refine bodyPost_ret (results_arr_tmp Tryz.results69 _ _ w.heap.size _ _ rfl HRR.out) rfl ?_
    refine ⟨_, rfl, ?_, below_setCell (below_setCell HB2.out (by omega) _ _) (by omega) _ _⟩
    have L1 := LT.out
    exact ((A2.out.setCell (by omega) _ _).setCell (by omega) _ _).mono (by omega) (by simp only [size_setCell]; omega)
set_option maxRecDepth 20000 in
set_option maxHeartbeats 4000000 in
/-- scanning's closure. -/
theorem scan1_impl {g n0 : Int} {t d : List Int} {w : World} {o p : Nat} {v : Value} (hw : w.cell? ⟨p, 0, none⟩ = some (.func (.func 75) #[] #[.pointer (some ⟨o, 0, none⟩)])) (hp : p < w.heap.size) (hg : w.cell? ⟨o, 0, none⟩ = some (.int .i64 g)) (hol : o < w.heap.size) (hA : ArrI w v (n0 :: t) d) (ho : arrOk (n0 :: t) d = true) (hsg : sign2 g = true) :
    Calls Tryz.prog 68 #[v, .pointer (some ⟨p, 0, none⟩)] w fun r w' => ∃ v', r = .returned (.tuple #[v', .int .i64 (scanR g (n0 :: t) d).1]) ∧ Arr w.heap.size w'.heap.size w' v' (scanR g (n0 :: t) d).2.1 (scanR g (n0 :: t) d).2.2 ∧ Below w.heap.size w w' := by
  have H : Hid (ArrI w v (n0 :: t) d) := hA
  obtain ⟨a, c, b, e, rfl, h1, _, g1, _⟩ := hA
  obtain ⟨b1, o1, rfl, hb1, c0⟩ := h1.at (k := 0) (by simp)
  have hh := head_bd ho
  simp only [List.getD_cons_zero] at hh c0
  rw [Nat.add_zero] at c0
  obtain ⟨cnt, rfl⟩ : ∃ cnt : Nat, n0 = (cnt : Int) := ⟨n0.toNat, by omega⟩
  have k1 := (sizeV_ok (arrOk_shape ho)).1
  simp at k1
  have er : rowsN ((cnt : Int) :: t) = cnt := by simp [rowsN]
  have ER := scanR_told ⟨ho, hsg⟩ (List.cons_ne_nil (cnt : Int) t)
  rw [er] at ER
  have HCP : Hid (∀ W, Below w.heap.size w W → Calls Tryz.prog 70 #[.slice (some ⟨b1, o1, none⟩) (t.length + 1) c] W fun r w' => ∃ a' c', r = .returned (.slice a' (t.length + 1) c') ∧ Piece W.heap.size w'.heap.size w' (.slice a' (t.length + 1) c') ((cnt : Int) :: t) ∧ Below W.heap.size W w') := fun W hb => copied_new (l := (cnt : Int) :: t) (IntsI.keep ⟨_, _, rfl, g1, h1⟩ hb) (by simp; omega)
  have HST : Hid (∀ (W : World) (q B E : Nat) (a3 : Option Addr) (c3 : Nat), Below w.heap.size w W → Box W q (.slice (some ⟨b1, o1, none⟩) (t.length + 1) c) (.slice b d.length e) 26 → Piece B E W (.slice a3 (t.length + 1) c3) ((cnt : Int) :: t) → B ≤ W.heap.size → E ≤ W.heap.size →
      Calls Tryz.prog 52 #[.slice a3 (t.length + 1) c3, .int .i64 (cnt : Int), .func (.func 69) #[] #[.pointer (some ⟨p, 0, none⟩), .pointer (some ⟨q, 0, none⟩)]] W fun r w' => ∃ v', r = .returned (.tuple #[v', .int .i64 (scanR g ((cnt : Int) :: t) d).1]) ∧ Arr B w'.heap.size w' v' (scanR g ((cnt : Int) :: t) d).2.1 (scanR g ((cnt : Int) :: t) d).2.2 ∧ Below W.heap.size W w') := fun W q B E a3 c3 hb hq hS hB hE => by
    rw [ER, mkR_code]
    refine strung_impl (S := (cnt : Int) :: t) (T := fun k => if (scanK g ((cnt : Int) :: t) d k).1 = 0 then t else []) (enters_of Tryz.func69 (by kernel_rfl) rfl) hS hB hE (arrOk_shape ho) (by omega) (fun k hk => ?_) (fun W' k hk hb' => ?_)
    · have q1 := flat_bound k 300 (fun i => (scanK g ((cnt : Int) :: t) d i).2) (scanK_len ho (by simp))
      have q2 : k * 300 ≤ 300 * 300 := Nat.mul_le_mul_right _ (by omega)
      omega
    · have bb := bTrans hb hb'
      exact scan2_impl ((bb.cell (p := ⟨p, 0, none⟩) hp).trans hw) (Nat.lt_of_lt_of_le hp bb.size) ((bb.cell (p := ⟨o, 0, none⟩) hol).trans hg) (Nat.lt_of_lt_of_le hol bb.size) (hq.keep hb') (H.out.keep bb) ho (by omega)
  obtain ⟨C, hC⟩ : ∃ C, C = (scanR g ((cnt : Int) :: t) d).1 := ⟨_, rfl⟩
  obtain ⟨S, hS⟩ : ∃ S, S = (scanR g ((cnt : Int) :: t) d).2.1 := ⟨_, rfl⟩
  obtain ⟨D, hD⟩ : ∃ D, D = (scanR g ((cnt : Int) :: t) d).2.2 := ⟨_, rfl⟩
  rw [← hS, ← hC, ← hD] at HST
  rw [← hS, ← hC, ← hD]
  obtain ⟨W1, hW1⟩ : ∃ W1, W1 = (w.alloc (.cells #[.slice (some ⟨b1, o1, none⟩) (t.length + 1) c, .slice b d.length e] 26)).alloc (.cells #[.slice none 0 0, .slice none 0 0] 26) := ⟨_, rfl⟩
  have BW1 : Hid (Below w.heap.size w W1) := by rw [hW1]; exact bAlloc (bAlloc (Below.refl _ _) _) _
  have X1 : Hid (Box W1 w.heap.size (.slice (some ⟨b1, o1, none⟩) (t.length + 1) c) (.slice b d.length e) 26) := by rw [hW1]; exact heap_alloc2_old w _ _
  have Y1 : Hid (Box W1 (w.heap.size + 1) (.slice none 0 0) (.slice none 0 0) 26) := by rw [hW1]; exact heap_alloc2_new w _ _
  have z0 := X1.out.c0
  have z1 := X1.out.c1
  have s0 : W1.cell? ⟨b1, o1, none⟩ = some (.int .i64 (cnt : Int)) := (BW1.out.cell (p := ⟨b1, o1, none⟩) hb1).trans c0
  have hl1 : (0 : Int) < (t.length : Int) + 1 := by omega
  have HB1' : Hid (b1 < w.heap.size ∧ w.cell? ⟨b1, o1, none⟩ = some (.int .i64 (cnt : Int))) := ⟨hb1, c0⟩
  clear hC hS hD ER ho hsg h1 g1 hw hg c0 er hb1
  go_enter Tryz.func68, Tryz.ntmps68
  go_wp2_with fail
  rw [← hW1]
  clear hW1
  go_region_with (first
    | (go_at_call 70; refine (HCP.out _ (BW1.out.drew)).mono ?_; rintro r w2 ⟨a2, c2, rfl, hpc, hb⟩; have HB2 : Hid (Below W1.heap.size W1 w2) := bTrans ((Below.refl W1.heap.size W1).drew) hb; have HP2 : Hid (Piece W1.heap.size w2.heap.size w2 (.slice a2 (t.length + 1) c2) ((cnt : Int) :: t)) := hpc; clear hpc hb; have y0 := (X1.out.keep HB2.out).c0; have y1 := (X1.out.keep HB2.out).c1; have y2 := ((bTrans BW1.out HB2.out).cell (p := ⟨b1, o1, none⟩) HB1'.out.1).trans HB1'.out.2)
    | (go_at_call 52; refine (HST.out _ _ _ _ _ _ (bTrans BW1.out HB2.out) (X1.out.keep HB2.out) HP2.out HB2.out.size (Nat.le_refl _)).mono ?_; rintro r w3 ⟨v3, rfl, ha, hb⟩; obtain ⟨s1, d1, rfl, p1, p2, p3⟩ := ha; obtain ⟨ta, tc, rfl, _⟩ := p1.ints; obtain ⟨da, dc, rfl, _⟩ := p2.ints; have HB3 : Hid (Below W1.heap.size W1 w3) := bTrans HB2.out hb; have Y3 : Hid (Box w3 (w.heap.size + 1) (.slice none 0 0) (.slice none 0 0) 26) := Y1.out.keep HB3.out; have A3 : Hid (Arr W1.heap.size w3.heap.size w3 (.agg #[.slice ta S.length tc, .slice da D.length dc]) S D) := ⟨_, _, rfl, p1, p2, p3⟩; clear p1 p2 p3 hb; have y3 := Y3.out.c0; have y4 := Y3.out.c1; have f0 := free_at Y3.out 0; have f1 := free_at Y3.out 1; have HRR : Hid (_ = _) := arr_stored (x' := .slice ta S.length tc) (y' := .slice da D.length dc) Y3.out))
  all_goals
    go_wp2
    refine bodyPost_ret (results_arr_tmp Tryz.results68 _ _ (w.heap.size + 1) _ _ rfl HRR.out) rfl ?_
    refine ⟨_, rfl, ?_, below_setCell (below_setCell (bTrans BW1.out HB3.out) (by omega) _ _) (by omega) _ _⟩
    have L1 := Y1.out.lt
    exact ((A3.out.setCell (by omega) _ _).setCell (by omega) _ _).mono (by omega) (by simp only [size_setCell]; omega)
set_option maxRecDepth 20000 in
set_option maxHeartbeats 4000000 in
/-- alongRows, whatever the operator is. -/
theorem along_impl {g C : Int} {s d S D : List Int} {w : World} {v p : Value} {f : Nat} (hE : ∀ (args : Array Value) (w : World), (callFunc f args).run Tryz.prog w = .ok (.enter f args) w) (hA : ArrI w v s d) (hs : s.length ≤ 1048576) (hd : d.length ≤ 1048576)
    (hbad : ¬ (sign2 g = true ∧ arrOk s d = true) → C = 1 ∧ S = [] ∧ D = []) (hnil : sign2 g = true ∧ arrOk s d = true → s = [] → C = 0 ∧ S = [] ∧ D = d)
    (hV : ∀ (W : World) (u : Value), sign2 g = true → arrOk s d = true → s ≠ [] → Below w.heap.size w W → ArrI W u s d → Calls Tryz.prog f #[u, p] W fun r W' => ∃ v', r = .returned (.tuple #[v', .int .i64 C]) ∧ Arr W.heap.size W'.heap.size W' v' S D ∧ Below W.heap.size W W') :
    Calls Tryz.prog 25 #[.int .i64 g, v, .func (.func f) #[] #[p]] w fun r w' => ∃ v', r = .returned (.tuple #[v', .int .i64 C]) ∧ Arr w.heap.size w'.heap.size w' v' S D ∧ Below w.heap.size w w' := by
  have H : Hid (ArrI w v s d) := hA
  obtain ⟨a, c, b, e, rfl, _, _, _, _⟩ := hA
  have HD : Hid (d.length ≤ 1048576) := hd
  have HS : Hid (s.length ≤ 1048576) := hs
  have HV : Hid (∀ (W : World) (u : Value), sign2 g = true → arrOk s d = true → s ≠ [] → Below w.heap.size w W → ArrI W u s d → Calls Tryz.prog f #[u, p] W fun r W' => ∃ v', r = .returned (.tuple #[v', .int .i64 C]) ∧ Arr W.heap.size W'.heap.size W' v' S D ∧ Below W.heap.size W W') := hV
  have Hbad : Hid (¬ (sign2 g = true ∧ arrOk s d = true) → C = 1 ∧ S = [] ∧ D = []) := hbad
  have Hnil : Hid (sign2 g = true ∧ arrOk s d = true → s = [] → C = 0 ∧ S = [] ∧ D = d) := hnil
  clear hV hbad hnil hd hs
  obtain ⟨W1, hW1⟩ : ∃ W1, W1 = (w.alloc (.cells #[.slice a s.length c, .slice b d.length e] 26)).alloc (.cells #[.slice none 0 0, .slice none 0 0] 26) := ⟨_, rfl⟩
  have BW1 : Hid (Below w.heap.size w W1) := by rw [hW1]; exact bAlloc (bAlloc (Below.refl _ _) _) _
  have X1 : Hid (Box W1 w.heap.size (.slice a s.length c) (.slice b d.length e) 26) := by rw [hW1]; exact heap_alloc2_old w _ _
  have Y1 : Hid (Box W1 (w.heap.size + 1) (.slice none 0 0) (.slice none 0 0) 26) := by rw [hW1]; exact heap_alloc2_new w _ _
  go_enter Tryz.func25, Tryz.ntmps25
  go_wp2_with fail
  rw [← hW1]
  clear hW1
  refine (knownTwo_impl g _).mono ?_
  rintro r w2 ⟨rfl, hb⟩
  have B2 : Hid (Below w.heap.size w w2) := bTrans BW1.out hb
  have X2 : Hid (Box w2 w.heap.size (.slice a s.length c) (.slice b d.length e) 26) := X1.out.keep hb
  have Y2 : Hid (Box w2 (w.heap.size + 1) (.slice none 0 0) (.slice none 0 0) 26) := Y1.out.keep hb
  clear hb
  cases hg : sign2 g with
  | false =>
    obtain ⟨rfl, rfl, rfl⟩ := Hbad.out (by rw [hg]; simp)
    have y3 := Y2.out.c0
    have y4 := Y2.out.c1
    have f0 := free_at Y2.out 0
    have f1 := free_at Y2.out 1
    have HRR : Hid (_ = _) := arr_stored (x' := .slice none 0 0) (y' := .slice none 0 0) Y2.out
    go_wp2
    refine bodyPost_ret (results_arr_tmp Tryz.results25 _ _ (w.heap.size + 1) _ _ rfl HRR.out) rfl ?_
    exact ⟨_, rfl, arr_zero _ _ _, below_setCell (below_setCell B2.out (by omega) _ _) (by omega) _ _⟩
  | true =>
    have HG : Hid (sign2 g = true) := hg
    have x0 := X2.out.c0
    have x1 := X2.out.c1
    clear hg
    go_wp2_with fail
    refine (arrOk_impl (H.out.keep B2.out) HD.out).mono ?_
    rintro r w3 ⟨rfl, hb⟩
    have B3 : Hid (Below w.heap.size w w3) := bTrans B2.out hb
    have X3 : Hid (Box w3 w.heap.size (.slice a s.length c) (.slice b d.length e) 26) := X2.out.keep hb
    have Y3 : Hid (Box w3 (w.heap.size + 1) (.slice none 0 0) (.slice none 0 0) 26) := Y2.out.keep hb
    clear hb x0 x1
    cases ho : arrOk s d with
    | false =>
      obtain ⟨rfl, rfl, rfl⟩ := Hbad.out (by rw [ho]; simp)
      have y3 := Y3.out.c0
      have y4 := Y3.out.c1
      have f0 := free_at Y3.out 0
      have f1 := free_at Y3.out 1
      have HRR : Hid (_ = _) := arr_stored (x' := .slice none 0 0) (y' := .slice none 0 0) Y3.out
      go_wp2
      refine bodyPost_ret (results_arr_tmp Tryz.results25 _ _ (w.heap.size + 1) _ _ rfl HRR.out) rfl ?_
      exact ⟨_, rfl, arr_zero _ _ _, below_setCell (below_setCell B3.out (by omega) _ _) (by omega) _ _⟩
    | true =>
      have HO : Hid (arrOk s d = true) := ho
      have L3 : Hid (w.heap.size + 1 < w3.heap.size) := Y3.out.lt
      have x0 := X3.out.c0
      have x1 := X3.out.c1
      clear ho
      by_cases hs0 : s = []
      · obtain ⟨rfl, rfl, rfl⟩ := Hnil.out ⟨HG.out, HO.out⟩ hs0
        subst hs0
        have hl0 : (((0 : Nat) : Int) == 0) = true := rfl
        simp only [List.length_nil] at x0
        go_wp2_with fail
        refine (copyOf_impl (H.out.keep B3.out) HS.out HD.out).mono ?_
        rintro r w4 ⟨v4, rfl, ha, hb⟩
        obtain ⟨xa, xc, ya, yc, rfl, _, _, _, _⟩ := ha.arrI
        have HA : Hid (Arr w3.heap.size w4.heap.size w4 (.agg #[.slice xa 0 xc, .slice ya D.length yc]) [] D) := ha
        have B4 : Hid (Below w.heap.size w w4) := bTrans B3.out hb
        have Y4 : Hid (Box w4 (w.heap.size + 1) (.slice none 0 0) (.slice none 0 0) 26) := Y3.out.keep hb
        clear ha hb x0 x1
        simp only [List.length_nil]
        have y3 := Y4.out.c0
        have y4 := Y4.out.c1
        have f0 := free_at Y4.out 0
        have f1 := free_at Y4.out 1
        have HRR : Hid (_ = _) := arr_stored (x' := .slice xa 0 xc) (y' := .slice ya D.length yc) Y4.out
        go_wp2
        refine bodyPost_ret (results_arr_tmp Tryz.results25 _ _ (w.heap.size + 1) _ _ rfl HRR.out) rfl ?_
        refine ⟨_, rfl, ?_, below_setCell (below_setCell B4.out (by omega) _ _) (by omega) _ _⟩
        have L := L3.out
        exact ((HA.out.setCell (by omega) _ _).setCell (by omega) _ _).mono (by omega) (by simp only [size_setCell]; omega)
      · have n1 : ((s.length : Int) == 0) = false := by
          have := List.length_pos_iff.2 hs0
          simp; omega
        have HS0 : Hid (s ≠ []) := hs0
        clear hs0
        go_wp2_with fail
        refine (HV.out _ _ HG.out HO.out HS0.out B3.out (H.out.keep B3.out)).mono ?_
        rintro r w4 ⟨v4, rfl, ha, hb⟩
        obtain ⟨xa, xc, ya, yc, rfl, _, _, _, _⟩ := ha.arrI
        have HA : Hid (Arr w3.heap.size w4.heap.size w4 (.agg #[.slice xa S.length xc, .slice ya D.length yc]) S D) := ha
        have B4 : Hid (Below w.heap.size w w4) := bTrans B3.out hb
        have Y4 : Hid (Box w4 (w.heap.size + 1) (.slice none 0 0) (.slice none 0 0) 26) := Y3.out.keep hb
        clear ha hb x0 x1
        have y3 := Y4.out.c0
        have y4 := Y4.out.c1
        have f0 := free_at Y4.out 0
        have f1 := free_at Y4.out 1
        have HRR : Hid (_ = _) := arr_stored (x' := .slice xa S.length xc) (y' := .slice ya D.length yc) Y4.out
        go_wp2
        refine bodyPost_ret (results_arr_tmp Tryz.results25 _ _ (w.heap.size + 1) _ _ rfl HRR.out) rfl ?_
        refine ⟨_, rfl, ?_, below_setCell (below_setCell B4.out (by omega) _ _) (by omega) _ _⟩
        have L := L3.out
        exact ((HA.out.setCell (by omega) _ _).setCell (by omega) _ _).mono (by omega) (by simp only [size_setCell]; omega)
set_option maxRecDepth 20000 in
set_option maxHeartbeats 4000000 in
/-- Scan. -/
theorem scan_impl {g : Int} {s d : List Int} {w : World} {v : Value} (h : ArrI w v s d) (hs : s.length ≤ 1048576) (hd : d.length ≤ 1048576) :
    Calls Tryz.prog 7 #[.int .i64 g, v] w fun r w' => ∃ v', r = .returned (.tuple #[v', .int .i64 (scanR g s d).1]) ∧ Arr w.heap.size w'.heap.size w' v' (scanR g s d).2.1 (scanR g s d).2.2 ∧ Below w.heap.size w w' := by
  have H : Hid (ArrI w v s d) := h
  have HAL : Hid (∀ (W : World) (u : Value) (o p : Nat), ArrI W u s d → W.cell? ⟨p, 0, none⟩ = some (.func (.func 75) #[] #[.pointer (some ⟨o, 0, none⟩)]) → p < W.heap.size → W.cell? ⟨o, 0, none⟩ = some (.int .i64 g) → o < W.heap.size → Calls Tryz.prog 25 #[.int .i64 g, u, .func (.func 68) #[] #[.pointer (some ⟨p, 0, none⟩)]] W fun r w' => ∃ v', r = .returned (.tuple #[v', .int .i64 (scanR g s d).1]) ∧ Arr W.heap.size w'.heap.size w' v' (scanR g s d).2.1 (scanR g s d).2.2 ∧ Below W.heap.size W w') := fun W u o p hu hp lp hg lg => by
    refine along_impl (enters_of Tryz.func68 (by kernel_rfl) rfl) hu hs hd (fun q => ?_) (fun q e => ?_) (fun W' u' q1 q2 q3 hb hu' => ?_)
    · rw [scanR_bad (fun k => q ⟨k.2, k.1⟩)]; exact ⟨rfl, rfl, rfl⟩
    · subst e; rw [scanR_nil ⟨q.2, q.1⟩]; exact ⟨rfl, rfl, rfl⟩
    · cases s with
      | nil => exact absurd rfl q3
      | cons n0 t => exact scan1_impl ((hb.cell (p := ⟨p, 0, none⟩) lp).trans hp) (Nat.lt_of_lt_of_le lp hb.size) ((hb.cell (p := ⟨o, 0, none⟩) lg).trans hg) (Nat.lt_of_lt_of_le lg hb.size) hu' q2 q1
  obtain ⟨C, hC⟩ : ∃ C, C = (scanR g s d).1 := ⟨_, rfl⟩
  obtain ⟨S, hS⟩ : ∃ S, S = (scanR g s d).2.1 := ⟨_, rfl⟩
  obtain ⟨D, hD⟩ : ∃ D, D = (scanR g s d).2.2 := ⟨_, rfl⟩
  rw [← hS, ← hC, ← hD] at HAL
  rw [← hS, ← hC, ← hD]
  obtain ⟨a, c, b, e, rfl, _, _, _, _⟩ := h
  obtain ⟨W1, hW1⟩ : ∃ W1, W1 = (w.alloc (.cells #[.slice a s.length c, .slice b d.length e] 26)).alloc (.cells #[.slice none 0 0, .slice none 0 0] 26) := ⟨_, rfl⟩
  have BW1 : Hid (Below w.heap.size w W1) := by rw [hW1]; exact bAlloc (bAlloc (Below.refl _ _) _) _
  have X1 : Hid (Box W1 w.heap.size (.slice a s.length c) (.slice b d.length e) 26) := by rw [hW1]; exact heap_alloc2_old w _ _
  have Y1 : Hid (Box W1 (w.heap.size + 1) (.slice none 0 0) (.slice none 0 0) 26) := by rw [hW1]; exact heap_alloc2_new w _ _
  have z0 := X1.out.c0
  have z1 := X1.out.c1
  clear hC hS hD hs hd
  go_enter Tryz.func7, Tryz.ntmps7
  go_wp2_with fail
  rw [← hW1]
  clear hW1
  go_region_with (first
    | (go_at_call 26; refine (scanning_impl _ _).mono ?_; rintro r w2 ⟨rfl, hc1, hc2, hb, hsz⟩; have HB2 : Hid (Below W1.heap.size W1 w2) := bTrans ((Below.refl W1.heap.size W1).drew) hb; have HC2 : Hid (_ ∧ _ ∧ _) := ⟨hc1, hc2, hsz⟩; clear hc1 hc2 hb hsz; have y0 := (X1.out.keep HB2.out).c0; have y1 := (X1.out.keep HB2.out).c1)
    | (go_at_call 25; refine (HAL.out _ _ _ _ (H.out.keep (bTrans BW1.out HB2.out)) HC2.out.2.1 (by have := HC2.out.2.2; omega) HC2.out.1 (by have := HC2.out.2.2; omega)).mono ?_; rintro r w3 ⟨v3, rfl, ha, hb⟩; obtain ⟨s1, d1, rfl, p1, p2, p3⟩ := ha; obtain ⟨ta, tc, rfl, _⟩ := p1.ints; obtain ⟨da, dc, rfl, _⟩ := p2.ints; have HB3 : Hid (Below W1.heap.size W1 w3) := bTrans HB2.out hb; have Y3 : Hid (Box w3 (w.heap.size + 1) (.slice none 0 0) (.slice none 0 0) 26) := Y1.out.keep HB3.out; have A3 : Hid (Arr W1.heap.size w3.heap.size w3 (.agg #[.slice ta S.length tc, .slice da D.length dc]) S D) := Arr.mono ⟨_, _, rfl, p1, p2, p3⟩ HB2.out.size (Nat.le_refl _); clear p1 p2 p3 hb; have y3 := Y3.out.c0; have y4 := Y3.out.c1; have f0 := free_at Y3.out 0; have f1 := free_at Y3.out 1; have HRR : Hid (_ = _) := arr_stored (x' := .slice ta S.length tc) (y' := .slice da D.length dc) Y3.out))
  all_goals
    go_wp2
    refine bodyPost_ret (results_arr_tmp Tryz.results7 _ _ (w.heap.size + 1) _ _ rfl HRR.out) rfl ?_
    refine ⟨_, rfl, ?_, below_setCell (below_setCell (bTrans BW1.out HB3.out) (by omega) _ _) (by omega) _ _⟩
    have L1 := Y1.out.lt
    exact ((A3.out.setCell (by omega) _ _).setCell (by omega) _ _).mono (by omega) (by simp only [size_setCell]; omega)
end Go.Proofs.YtcpgdhffemecbaaGreat
namespace Go.Proofs.YtcpgdhffemecbaaGreat
open Go.RowKit
set_option linter.unusedVariables false
set_option linter.unusedSimpArgs false
theorem arrs_one5 {W : World} {o : Nat} {x y : Value} {t : TypeId} {s d : List Int} (hb : Box W o x y t) (h : ArrI W (.agg #[x, y]) s d) : ArrsI W (.slice (some ⟨o, 0, none⟩) 1 1) [s, d] := by
  obtain ⟨a, c, b, e, e', i1, i2, g1, g2⟩ := h
  obtain ⟨rfl, rfl⟩ : x = .slice a s.length c ∧ y = .slice b d.length e := by cases e'; exact ⟨rfl, rfl⟩
  refine ⟨_, 1, 1, rfl, rfl, .inr ⟨o, 0, [.slice a s.length c, .slice b d.length e], rfl, hb.lt, rfl, fun j hj => ?_⟩⟩
  match j, hj with
  | 0, _ => exact ⟨hb.c0, a, c, rfl, g1, i1⟩
  | 1, _ => exact ⟨hb.c1, b, e, rfl, g2, i2⟩
theorem arrs_two5 {W : World} {o : Nat} {x y x' y' : Value} {t : TypeId} {s d s' d' : List Int} (hb : W.heap[o]? = some (.cells #[x, y, x', y'] t (0, 0))) (h : ArrI W (.agg #[x, y]) s d) (k : ArrI W (.agg #[x', y']) s' d') : ArrsI W (.slice (some ⟨o, 0, none⟩) 2 2) [s, d, s', d'] := by
  obtain ⟨a, c, b, e, e', i1, i2, g1, g2⟩ := h
  obtain ⟨rfl, rfl⟩ : x = .slice a s.length c ∧ y = .slice b d.length e := by cases e'; exact ⟨rfl, rfl⟩
  obtain ⟨a', c', b', f', e', i3, i4, g3, g4⟩ := k
  obtain ⟨rfl, rfl⟩ : x' = .slice a' s'.length c' ∧ y' = .slice b' d'.length f' := by cases e'; exact ⟨rfl, rfl⟩
  refine ⟨_, 2, 2, rfl, rfl, .inr ⟨o, 0, [.slice a s.length c, .slice b d.length e, .slice a' s'.length c', .slice b' d'.length f'], rfl, lt_of_heapA hb, rfl, fun j hj => ?_⟩⟩
  match j, hj with
  | 0, _ => exact ⟨cell_at hb rfl, a, c, rfl, g1, i1⟩
  | 1, _ => exact ⟨cell_at hb rfl, b, e, rfl, g2, i2⟩
  | 2, _ => exact ⟨cell_at hb rfl, a', c', rfl, g3, i3⟩
  | 3, _ => exact ⟨cell_at hb rfl, b', f', rfl, g4, i4⟩
theorem four5 (w : World) (A B C D : Obj) :
    ((((w.alloc A).alloc B).alloc C).alloc D).heap[w.heap.size]? = some A ∧ ((((w.alloc A).alloc B).alloc C).alloc D).heap[w.heap.size + 1]? = some B ∧ ((((w.alloc A).alloc B).alloc C).alloc D).heap[w.heap.size + 1 + 1]? = some C ∧ ((((w.alloc A).alloc B).alloc C).alloc D).heap[w.heap.size + 1 + 1 + 1]? = some D := by
  have e1 := heap_alloc_new w A
  have e2 := heap_alloc_new (w.alloc A) B
  have e3 := heap_alloc_new ((w.alloc A).alloc B) C
  have e4 := heap_alloc_new (((w.alloc A).alloc B).alloc C) D
  simp only [World.size_alloc] at e2 e3 e4
  refine ⟨?_, ?_, ?_, e4⟩
  · rw [heap_alloc_old _ _ (by simp only [World.size_alloc]; omega), heap_alloc_old _ _ (by simp only [World.size_alloc]; omega), heap_alloc_old _ _ (by simp only [World.size_alloc]; omega)]; exact e1
  · rw [heap_alloc_old _ _ (by simp only [World.size_alloc]; omega), heap_alloc_old _ _ (by simp only [World.size_alloc]; omega)]; exact e2
  · rw [heap_alloc_old _ _ (by simp only [World.size_alloc]; omega)]; exact e3
theorem allOkV_two (s d t e : List Int) : allOkV [s, d, t, e] 2 = (arrOk s d && arrOk t e) := by simp [allOkV, List.range_succ]
theorem allOkV_one (t e : List Int) : allOkV [t, e] 1 = arrOk t e := by simp [allOkV, List.range_succ]
theorem allOk2_impl {s d t e : List Int} {W : World} {o : Nat} {x y x' y' : Value} (h : ArrI W (.agg #[x, y]) s d) (k : ArrI W (.agg #[x', y']) t e) (hs : s.length ≤ 1048576) (hd : d.length ≤ 1048576) (ht : t.length ≤ 1048576) (he : e.length ≤ 1048576) {T : TypeId} (ho : W.heap[o]? = some (.cells #[x, y, x', y'] T (0, 0))) :
    Calls Tryz.prog 46 #[.slice (some ⟨o, 0, none⟩) 2 2] W fun r w' => r = .returned (.bool (arrOk s d && arrOk t e)) ∧ Below W.heap.size W w' := by
  rw [← allOkV_two]
  refine allOk_impl (arrs_two5 ho h k) (by decide) (fun j => ?_)
  match j with
  | 0 => exact hs
  | 1 => exact hd
  | 2 => exact ht
  | 3 => exact he
  | j + 4 => simp
theorem sole2_impl {s d t e : List Int} {W : World} {o : Nat} {x' y' v : Value} (h : ArrI W v s d) (k : ArrI W (.agg #[x', y']) t e) (hd : d.length ≤ 1048576) (ht : t.length ≤ 1048576) (he : e.length ≤ 1048576) {T : TypeId} (ho : Box W o x' y' T) :
    Calls Tryz.prog 37 #[v, .slice (some ⟨o, 0, none⟩) 1 1] W fun r w' => r = .returned (.tuple #[.int .i64 (soleV s d (arrOk t e)), .int .i64 (oneC s d t e)]) ∧ Below W.heap.size W w' := by
  have q := sole_impl h hd (arrs_one5 ho k) (by decide) (fun j => by
    match j with
    | 0 => exact ht
    | 1 => exact he
    | j + 2 => simp)
  rw [allOkV_one] at q
  exact q
end Go.Proofs.YtcpgdhffemecbaaGreat
namespace Go.Proofs.YtcpgdhffemecbaaGreat
open Go.RowKit
set_option linter.unusedVariables false
set_option linter.unusedSimpArgs false
theorem againD_length (e : List Int) (n : Nat) : (againD e n).length = n := by simp [againD]
set_option maxRecDepth 20000 in
set_option maxHeartbeats 4000000 in
/-- Reshape. -/
theorem reshape_impl {s d t e : List Int} {w : World} {v u : Value} (h : ArrI w v s d) (k : ArrI w u t e) (hs : s.length ≤ 1048576) (hd : d.length ≤ 1048576) (ht : t.length ≤ 1048576) (he : e.length ≤ 1048576) :
    Calls Tryz.prog 102 #[v, u] w fun r w' => ∃ v', r = .returned (.tuple #[v', .int .i64 (reshapeR s d t e).1]) ∧ Arr w.heap.size w'.heap.size w' v' (reshapeR s d t e).2.1 (reshapeR s d t e).2.2 ∧ Below w.heap.size w w' := by
  have H : Hid (ArrI w v s d) := h
  have K : Hid (ArrI w u t e) := k
  obtain ⟨a, c, b, f, rfl, h1, h2, g1, g2⟩ := h
  obtain ⟨a', c', b', f', rfl, k1, k2, g3, g4⟩ := k
  have HOK : Hid (∀ (W : World) (o : Nat), Below w.heap.size w W → W.heap[o]? = some (.cells #[.slice a s.length c, .slice b d.length f, .slice a' t.length c', .slice b' e.length f'] 26 (0, 0)) → Calls Tryz.prog 46 #[.slice (some ⟨o, 0, none⟩) 2 2] W fun r w' => r = .returned (.bool (arrOk s d && arrOk t e)) ∧ Below W.heap.size W w') := fun W o hb ho => allOk2_impl (H.out.keep hb) (K.out.keep hb) hs hd ht he ho
  have HCF : Hid (∀ W, Below w.heap.size w W → Calls Tryz.prog 125 #[.slice b d.length f, .func (.func 126) #[] #[]] W fun r w' => r = .returned (.bool (d.any fun x => decide (x < 0))) ∧ w' = W) := fun W hb => containsBelow_impl (h2.keep hb) hd
  have HSO : Hid (∀ W, Below w.heap.size w W → Calls Tryz.prog 39 #[.slice b d.length f] W fun r w' => r = .returned (.bool (decide (0 ≤ sizeV d))) ∧ Below W.heap.size W w') := fun W hb => ok_impl f (h2.keep hb)
  have HCL : Hid (∀ W, Below w.heap.size w W → Calls Tryz.prog 70 #[.slice b d.length f] W fun r w' => ∃ a' c', r = .returned (.slice a' d.length c') ∧ Piece W.heap.size w'.heap.size w' (.slice a' d.length c') d ∧ Below W.heap.size W w') := fun W hb => copied_new (IntsI.keep ⟨b, f, rfl, g2, h2⟩ hb) hd
  have HSZ : Hid (∀ W, Below w.heap.size w W → Calls Tryz.prog 62 #[.slice b d.length f] W fun r w' => r = .returned (.int .i64 (sizeV d)) ∧ Below W.heap.size W w') := fun W hb => size_impl f (h2.keep hb)
  have HAG : Hid (0 ≤ sizeV d → ∀ W, Below w.heap.size w W → Calls Tryz.prog 127 #[.slice b' e.length f', .int .i64 (sizeV d)] W fun r w' => ∃ a' c', r = .returned (.slice a' (againD e (sizeV d).toNat).length c') ∧ Piece W.heap.size w'.heap.size w' (.slice a' (againD e (sizeV d).toNat).length c') (againD e (sizeV d).toNat) ∧ Below W.heap.size W w') := fun h0 W hb => by
    have hz := sizeV_bd d
    have q := again_impl (c := f') (n := (sizeV d).toNat) (k2.keep hb) he (by omega)
    rw [Int.toNat_of_nonneg h0] at q
    refine q.mono ?_
    rintro r w' ⟨rfl, ho, hb'⟩
    refine ⟨some ⟨W.heap.size, 0, none⟩, (sizeV d).toNat, by rw [againD_length], ?_, hb'⟩
    exact OwnInts.piece ho (Nat.le_refl _) (lt_of_heapA ho) _ (by rw [againD_length]; exact Nat.le_refl _)
  obtain ⟨x, hx⟩ : ∃ x, x = (reshapeR s d t e).1 := ⟨_, rfl⟩
  obtain ⟨S, hS⟩ : ∃ S, S = (reshapeR s d t e).2.1 := ⟨_, rfl⟩
  obtain ⟨D, hD⟩ : ∃ D, D = (reshapeR s d t e).2.2 := ⟨_, rfl⟩
  rw [← hx, ← hS, ← hD]
  have E1 : Hid ((arrOk s d && arrOk t e) = false → x = 1 ∧ S = [] ∧ D = []) := fun h => by
    rw [hx, hS, hD]; unfold reshapeR reshapeC; rw [if_neg (by intro q; rw [q.1, q.2] at h; cases h), mkR_bad (by decide)]; exact ⟨rfl, rfl, rfl⟩
  have E2 : Hid ((arrOk s d && arrOk t e) = true → 1 < s.length → x = 4 ∧ S = [] ∧ D = []) := fun h h1 => by
    rw [hx, hS, hD]; unfold reshapeR reshapeC; rw [if_pos (by simpa using h), if_pos h1, mkR_bad (by decide)]; exact ⟨rfl, rfl, rfl⟩
  have E3 : Hid ((arrOk s d && arrOk t e) = true → ¬ 1 < s.length → (d.any fun x => decide (x < 0)) = true → x = 2 ∧ S = [] ∧ D = []) := fun h h1 h2 => by
    rw [hx, hS, hD]; unfold reshapeR reshapeC; rw [if_pos (by simpa using h), if_neg h1, if_pos h2, mkR_bad (by decide)]; exact ⟨rfl, rfl, rfl⟩
  have E4 : Hid ((arrOk s d && arrOk t e) = true → ¬ 1 < s.length → (d.any fun x => decide (x < 0)) = false → sizeV d < 0 → x = 6 ∧ S = [] ∧ D = []) := fun h h1 h2 h3 => by
    rw [hx, hS, hD]; unfold reshapeR reshapeC; rw [if_pos (by simpa using h), if_neg h1, if_neg (by rw [h2]; simp), if_pos h3, mkR_bad (by decide)]; exact ⟨rfl, rfl, rfl⟩
  have E5 : Hid ((arrOk s d && arrOk t e) = true → ¬ 1 < s.length → (d.any fun x => decide (x < 0)) = false → 0 ≤ sizeV d → x = 0 ∧ S = d ∧ D = againD e (sizeV d).toNat) := fun h h1 h2 h3 => by
    rw [hx, hS, hD]; unfold reshapeR reshapeC; rw [if_pos (by simpa using h), if_neg h1, if_neg (by rw [h2]; simp), if_neg (by omega), mkR_good]; exact ⟨rfl, rfl, rfl⟩
  clear hx hS hD hs hd ht he h1 h2 k1 k2 g1 g2 g3 g4
  generalize (arrOk s d && arrOk t e) = q at *
  generalize (d.any fun x => decide (x < 0)) = m at *
  generalize againD e (sizeV d).toNat = A at *
  generalize sizeV d = z at *
  go_enter Tryz.func102, Tryz.ntmps102
  go_wp2_with fail
  refine (HOK.out _ _ (bAlloc (bAlloc (bAlloc (bAlloc (Below.refl _ _) _) _) _) _) (by exact (four5 w _ _ _ _).2.2.2)).mono ?_
  rintro r w1 ⟨rfl, hb⟩
  have q4 := four5 w (.cells #[.slice a s.length c, .slice b d.length f] 26) (.cells #[.slice a' t.length c', .slice b' e.length f'] 26) (.cells #[.slice none 0 0, .slice none 0 0] 26) (.cells #[.slice a s.length c, .slice b d.length f, .slice a' t.length c', .slice b' e.length f'] 26)
  have HB1 : Hid (Below w.heap.size w w1) := bTrans (bAlloc (bAlloc (bAlloc (bAlloc (Below.refl _ _) _) _) _) _) hb
  have X1 : Hid (Box w1 w.heap.size (.slice a s.length c) (.slice b d.length f) 26) := Box.keep q4.1 hb
  have Y1 : Hid (Box w1 (w.heap.size + 1) (.slice a' t.length c') (.slice b' e.length f') 26) := Box.keep q4.2.1 hb
  have R1 : Hid (Box w1 (w.heap.size + 1 + 1) (.slice none 0 0) (.slice none 0 0) 26) := Box.keep q4.2.2.1 hb
  clear hb q4
  cases q
  · obtain ⟨rfl, rfl, rfl⟩ := E1.out (by trivial)
    clear E1 E2 E3 E4 E5
    have y0 := R1.out.c0
    have y1 := R1.out.c1
    have f0 : w1.frozen? ⟨w.heap.size + 1 + 1, 0, none⟩ = false := free_at R1.out 0
    have f1 : w1.frozen? ⟨w.heap.size + 1 + 1, 1, none⟩ = false := free_at R1.out 1
    have HR : Hid (((w1.setCell ⟨w.heap.size + 1 + 1, 0, none⟩ (.slice none 0 0)).setCell ⟨w.heap.size + 1 + 1, 1, none⟩ (.slice none 0 0)).heap[w.heap.size + 1 + 1]? = some (.cells #[.slice none 0 0, .slice none 0 0] 26 (0, 0))) := arr_stored R1.out
    go_wp2
    refine bodyPost_ret (results_arr_tmp Tryz.results102 _ _ (w.heap.size + 1 + 1) _ _ rfl HR.out) rfl ?_
    exact ⟨_, rfl, arr_zero _ _ _, below_setCell (below_setCell HB1.out (by omega) _ _) (by omega) _ _⟩
  · have x0 := X1.out.c0
    by_cases hr : (1 : Int) < (s.length : Int)
    · obtain ⟨rfl, rfl, rfl⟩ := E2.out (by trivial) (by omega)
      clear E1 E2 E3 E4 E5
      have y0 := R1.out.c0
      have y1 := R1.out.c1
      have f0 : w1.frozen? ⟨w.heap.size + 1 + 1, 0, none⟩ = false := free_at R1.out 0
      have f1 : w1.frozen? ⟨w.heap.size + 1 + 1, 1, none⟩ = false := free_at R1.out 1
      have HR : Hid (((w1.setCell ⟨w.heap.size + 1 + 1, 0, none⟩ (.slice none 0 0)).setCell ⟨w.heap.size + 1 + 1, 1, none⟩ (.slice none 0 0)).heap[w.heap.size + 1 + 1]? = some (.cells #[.slice none 0 0, .slice none 0 0] 26 (0, 0))) := arr_stored R1.out
      go_wp2
      refine bodyPost_ret (results_arr_tmp Tryz.results102 _ _ (w.heap.size + 1 + 1) _ _ rfl HR.out) rfl ?_
      exact ⟨_, rfl, arr_zero _ _ _, below_setCell (below_setCell HB1.out (by omega) _ _) (by omega) _ _⟩
    · have x1 := X1.out.c1
      have E3' : Hid (m = true → x = 2 ∧ S = [] ∧ D = []) := E3.out (by trivial) (by omega)
      have E4' : Hid (m = false → z < 0 → x = 6 ∧ S = [] ∧ D = []) := E4.out (by trivial) (by omega)
      have E5' : Hid (m = false → 0 ≤ z → x = 0 ∧ S = d ∧ D = A) := E5.out (by trivial) (by omega)
      clear E1 E2 E3 E4 E5
      go_wp2_with fail
      refine (HCF.out _ HB1.out).mono ?_
      rintro r w2 ⟨rfl, hw⟩
      subst w2
      cases m
      · go_wp2_with fail
        refine (HSO.out _ HB1.out).mono ?_
        rintro r w2 ⟨rfl, hb⟩
        have HB2 : Hid (Below w.heap.size w w2) := bTrans HB1.out hb
        have X2 : Hid (Box w2 w.heap.size (.slice a s.length c) (.slice b d.length f) 26) := X1.out.keep hb
        have Y2 : Hid (Box w2 (w.heap.size + 1) (.slice a' t.length c') (.slice b' e.length f') 26) := Y1.out.keep hb
        have R2 : Hid (Box w2 (w.heap.size + 1 + 1) (.slice none 0 0) (.slice none 0 0) 26) := R1.out.keep hb
        clear hb x0 x1 hr
        by_cases hz : 0 ≤ z
        · obtain ⟨rfl, eS, eD⟩ := E5'.out (by trivial) hz
          have ES : Hid (S = d ∧ D = A) := ⟨eS, eD⟩
          have HAG' := HAG.out hz
          have HAH : Hid (∀ W, Below w.heap.size w W → Calls Tryz.prog 127 #[.slice b' e.length f', .int .i64 z] W fun r w' => ∃ a' c', r = .returned (.slice a' A.length c') ∧ Piece W.heap.size w'.heap.size w' (.slice a' A.length c') A ∧ Below W.heap.size W w') := HAG'
          have hdz : decide (0 ≤ z) = true := by simpa using hz
          clear E3' E4' E5' eS eD HAG' HAG HSO HCF HOK hz
          rw [hdz]
          have x1 := X2.out.c1
          have y1 := Y2.out.c1
          have LT : Hid (w.heap.size + 1 + 1 < w2.heap.size) := R2.out.lt
          go_wp2
          go_region_held3 (fun w' => w'.cell? ⟨w.heap.size, 1, none⟩ = some (.slice b d.length f) ∧ w'.cell? ⟨w.heap.size + 1, 1, none⟩ = some (.slice b' e.length f'))
            (first | exact ⟨z0 _ _, z1 _ _⟩ | exact ⟨q0, q1⟩ | exact ⟨p0, p1⟩ | exact ⟨v0, v1⟩ | exact ⟨x1, y1⟩)
            (first
              | (go_at_call_of 70 (Value.slice b d.length f); refine (HCL.out _ (bTrans HB2.out ((Below.refl w2.heap.size w2).drew))).mono ?_; rintro r w3 ⟨ax, cx, rfl, ha, hb⟩; have PX : Hid (Piece w2.heap.size w3.heap.size w3 (.slice ax d.length cx) d) := ha; have HB3 : Hid (Below w2.heap.size w2 w3) := bTrans ((Below.refl w2.heap.size w2).drew) hb; have v0 := (X2.out.keep HB3.out).c1; have v1 := (Y2.out.keep HB3.out).c1; clear ha hb)
              | (go_at_call_of 62 (Value.slice b d.length f); refine (HSZ.out _ (bTrans HB2.out HB3.out)).mono ?_; rintro r w4 ⟨rfl, hb⟩; have HB4 : Hid (Below w2.heap.size w2 w4) := bTrans HB3.out hb; have PX4 : Hid (Piece w2.heap.size w3.heap.size w4 (.slice ax d.length cx) d) := PX.out.keep hb; have S34 : Hid (w3.heap.size ≤ w4.heap.size) := hb.size; have p0 := (X2.out.keep HB4.out).c1; have p1 := (Y2.out.keep HB4.out).c1; clear hb)
              | (go_at_call_of 127 (Value.slice b' e.length f'); refine (HAH.out _ (bTrans HB2.out HB4.out)).mono ?_; rintro r w5 ⟨ay, cy, rfl, ha, hb⟩; have PY : Hid (Piece w4.heap.size w5.heap.size w5 (.slice ay A.length cy) A) := ha; have PX5 : Hid (Piece w2.heap.size w3.heap.size w5 (.slice ax d.length cx) d) := PX4.out.keep hb; have S45 : Hid (w4.heap.size ≤ w5.heap.size) := hb.size; have HB5 : Hid (Below w2.heap.size w2 w5) := bTrans HB4.out hb; have q0 := (X2.out.keep HB5.out).c1; have q1 := (Y2.out.keep HB5.out).c1; have r0 := (R2.out.keep HB5.out).c0; have r1 := (R2.out.keep HB5.out).c1; have f0 : w5.frozen? ⟨w.heap.size + 1 + 1, 0, none⟩ = false := free_at (R2.out.keep HB5.out) 0; have f1 : w5.frozen? ⟨w.heap.size + 1 + 1, 1, none⟩ = false := free_at (R2.out.keep HB5.out) 1; have zx : ∀ u v, Box ((w5.setCell ⟨w.heap.size + 1 + 1, 0, none⟩ u).setCell ⟨w.heap.size + 1 + 1, 1, none⟩ v) w.heap.size (.slice a s.length c) (.slice b d.length f) 26 := (fun u v => ((X2.out.keep HB5.out).win (win_setCell _ _ _ _) (.inl (by omega))).win (win_setCell _ _ _ _) (.inl (by omega))); have zy : ∀ u v, Box ((w5.setCell ⟨w.heap.size + 1 + 1, 0, none⟩ u).setCell ⟨w.heap.size + 1 + 1, 1, none⟩ v) (w.heap.size + 1) (.slice a' t.length c') (.slice b' e.length f') 26 := (fun u v => ((Y2.out.keep HB5.out).win (win_setCell _ _ _ _) (.inl (by omega))).win (win_setCell _ _ _ _) (.inl (by omega))); have z0 := (fun u v => (zx u v).c1); have z1 := (fun u v => (zy u v).c1); have HR : Hid (((w5.setCell ⟨w.heap.size + 1 + 1, 0, none⟩ (.slice ax d.length cx)).setCell ⟨w.heap.size + 1 + 1, 1, none⟩ (.slice ay A.length cy)).heap[w.heap.size + 1 + 1]? = some (.cells #[.slice ax d.length cx, .slice ay A.length cy] 26 (0, 0))) := arr_stored (R2.out.keep HB5.out); clear ha hb zx zy))
          go_wp2
          refine bodyPost_ret (results_arr_tmp Tryz.results102 _ _ (w.heap.size + 1 + 1) _ _ rfl HR.out) rfl ?_
          refine ⟨_, rfl, ?_, below_setCell (below_setCell (bTrans HB2.out HB5.out) (by omega) _ _) (by omega) _ _⟩
          have S1 := HB3.out.size
          have S2 := S34.out
          have S3 := S45.out
          have S4 := LT.out
          rw [ES.out.1, ES.out.2]
          have A2 : Arr w2.heap.size w5.heap.size w5 (.agg #[.slice ax d.length cx, .slice ay A.length cy]) d A := ⟨_, _, rfl, PX5.out.mono (Nat.le_refl _) (by omega), PY.out.mono (by omega) (Nat.le_refl _), PX5.out.apart PY.out (.inl (by omega))⟩
          exact ((A2.setCell S4 _ _).setCell S4 _ _).mono (by omega) (by simp [size_setCell])
        · obtain ⟨rfl, rfl, rfl⟩ := E4'.out (by trivial) (by omega)
          have hdz : decide (0 ≤ z) = false := by simpa using hz
          clear E3' E4' E5' hz
          rw [hdz]
          have y0 := R2.out.c0
          have y1 := R2.out.c1
          have f0 : w2.frozen? ⟨w.heap.size + 1 + 1, 0, none⟩ = false := free_at R2.out 0
          have f1 : w2.frozen? ⟨w.heap.size + 1 + 1, 1, none⟩ = false := free_at R2.out 1
          have HR : Hid (((w2.setCell ⟨w.heap.size + 1 + 1, 0, none⟩ (.slice none 0 0)).setCell ⟨w.heap.size + 1 + 1, 1, none⟩ (.slice none 0 0)).heap[w.heap.size + 1 + 1]? = some (.cells #[.slice none 0 0, .slice none 0 0] 26 (0, 0))) := arr_stored R2.out
          go_wp2
          refine bodyPost_ret (results_arr_tmp Tryz.results102 _ _ (w.heap.size + 1 + 1) _ _ rfl HR.out) rfl ?_
          exact ⟨_, rfl, arr_zero _ _ _, below_setCell (below_setCell HB2.out (by omega) _ _) (by omega) _ _⟩
      · obtain ⟨rfl, rfl, rfl⟩ := E3'.out (by trivial)
        clear E3' E4' E5' x0 x1 hr
        have y0 := R1.out.c0
        have y1 := R1.out.c1
        have f0 : w1.frozen? ⟨w.heap.size + 1 + 1, 0, none⟩ = false := free_at R1.out 0
        have f1 : w1.frozen? ⟨w.heap.size + 1 + 1, 1, none⟩ = false := free_at R1.out 1
        have HR : Hid (((w1.setCell ⟨w.heap.size + 1 + 1, 0, none⟩ (.slice none 0 0)).setCell ⟨w.heap.size + 1 + 1, 1, none⟩ (.slice none 0 0)).heap[w.heap.size + 1 + 1]? = some (.cells #[.slice none 0 0, .slice none 0 0] 26 (0, 0))) := arr_stored R1.out
        go_wp2
        refine bodyPost_ret (results_arr_tmp Tryz.results102 _ _ (w.heap.size + 1 + 1) _ _ rfl HR.out) rfl ?_
        exact ⟨_, rfl, arr_zero _ _ _, below_setCell (below_setCell HB1.out (by omega) _ _) (by omega) _ _⟩
end Go.Proofs.YtcpgdhffemecbaaGreat
namespace Go.Proofs.YtcpgdhffemecbaaGreat
open Go.RowKit
set_option maxHeartbeats 400000 in
theorem neutral_impl (s : Int) (w : World) :
    Calls Tryz.prog 101 #[.int .i64 s] w fun e w' => e = .returned (.tuple #[.int .i64 (neu s).1, .bool (neu s).2]) ∧ w' = w := by
  go_enter Tryz.func101, Tryz.ntmps101
  go_wp2
  all_goals
    go_ret2
    refine ⟨?_, rfl⟩
    simp_all [neu]
end Go.Proofs.YtcpgdhffemecbaaGreat
namespace Go.Proofs.YtcpgdhffemecbaaGreat
open Go.RowKit
set_option linter.unusedVariables false
set_option linter.unusedSimpArgs false
/-- A row of which there is none. -/
def redN (g : Int) (t : List Int) : Int × List Int × List Int := reshapeR [(t.length : Int)] t [] [(neu g).1]
def reduceR (g : Int) (s d : List Int) : Int × List Int × List Int := if sign2 g = true ∧ arrOk s d = true then (if s = [] then (0, [], d) else if 0 < s.getD 0 0 then mkR (redL g (s.drop 1) (rowsD s d)).1 (s.drop 1) (redL g (s.drop 1) (rowsD s d)).2 else redN g (s.drop 1)) else (1, [], [])
set_option maxRecDepth 20000 in
set_option maxHeartbeats 4000000 in
/-- neutralRow. -/
theorem neutralRow_impl {g : Int} {t : List Int} {w : World} {u : Value} (h : IntsI w u t) (ht : t.length ≤ 1000) :
    Calls Tryz.prog 77 #[.int .i64 g, u] w fun r w' => ∃ v', r = .returned (.tuple #[v', .int .i64 (redN g t).1]) ∧ Arr w.heap.size w'.heap.size w' v' (redN g t).2.1 (redN g t).2.2 ∧ Below w.heap.size w w' := by
  have H : Hid (IntsI w u t) := h
  have HRS : Hid (∀ W v o', ArrI W v [(t.length : Int)] t → Ints W (some ⟨o', 0, none⟩) [(neu g).1] → Calls Tryz.prog 102 #[v, .agg #[.slice none 0 0, .slice (some ⟨o', 0, none⟩) 1 1]] W fun r w' => ∃ v', r = .returned (.tuple #[v', .int .i64 (redN g t).1]) ∧ Arr W.heap.size w'.heap.size w' v' (redN g t).2.1 (redN g t).2.2 ∧ Below W.heap.size W w') := fun W v o' hv hi => reshape_impl hv ⟨none, 0, _, 1, rfl, .inl rfl, hi, Nat.le_refl _, Nat.le_refl _⟩ (by simp) (by omega) (by simp) (by simp)
  have HNE : Hid (∀ W, Calls Tryz.prog 101 #[.int .i64 g] W fun e w' => e = .returned (.tuple #[.int .i64 (neu g).1, .bool (neu g).2]) ∧ w' = W) := neutral_impl g
  obtain ⟨a, c, rfl, _, _⟩ := h
  have HVC : Hid (∀ W, Below w.heap.size w W → Calls Tryz.prog 103 #[.slice a t.length c] W fun r w' => ∃ v', r = .returned v' ∧ Arr W.heap.size w'.heap.size w' v' [(t.length : Int)] t ∧ Below W.heap.size W w') := fun W hb => vecCopy_impl (H.out.keep hb) (by omega)
  generalize (neu g).1 = x at *
  generalize (neu g).2 = y at *
  generalize redN g t = RR at *
  obtain ⟨C, S, D⟩ := RR
  simp only at HRS ⊢
  clear ht
  go_enter Tryz.func77, Tryz.ntmps77
  go_wp2_with fail
  refine (HNE.out _).mono ?_
  rintro r w1 ⟨rfl, hw1⟩
  subst hw1
  go_wp2_with fail
  refine (HVC.out _ (bAlloc (Below.refl _ _) _)).mono ?_
  rintro r w2 ⟨v2, rfl, ha, hb⟩
  obtain ⟨xa, xc, ya, yc, rfl, _, _, _, _⟩ := ha.arrI
  have B2 : Hid (Below w.heap.size w w2) := bTrans (bAlloc (Below.refl _ _) _) hb
  have Y2 : Hid (Box w2 w.heap.size (.slice none 0 0) (.slice none 0 0) 26) := (box_new w _ _ _).keep hb
  have A2 : Hid (ArrI w2 (.agg #[.slice xa [(t.length : Int)].length xc, .slice ya t.length yc]) [(t.length : Int)] t) := ha.arrI
  clear ha hb
  have I2 : Hid (Ints (w2.alloc (.cells #[.int .i64 x] 3)) (some ⟨w2.heap.size, 0, none⟩) [x]) := ints_new w2 [x] 3
  go_wp2_with fail
  refine (HRS.out _ _ _ (A2.out.keep (bAlloc (Below.refl _ _) _)) I2.out).mono ?_
  rintro r w3 ⟨v3, rfl, ha, hb⟩
  obtain ⟨ua, uc, va, vc, rfl, _, _, _, _⟩ := ha.arrI
  have hb2 : Below w2.heap.size w2 w3 := bTrans (bAlloc (Below.refl _ _) _) hb
  have B3 : Hid (Below w.heap.size w w3) := bTrans B2.out hb2
  have Y3 : Hid (Box w3 w.heap.size (.slice none 0 0) (.slice none 0 0) 26) := Y2.out.keep hb2
  have A3 : Hid (Arr w2.heap.size w3.heap.size w3 (.agg #[.slice ua S.length uc, .slice va D.length vc]) S D) := ha.mono (by simp) (Nat.le_refl _)
  clear ha hb hb2
  have y3 := Y3.out.c0
  have y4 := Y3.out.c1
  have f0 := free_at Y3.out 0
  have f1 := free_at Y3.out 1
  have HRR : Hid (_ = _) := arr_stored (x' := .slice ua S.length uc) (y' := .slice va D.length vc) Y3.out
  go_wp2
  refine bodyPost_ret (results_arr_tmp Tryz.results77 _ _ w.heap.size _ _ rfl HRR.out) rfl ?_
  refine ⟨_, rfl, ?_, below_setCell (below_setCell B3.out (Nat.le_refl _) _ _) (Nat.le_refl _) _ _⟩
  have L := Y2.out.lt
  exact ((A3.out.setCell (by omega) _ _).setCell (by omega) _ _).mono (by omega) (by simp only [size_setCell]; omega)
/-- Behind the stores of an answer, in whichever order they were done. -/
theorem red0_end {w W : World} {N0 B : Nat} {x y : Value} {C : Int} {S D : List Int} (hB : Below N0 w W) (h1 : Box W (N0 + 1) (.slice none 0 0) (.slice none 0 0) 26) (h2 : W.heap[N0 + 2]? = some (.cells #[.int .i64 0] 3 (0, 0))) (ha : Arr B W.heap.size W (.agg #[x, y]) S D) (hN : N0 + 3 ≤ B) :
    (∀ V, V = (((W.setCell ⟨N0 + 1, 0, none⟩ x).setCell ⟨N0 + 1, 1, none⟩ y).setCell ⟨N0 + 1 + 1, 0, none⟩ (.int .i64 C)) ∨ V = (((W.setCell ⟨N0 + 1 + 1, 0, none⟩ (.int .i64 C)).setCell ⟨N0 + 1, 0, none⟩ x).setCell ⟨N0 + 1, 1, none⟩ y) →
      V.heap[N0 + 1]? = some (.cells #[x, y] 26 (0, 0)) ∧ V.cell? ⟨N0 + 1 + 1, 0, none⟩ = some (.int .i64 C) ∧ Arr N0 V.heap.size V (.agg #[x, y]) S D ∧ Below N0 w V) := by
  rintro V (rfl | rfl)
  · refine ⟨?_, ?_, ?_, ?_⟩
    · have q : Box ((W.setCell ⟨N0 + 1, 0, none⟩ x).setCell ⟨N0 + 1, 1, none⟩ y) (N0 + 1) x y 26 := arr_stored h1
      exact q.win (win_setCell _ (N0 + 1 + 1) 0 _) (.inl (by omega))
    · have q : ((W.setCell ⟨N0 + 1, 0, none⟩ x).setCell ⟨N0 + 1, 1, none⟩ y).heap[N0 + 1 + 1]? = some (.cells #[.int .i64 0] 3 (0, 0)) := by
        rw [heap_setCell_other _ _ _ _ (by show N0 + 1 + 1 ≠ N0 + 1; omega), heap_setCell_other _ _ _ _ (by show N0 + 1 + 1 ≠ N0 + 1; omega)]
        exact h2
      exact cell_at (heap_setCell_same _ (N0 + 1 + 1) 0 _ _ (.int .i64 C) q) rfl
    · exact (((ha.setCell (by omega) _ _).setCell (by omega) _ _).setCell (by omega) _ _).mono (by omega) (by simp only [size_setCell]; exact Nat.le_refl _)
    · exact below_setCell (below_setCell (below_setCell hB (by omega) _ _) (by omega) _ _) (by omega) _ _
  · have q0 := heap_setCell_same W (N0 + 1 + 1) 0 _ _ (.int .i64 C) h2
    have b1 : Box (W.setCell ⟨N0 + 1 + 1, 0, none⟩ (.int .i64 C)) (N0 + 1) (.slice none 0 0) (.slice none 0 0) 26 := h1.win (win_setCell _ (N0 + 1 + 1) 0 _) (.inl (by omega))
    refine ⟨arr_stored b1, ?_, ?_, ?_⟩
    · refine cell_at (cs := (#[Value.int .i64 0].set 0 (.int .i64 C))) (t := 3) (fr := (0, 0)) ?_ rfl
      rw [heap_setCell_other _ _ _ _ (by show N0 + 1 + 1 ≠ N0 + 1; omega), heap_setCell_other _ _ _ _ (by show N0 + 1 + 1 ≠ N0 + 1; omega)]
      exact q0
    · exact (((ha.setCell (by omega) _ _).setCell (by omega) _ _).setCell (by omega) _ _).mono (by omega) (by simp only [size_setCell]; exact Nat.le_refl _)
    · exact below_setCell (below_setCell (below_setCell hB (by omega) _ _) (by omega) _ _) (by omega) _ _
set_option maxRecDepth 20000 in
set_option maxHeartbeats 4000000 in
/-- reducing's closure, of an array without rows. -/
theorem reduce0_impl {g : Int} {t d : List Int} {w : World} {v : Value} {o : Nat} (h : ArrI w v (0 :: t) d) (ho : arrOk (0 :: t) d = true) (hg : w.cell? ⟨o, 0, none⟩ = some (.int .i64 g)) (hol : o < w.heap.size) :
    Calls Tryz.prog 75 #[v, .pointer (some ⟨o, 0, none⟩)] w fun r w' => ∃ v', r = .returned (.tuple #[v', .int .i64 (redN g t).1]) ∧ Arr w.heap.size w'.heap.size w' v' (redN g t).2.1 (redN g t).2.2 ∧ Below w.heap.size w w' := by
  have H : Hid (ArrI w v (0 :: t) d) := h
  obtain ⟨a, c, b, f, rfl, h1, _, g1, _⟩ := h
  have k1 := (sizeV_ok (arrOk_shape ho)).1
  simp at k1
  have HCO : Hid (∀ W q, Below w.heap.size w W → Box W q (.slice a (t.length + 1) c) (.slice b d.length f) 26 → Calls Tryz.prog 76 #[.func (.func 74) #[] #[.pointer (some ⟨q, 0, none⟩)]] W fun e w' => ∃ a' c', e = .returned (.slice a' 0 c') ∧ Below W.heap.size W w') := fun W q hb hB => by
    refine (collect_rows (H.out.keep hb) ho hB).mono ?_
    rintro e w' ⟨v, xs, rfl, hL⟩
    have e0 : rowsN (0 :: t) = 0 := rfl
    rw [e0] at hL
    rcases hL.own.2 with ⟨rfl, _⟩ | ⟨g', cap, cur, rfl, _⟩
    · exact ⟨_, _, rfl, hL.below⟩
    · exact ⟨_, _, rfl, hL.below⟩
  obtain ⟨tl, ct, hcut, hti⟩ := tail_cut h1 g1
  have HTI : Hid (IntsI w (.slice tl t.length ct) t) := hti
  have HNR : Hid (∀ W, Below w.heap.size w W → Calls Tryz.prog 77 #[.int .i64 g, .slice tl t.length ct] W fun r w' => ∃ v', r = .returned (.tuple #[v', .int .i64 (redN g t).1]) ∧ Arr W.heap.size w'.heap.size w' v' (redN g t).2.1 (redN g t).2.2 ∧ Below W.heap.size W w') := fun W hb => neutralRow_impl (HTI.out.keep hb) (by omega)
  have HCR : Hid (∀ W x y, x.oneCell' = true → y.oneCell' = true → Calls Tryz.prog 33 #[.agg #[x, y]] W fun e w' => e = .returned (.func (.func 74) #[] #[.pointer (some ⟨W.heap.size, 0, none⟩)]) ∧ w' = W.alloc (.cells #[x, y] 26)) := fun W x y hx hy => (callsIn_wide (n := 5)).1 (cutRows_in 5 x y W hx hy)
  generalize redN g t = RR at *
  obtain ⟨C, S, D⟩ := RR
  simp only at HNR ⊢
  have HGC : Hid (w.cell? ⟨o, 0, none⟩ = some (.int .i64 g) ∧ o < w.heap.size) := ⟨hg, hol⟩
  clear ho hti h1 g1 k1 hg hol
  go_enter Tryz.func75, Tryz.ntmps75
  go_wp2_with fail
  refine (HCR.out _ _ _ rfl rfl).mono ?_
  rintro rr w2 ⟨rfl, hw⟩
  have hsz2 : w2.heap.size = w.heap.size + 4 := by rw [hw]; simp
  have BK : Hid (w2.heap[w.heap.size + 1]? = some (.cells #[.slice none 0 0, .slice none 0 0] 26 (0, 0)) ∧ w2.heap[w.heap.size + 2]? = some (.cells #[.int .i64 0] 3 (0, 0)) ∧ w2.heap[w.heap.size + 3]? = some (.cells #[.slice a (t.length + 1) c, .slice b d.length f] 26 (0, 0))) := by rw [hw]; exact blocks4r w _ _ _ _
  have X2 : Hid (Box w2 w.heap.size (.slice a (t.length + 1) c) (.slice b d.length f) 26) := by rw [hw]; exact Box.keep (box_new w _ _ _) (bAlloc (bAlloc (bAlloc (Below.refl _ _) _) _) _)
  have B2 : Hid (Below w.heap.size w w2) := by rw [hw]; exact bAlloc (bAlloc (bAlloc (bAlloc (Below.refl _ _) _) _) _) _
  clear hw
  go_wp2_with fail
  refine (HCO.out w2 (w.heap.size + 3) B2.out BK.out.2.2).mono ?_
  rintro rr w3 ⟨a3, c3, rfl, hb3⟩
  have X3 : Hid (Box w3 w.heap.size (.slice a (t.length + 1) c) (.slice b d.length f) 26) := X2.out.keep hb3
  have Y3 : Hid (Box w3 (w.heap.size + 1) (.slice none 0 0) (.slice none 0 0) 26) := Box.keep (w := w2) BK.out.1 hb3
  have I3 : Hid (w3.heap[w.heap.size + 2]? = some (.cells #[.int .i64 0] 3 (0, 0))) := (hb3.block _ (by omega)).trans BK.out.2.1
  have B3 : Hid (Below w.heap.size w w3) := bTrans B2.out hb3
  have L3 : Hid (w.heap.size + 4 ≤ w3.heap.size) := by have := hb3.size; show _ ≤ _; omega
  clear hb3
  have x0 := X3.out.c0
  have g3 : w3.cell? ⟨o, 0, none⟩ = some (.int .i64 g) := (B3.out.cell (p := ⟨o, 0, none⟩) HGC.out.2).trans HGC.out.1
  go_wp2_with fail
  go_region_with (go_at_call 77; refine (HNR.out _ (B3.out.drew)).mono ?_; rintro r w4 ⟨v4, rfl, ha, hb⟩; obtain ⟨s1, d1, rfl, p1, p2, p3⟩ := ha; obtain ⟨ta, tc, rfl, _⟩ := p1.ints; obtain ⟨da, dc, rfl, _⟩ := p2.ints; have hb4 : Below w3.heap.size w3 w4 := bTrans ((Below.refl w3.heap.size w3).drew) hb; have B4 : Hid (Below w.heap.size w w4) := bTrans B3.out hb4; have Y4 : Hid (Box w4 (w.heap.size + 1) (.slice none 0 0) (.slice none 0 0) 26) := Y3.out.keep hb4; have I4 : Hid (w4.heap[w.heap.size + 2]? = some (.cells #[.int .i64 0] 3 (0, 0))) := (hb4.block _ (by have := L3.out; omega)).trans I3.out; have A4 : Hid (Arr w3.heap.size w4.heap.size w4 (.agg #[.slice ta S.length tc, .slice da D.length dc]) S D) := ⟨_, _, rfl, p1, p2, p3⟩; clear p1 p2 p3 hb hb4; have y3 := Y4.out.c0; have y4 := Y4.out.c1; have f0 := free_at Y4.out 0; have f1 := free_at Y4.out 1; have y5 : w4.cell? ⟨w.heap.size + 1 + 1, 0, none⟩ = some (.int .i64 0) := cell_at I4.out rfl; have f2 : w4.frozen? ⟨w.heap.size + 1 + 1, 0, none⟩ = false := free_at I4.out 0)
  all_goals
    go_wp2
    have L := L3.out
    first
      | (obtain ⟨k1, k2, k3, k4⟩ := red0_end (w := w) (C := C) B4.out Y4.out I4.out A4.out (by omega) _ (.inl rfl)
         refine bodyPost_ret (results_arr_int rfl _ _ (w.heap.size + 1) (w.heap.size + 1 + 1) _ _ _ rfl rfl k1 k2) rfl ?_
         exact ⟨_, rfl, k3, k4⟩)
      | (obtain ⟨k1, k2, k3, k4⟩ := red0_end (w := w) (C := C) B4.out Y4.out I4.out A4.out (by omega) _ (.inr rfl)
         refine bodyPost_ret (results_arr_int rfl _ _ (w.heap.size + 1) (w.heap.size + 1 + 1) _ _ _ rfl rfl k1 k2) rfl ?_
         exact ⟨_, rfl, k3, k4⟩)
theorem reduceR_bad {g : Int} {s d : List Int} (h : ¬ (sign2 g = true ∧ arrOk s d = true)) : reduceR g s d = (1, [], []) := by unfold reduceR; rw [if_neg h]
theorem reduceR_nil {g : Int} {d : List Int} (h : sign2 g = true ∧ arrOk [] d = true) : reduceR g [] d = (0, [], d) := by unfold reduceR; rw [if_pos h, if_pos rfl]
theorem reduceR_some {g n0 : Int} {t d : List Int} (h : sign2 g = true ∧ arrOk (n0 :: t) d = true) (hn : 0 < n0) : reduceR g (n0 :: t) d = ((redL g t (rowsD (n0 :: t) d)).1, (if (redL g t (rowsD (n0 :: t) d)).1 = 0 then t else []), (redL g t (rowsD (n0 :: t) d)).2) := by
  unfold reduceR
  rw [if_pos h, if_neg (by simp), if_pos (by simpa using hn)]
  show mkR (redL g t (rowsD (n0 :: t) d)).1 t (redL g t (rowsD (n0 :: t) d)).2 = _
  unfold mkR
  by_cases h0 : (redL g t (rowsD (n0 :: t) d)).1 = 0
  · rw [if_pos h0, if_pos h0, h0]
  · rw [if_neg h0, if_neg h0, redL_none h0]
theorem reduceR_none {g : Int} {t d : List Int} (h : sign2 g = true ∧ arrOk (0 :: t) d = true) : reduceR g (0 :: t) d = redN g t := by
  unfold reduceR
  rw [if_pos h, if_neg (by simp), if_neg (by simp)]
  rfl
theorem reducing2_impl (g : Int) (w : World) :
    Calls Tryz.prog 35 #[.int .i64 g] w fun r w' => r = .returned (.func (.func 75) #[] #[.pointer (some ⟨w.heap.size, 0, none⟩)]) ∧ w'.cell? ⟨w.heap.size, 0, none⟩ = some (.int .i64 g) ∧ Below w.heap.size w w' ∧ w.heap.size < w'.heap.size := by
  refine (reducing_impl g w).mono ?_
  rintro r w' ⟨rfl, rfl⟩
  exact ⟨rfl, cell_at (heap_alloc_new w _) rfl, bAlloc (Below.refl _ _) _, by simp⟩
set_option maxRecDepth 20000 in
set_option maxHeartbeats 4000000 in
/-- Reduce. -/
theorem reduce_impl {g : Int} {s d : List Int} {w : World} {v : Value} (h : ArrI w v s d) (hs : s.length ≤ 1048576) (hd : d.length ≤ 1048576) :
    Calls Tryz.prog 11 #[.int .i64 g, v] w fun r w' => ∃ v', r = .returned (.tuple #[v', .int .i64 (reduceR g s d).1]) ∧ Arr w.heap.size w'.heap.size w' v' (reduceR g s d).2.1 (reduceR g s d).2.2 ∧ Below w.heap.size w w' := by
  have H : Hid (ArrI w v s d) := h
  have HAL : Hid (∀ (W : World) (u : Value) (o : Nat), ArrI W u s d → W.cell? ⟨o, 0, none⟩ = some (.int .i64 g) → o < W.heap.size → Calls Tryz.prog 25 #[.int .i64 g, u, .func (.func 75) #[] #[.pointer (some ⟨o, 0, none⟩)]] W fun r w' => ∃ v', r = .returned (.tuple #[v', .int .i64 (reduceR g s d).1]) ∧ Arr W.heap.size w'.heap.size w' v' (reduceR g s d).2.1 (reduceR g s d).2.2 ∧ Below W.heap.size W w') := fun W u o hu hg lg => by
    refine along_impl (enters_of Tryz.func75 (by kernel_rfl) rfl) hu hs hd (fun q => ?_) (fun q e => ?_) (fun W' u' q1 q2 q3 hb hu' => ?_)
    · rw [reduceR_bad q]; exact ⟨rfl, rfl, rfl⟩
    · subst e; rw [reduceR_nil q]; exact ⟨rfl, rfl, rfl⟩
    · cases s with
      | nil => exact absurd rfl q3
      | cons n0 t =>
        have hh := head_bd q2
        simp only [List.getD_cons_zero] at hh
        by_cases hn : 0 < n0
        · rw [reduceR_some ⟨q1, q2⟩ hn]
          exact reduce1_impl hu' q2 hn ((hb.cell (p := ⟨o, 0, none⟩) lg).trans hg) (Nat.lt_of_lt_of_le lg hb.size)
        · obtain rfl : n0 = 0 := by omega
          rw [reduceR_none ⟨q1, q2⟩]
          exact reduce0_impl hu' q2 ((hb.cell (p := ⟨o, 0, none⟩) lg).trans hg) (Nat.lt_of_lt_of_le lg hb.size)
  obtain ⟨C, hC⟩ : ∃ C, C = (reduceR g s d).1 := ⟨_, rfl⟩
  obtain ⟨S, hS⟩ : ∃ S, S = (reduceR g s d).2.1 := ⟨_, rfl⟩
  obtain ⟨D, hD⟩ : ∃ D, D = (reduceR g s d).2.2 := ⟨_, rfl⟩
  rw [← hS, ← hC, ← hD] at HAL
  rw [← hS, ← hC, ← hD]
  obtain ⟨a, c, b, e, rfl, _, _, _, _⟩ := h
  obtain ⟨W1, hW1⟩ : ∃ W1, W1 = (w.alloc (.cells #[.slice a s.length c, .slice b d.length e] 26)).alloc (.cells #[.slice none 0 0, .slice none 0 0] 26) := ⟨_, rfl⟩
  have BW1 : Hid (Below w.heap.size w W1) := by rw [hW1]; exact bAlloc (bAlloc (Below.refl _ _) _) _
  have X1 : Hid (Box W1 w.heap.size (.slice a s.length c) (.slice b d.length e) 26) := by rw [hW1]; exact heap_alloc2_old w _ _
  have Y1 : Hid (Box W1 (w.heap.size + 1) (.slice none 0 0) (.slice none 0 0) 26) := by rw [hW1]; exact heap_alloc2_new w _ _
  have z0 := X1.out.c0
  have z1 := X1.out.c1
  clear hC hS hD hs hd
  go_enter Tryz.func11, Tryz.ntmps11
  go_wp2_with fail
  rw [← hW1]
  clear hW1
  go_region_with (first
    | (go_at_call 35; refine (reducing2_impl _ _).mono ?_; rintro r w2 ⟨rfl, hc1, hb, hsz⟩; have HB2 : Hid (Below W1.heap.size W1 w2) := bTrans ((Below.refl W1.heap.size W1).drew) hb; have HC2 : Hid (_ ∧ _) := ⟨hc1, hsz⟩; clear hc1 hb hsz; have y0 := (X1.out.keep HB2.out).c0; have y1 := (X1.out.keep HB2.out).c1)
    | (go_at_call 25; refine (HAL.out _ _ _ (H.out.keep (bTrans BW1.out HB2.out)) HC2.out.1 HC2.out.2).mono ?_; rintro r w3 ⟨v3, rfl, ha, hb⟩; obtain ⟨s1, d1, rfl, p1, p2, p3⟩ := ha; obtain ⟨ta, tc, rfl, _⟩ := p1.ints; obtain ⟨da, dc, rfl, _⟩ := p2.ints; have HB3 : Hid (Below W1.heap.size W1 w3) := bTrans HB2.out hb; have Y3 : Hid (Box w3 (w.heap.size + 1) (.slice none 0 0) (.slice none 0 0) 26) := Y1.out.keep HB3.out; have A3 : Hid (Arr W1.heap.size w3.heap.size w3 (.agg #[.slice ta S.length tc, .slice da D.length dc]) S D) := Arr.mono ⟨_, _, rfl, p1, p2, p3⟩ HB2.out.size (Nat.le_refl _); clear p1 p2 p3 hb; have y3 := Y3.out.c0; have y4 := Y3.out.c1; have f0 := free_at Y3.out 0; have f1 := free_at Y3.out 1; have HRR : Hid (_ = _) := arr_stored (x' := .slice ta S.length tc) (y' := .slice da D.length dc) Y3.out))
  all_goals
    go_wp2
    refine bodyPost_ret (results_arr_tmp Tryz.results11 _ _ (w.heap.size + 1) _ _ rfl HRR.out) rfl ?_
    refine ⟨_, rfl, ?_, below_setCell (below_setCell (bTrans BW1.out HB3.out) (by omega) _ _) (by omega) _ _⟩
    have L1 := Y1.out.lt
    exact ((A3.out.setCell (by omega) _ _).setCell (by omega) _ _).mono (by omega) (by simp only [size_setCell]; omega)
end Go.Proofs.YtcpgdhffemecbaaGreat
