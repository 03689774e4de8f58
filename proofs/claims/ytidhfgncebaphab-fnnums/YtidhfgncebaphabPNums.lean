/-
  Proved: whatever bytes the sign and the numbers are drawn from, the law FnNums returns true (what a sign does to numbers is right, or has a code; a neutral one on the left of a sum, product, least or greatest changes nothing), and the bytes read as before. No condition.
-/
import Derived.Test.YtidhfgncebaphabRows
import Derived.WalkKit
import Derived.ProofKit
import Derived.OpenShut
import Derived.ShutString
import Derived.ChangeOld
import Derived.Below
import Derived.Test.YtidhfgncebaphabAt
import Derived.Test.YtidhfgncebaphabFacts
namespace Go.Proofs.Ytidhfgncebaphab.fnNums
open Go.ChangeShapes Go.WideShapes Go.ChangeAt Go.RowKit
open Go.ChangeMaps (open_string shut_string)
set_option linter.unusedVariables false

theorem own : ownKnob Try.prog.godebug = none := by kernel_rfl
theorem laidOut : laidOutB Try.prog = true := by kernel_rfl

/-! ### STEP 1: THE WALK: the Go text returns true, AND WRITES NOTHING THAT WAS THERE: 'Below w.heap.size w w'' (Derived/Below.lean: '.refl', '.alloc', '.drew', '.setCell' at a new block, '.trans'). Open each 'IsRow' by 'rcases' AHEAD of 'go_enter'; part every test ahead of the walk. -/
set_option maxRecDepth 20000 in
set_option maxHeartbeats 40000000 in
theorem walk (a0 : Option Addr) (len0 cap0 : Nat) (z0 : List Int) (w : World) (w0 : IsRow .u8 w a0 len0 cap0 z0) :
    Calls Try.prog 3 #[.slice a0 len0 cap0] w fun e w' => e = .returned (.bool true) ∧ Below w.heap.size w w' := by
  have HS : Hid (Src w.heap.size w a0 len0) := src_of_row w0
  clear w0
  by_cases hbig : (1048576 : Int) < (len0 : Int)
  · go_enter Try.func3, Try.ntmps3
    go_wp2_with (go_at_call 5; refine (big_laws _ _ _ _).mono ?_; rintro e w' ⟨rfl, hw⟩; subst w')
    go_ret
    exact ⟨rfl, Below.refl _ _⟩
  · have hl : len0 ≤ 1048576 := by omega
    have hd : decide ((1048576 : Int) < (len0 : Int)) = false := by simpa using hbig
    clear hbig
    go_enter Try.func3, Try.ntmps3
    go_wp2_with (go_at_call 5; refine (big_laws _ _ _ _).mono ?_; rintro e w' ⟨rfl, hw⟩; subst w')
    refine (drawTwo_spec HS.out hl).mono ?_
    rintro e w1 ⟨s, a, b, rfl, hb⟩
    have HB1 : Hid (Below w.heap.size w w1) := hb
    clear hb HS hd hl
    by_cases ka : ok a = true
    · by_cases kb : ok b = true
      · by_cases hs : sign2 s = true
        · obtain ⟨x, c, hx⟩ : ∃ x c, twoV s a b = (x, c) := ⟨_, _, rfl⟩
          have c1 : (c == 1) = false := by simpa using two_code hx ka kb hs
          have c1' : (c != 1) = true := by simpa using two_code hx ka kb hs
          have E1 : Hid (twoV s a b = (x, c)) := hx
          clear hx
          obtain ⟨y, d, hy⟩ : ∃ y d, oneV s a = (y, d) := ⟨_, _, rfl⟩
          have E2 : Hid (oneV s a = (y, d)) := hy
          clear hy
          by_cases q43 : s = 43
          · subst q43
            clear hs
            have E3 : Hid (neu 43 = (0, true)) := rfl
            have E4 : Hid (twoV 43 0 b = (b, 0)) := by show _ = (b, 0); rw [twoV_43 (by decide) kb, Int.zero_add, (lim_yes kb).1, (lim_yes kb).2]
            have e2 : oneV 43 a = (a, 0) := oneV_43 ka
            obtain rfl : d = 0 := by have := congrArg Prod.snd (E2.out.symm.trans e2); exact this
            clear e2
            have ky := one_fact E2.out rfl
            by_cases c0 : c = 0
            · subst c0
              have kx := (two_fact E1.out).1 rfl
              go_wp2_with fail
              refine (two_at E1.out _).mono ?_
              rintro e w2 ⟨rfl, hb⟩
              have HB2 : Hid (Below _ _ w2) := hb
              clear hb
              go_wp2_with fail
              refine (two_spec_at E1.out _).mono ?_
              rintro e w' ⟨rfl, hw⟩
              subst w'
              go_wp2_with fail
              refine (one_at E2.out _).mono ?_
              rintro e w3 ⟨rfl, hb⟩
              have HB3 : Hid (Below _ _ w3) := hb
              clear hb
              go_wp2_with fail
              refine (one_spec_at E2.out _).mono ?_
              rintro e w' ⟨rfl, hw⟩
              subst w'
              go_wp2_with (first | (go_at_call 11; refine (numOk_impl _ _).mono ?_; rintro e w' ⟨rfl, hw⟩; subst w') | (go_at_call 12; refine (neu_at E3.out _).mono ?_; rintro e w' ⟨rfl, hw⟩; subst w') | (go_at_call 7; refine (two_at E4.out _).mono ?_; rintro e w4 ⟨rfl, HB4⟩))
              all_goals
                first
                  | exact absurd (by assumption : c = 1) (by simpa using c1)
                  | (go_ret; exact ⟨rfl, bTrans (bTrans (bTrans HB1.out HB2.out) HB3.out) ‹_›⟩)
            · have cn : (c == 0) = false := by simpa using c0
              have cn' : (c != 0) = true := by simpa using c0
              obtain rfl := (two_fact E1.out).2 c0
              clear c0
              go_wp2_with fail
              refine (two_at E1.out _).mono ?_
              rintro e w2 ⟨rfl, hb⟩
              have HB2 : Hid (Below _ _ w2) := hb
              clear hb
              go_wp2_with fail
              refine (two_spec_at E1.out _).mono ?_
              rintro e w' ⟨rfl, hw⟩
              subst w'
              go_wp2_with fail
              refine (one_at E2.out _).mono ?_
              rintro e w3 ⟨rfl, hb⟩
              have HB3 : Hid (Below _ _ w3) := hb
              clear hb
              go_wp2_with fail
              refine (one_spec_at E2.out _).mono ?_
              rintro e w' ⟨rfl, hw⟩
              subst w'
              go_wp2_with (first | (go_at_call 11; refine (numOk_impl _ _).mono ?_; rintro e w' ⟨rfl, hw⟩; subst w') | (go_at_call 12; refine (neu_at E3.out _).mono ?_; rintro e w' ⟨rfl, hw⟩; subst w') | (go_at_call 7; refine (two_at E4.out _).mono ?_; rintro e w4 ⟨rfl, HB4⟩))
              all_goals
                first
                  | exact absurd (by assumption : c = 1) (by simpa using c1)
                  | (go_ret; exact ⟨rfl, bTrans (bTrans (bTrans HB1.out HB2.out) HB3.out) ‹_›⟩)
          by_cases q42 : s = 42
          · subst q42
            clear hs
            have E3 : Hid (neu 42 = (1, true)) := rfl
            have E4 : Hid (twoV 42 1 b = (b, 0)) := by show _ = (b, 0); rw [twoV_42 (by decide) kb, Int.one_mul, (lim_yes kb).1, (lim_yes kb).2]
            have e2 : oneV 42 a = (sgn a, 0) := oneV_42 ka
            obtain rfl : d = 0 := by have := congrArg Prod.snd (E2.out.symm.trans e2); exact this
            clear e2
            have ky := one_fact E2.out rfl
            by_cases c0 : c = 0
            · subst c0
              have kx := (two_fact E1.out).1 rfl
              go_wp2_with fail
              refine (two_at E1.out _).mono ?_
              rintro e w2 ⟨rfl, hb⟩
              have HB2 : Hid (Below _ _ w2) := hb
              clear hb
              go_wp2_with fail
              refine (two_spec_at E1.out _).mono ?_
              rintro e w' ⟨rfl, hw⟩
              subst w'
              go_wp2_with fail
              refine (one_at E2.out _).mono ?_
              rintro e w3 ⟨rfl, hb⟩
              have HB3 : Hid (Below _ _ w3) := hb
              clear hb
              go_wp2_with fail
              refine (one_spec_at E2.out _).mono ?_
              rintro e w' ⟨rfl, hw⟩
              subst w'
              go_wp2_with (first | (go_at_call 11; refine (numOk_impl _ _).mono ?_; rintro e w' ⟨rfl, hw⟩; subst w') | (go_at_call 12; refine (neu_at E3.out _).mono ?_; rintro e w' ⟨rfl, hw⟩; subst w') | (go_at_call 7; refine (two_at E4.out _).mono ?_; rintro e w4 ⟨rfl, HB4⟩))
              all_goals
                first
                  | exact absurd (by assumption : c = 1) (by simpa using c1)
                  | (go_ret; exact ⟨rfl, bTrans (bTrans (bTrans HB1.out HB2.out) HB3.out) ‹_›⟩)
            · have cn : (c == 0) = false := by simpa using c0
              have cn' : (c != 0) = true := by simpa using c0
              obtain rfl := (two_fact E1.out).2 c0
              clear c0
              go_wp2_with fail
              refine (two_at E1.out _).mono ?_
              rintro e w2 ⟨rfl, hb⟩
              have HB2 : Hid (Below _ _ w2) := hb
              clear hb
              go_wp2_with fail
              refine (two_spec_at E1.out _).mono ?_
              rintro e w' ⟨rfl, hw⟩
              subst w'
              go_wp2_with fail
              refine (one_at E2.out _).mono ?_
              rintro e w3 ⟨rfl, hb⟩
              have HB3 : Hid (Below _ _ w3) := hb
              clear hb
              go_wp2_with fail
              refine (one_spec_at E2.out _).mono ?_
              rintro e w' ⟨rfl, hw⟩
              subst w'
              go_wp2_with (first | (go_at_call 11; refine (numOk_impl _ _).mono ?_; rintro e w' ⟨rfl, hw⟩; subst w') | (go_at_call 12; refine (neu_at E3.out _).mono ?_; rintro e w' ⟨rfl, hw⟩; subst w') | (go_at_call 7; refine (two_at E4.out _).mono ?_; rintro e w4 ⟨rfl, HB4⟩))
              all_goals
                first
                  | exact absurd (by assumption : c = 1) (by simpa using c1)
                  | (go_ret; exact ⟨rfl, bTrans (bTrans (bTrans HB1.out HB2.out) HB3.out) ‹_›⟩)
          by_cases q38 : s = 38
          · subst q38
            clear hs
            have E3 : Hid (neu 38 = (1000000000000, true)) := rfl
            have E4 : Hid (twoV 38 1000000000000 b = (b, 0)) := by show _ = (b, 0); rw [twoV_38 (by decide) kb, mn_top (ok_bd kb).2, (lim_yes kb).1, (lim_yes kb).2]
            have e2 : oneV 38 a = (0, 1) := oneV_none (by decide)
            obtain rfl : d = 1 := by have := congrArg Prod.snd (E2.out.symm.trans e2); exact this
            clear e2
            by_cases c0 : c = 0
            · subst c0
              have kx := (two_fact E1.out).1 rfl
              go_wp2_with fail
              refine (two_at E1.out _).mono ?_
              rintro e w2 ⟨rfl, hb⟩
              have HB2 : Hid (Below _ _ w2) := hb
              clear hb
              go_wp2_with fail
              refine (two_spec_at E1.out _).mono ?_
              rintro e w' ⟨rfl, hw⟩
              subst w'
              go_wp2_with fail
              refine (one_at E2.out _).mono ?_
              rintro e w3 ⟨rfl, hb⟩
              have HB3 : Hid (Below _ _ w3) := hb
              clear hb
              go_wp2_with fail
              refine (one_spec_at E2.out _).mono ?_
              rintro e w' ⟨rfl, hw⟩
              subst w'
              go_wp2_with (first | (go_at_call 11; refine (numOk_impl _ _).mono ?_; rintro e w' ⟨rfl, hw⟩; subst w') | (go_at_call 12; refine (neu_at E3.out _).mono ?_; rintro e w' ⟨rfl, hw⟩; subst w') | (go_at_call 7; refine (two_at E4.out _).mono ?_; rintro e w4 ⟨rfl, HB4⟩))
              all_goals
                first
                  | exact absurd (by assumption : c = 1) (by simpa using c1)
                  | (go_ret; exact ⟨rfl, bTrans (bTrans (bTrans HB1.out HB2.out) HB3.out) ‹_›⟩)
            · have cn : (c == 0) = false := by simpa using c0
              have cn' : (c != 0) = true := by simpa using c0
              obtain rfl := (two_fact E1.out).2 c0
              clear c0
              go_wp2_with fail
              refine (two_at E1.out _).mono ?_
              rintro e w2 ⟨rfl, hb⟩
              have HB2 : Hid (Below _ _ w2) := hb
              clear hb
              go_wp2_with fail
              refine (two_spec_at E1.out _).mono ?_
              rintro e w' ⟨rfl, hw⟩
              subst w'
              go_wp2_with fail
              refine (one_at E2.out _).mono ?_
              rintro e w3 ⟨rfl, hb⟩
              have HB3 : Hid (Below _ _ w3) := hb
              clear hb
              go_wp2_with fail
              refine (one_spec_at E2.out _).mono ?_
              rintro e w' ⟨rfl, hw⟩
              subst w'
              go_wp2_with (first | (go_at_call 11; refine (numOk_impl _ _).mono ?_; rintro e w' ⟨rfl, hw⟩; subst w') | (go_at_call 12; refine (neu_at E3.out _).mono ?_; rintro e w' ⟨rfl, hw⟩; subst w') | (go_at_call 7; refine (two_at E4.out _).mono ?_; rintro e w4 ⟨rfl, HB4⟩))
              all_goals
                first
                  | exact absurd (by assumption : c = 1) (by simpa using c1)
                  | (go_ret; exact ⟨rfl, bTrans (bTrans (bTrans HB1.out HB2.out) HB3.out) ‹_›⟩)
          by_cases q94 : s = 94
          · subst q94
            clear hs
            have E3 : Hid (neu 94 = ((-1000000000000), true)) := rfl
            have E4 : Hid (twoV 94 (-1000000000000) b = (b, 0)) := by show _ = (b, 0); rw [twoV_94 (by decide) kb, mx_low (ok_bd kb).1, (lim_yes kb).1, (lim_yes kb).2]
            have e2 : oneV 94 a = (0, 1) := oneV_none (by decide)
            obtain rfl : d = 1 := by have := congrArg Prod.snd (E2.out.symm.trans e2); exact this
            clear e2
            by_cases c0 : c = 0
            · subst c0
              have kx := (two_fact E1.out).1 rfl
              go_wp2_with fail
              refine (two_at E1.out _).mono ?_
              rintro e w2 ⟨rfl, hb⟩
              have HB2 : Hid (Below _ _ w2) := hb
              clear hb
              go_wp2_with fail
              refine (two_spec_at E1.out _).mono ?_
              rintro e w' ⟨rfl, hw⟩
              subst w'
              go_wp2_with fail
              refine (one_at E2.out _).mono ?_
              rintro e w3 ⟨rfl, hb⟩
              have HB3 : Hid (Below _ _ w3) := hb
              clear hb
              go_wp2_with fail
              refine (one_spec_at E2.out _).mono ?_
              rintro e w' ⟨rfl, hw⟩
              subst w'
              go_wp2_with (first | (go_at_call 11; refine (numOk_impl _ _).mono ?_; rintro e w' ⟨rfl, hw⟩; subst w') | (go_at_call 12; refine (neu_at E3.out _).mono ?_; rintro e w' ⟨rfl, hw⟩; subst w') | (go_at_call 7; refine (two_at E4.out _).mono ?_; rintro e w4 ⟨rfl, HB4⟩))
              all_goals
                first
                  | exact absurd (by assumption : c = 1) (by simpa using c1)
                  | (go_ret; exact ⟨rfl, bTrans (bTrans (bTrans HB1.out HB2.out) HB3.out) ‹_›⟩)
            · have cn : (c == 0) = false := by simpa using c0
              have cn' : (c != 0) = true := by simpa using c0
              obtain rfl := (two_fact E1.out).2 c0
              clear c0
              go_wp2_with fail
              refine (two_at E1.out _).mono ?_
              rintro e w2 ⟨rfl, hb⟩
              have HB2 : Hid (Below _ _ w2) := hb
              clear hb
              go_wp2_with fail
              refine (two_spec_at E1.out _).mono ?_
              rintro e w' ⟨rfl, hw⟩
              subst w'
              go_wp2_with fail
              refine (one_at E2.out _).mono ?_
              rintro e w3 ⟨rfl, hb⟩
              have HB3 : Hid (Below _ _ w3) := hb
              clear hb
              go_wp2_with fail
              refine (one_spec_at E2.out _).mono ?_
              rintro e w' ⟨rfl, hw⟩
              subst w'
              go_wp2_with (first | (go_at_call 11; refine (numOk_impl _ _).mono ?_; rintro e w' ⟨rfl, hw⟩; subst w') | (go_at_call 12; refine (neu_at E3.out _).mono ?_; rintro e w' ⟨rfl, hw⟩; subst w') | (go_at_call 7; refine (two_at E4.out _).mono ?_; rintro e w4 ⟨rfl, HB4⟩))
              all_goals
                first
                  | exact absurd (by assumption : c = 1) (by simpa using c1)
                  | (go_ret; exact ⟨rfl, bTrans (bTrans (bTrans HB1.out HB2.out) HB3.out) ‹_›⟩)
          have g43 : (s != 43) = true := by simpa using q43
          have g42 : (s != 42) = true := by simpa using q42
          have g38 : (s != 38) = true := by simpa using q38
          have g94 : (s != 94) = true := by simpa using q94
          obtain ⟨n, hn⟩ : ∃ n, neu s = (n, true) := ⟨(neu s).1, by rw [← hs, ← neu_sign]⟩
          have E3 : Hid (neu s = (n, true)) := hn
          clear hn hs
          by_cases c0 : c = 0
          · subst c0
            have kx := (two_fact E1.out).1 rfl
            by_cases d0 : d = 0
            · subst d0
              have ky := one_fact E2.out rfl
              go_wp2_with fail
              refine (two_at E1.out _).mono ?_
              rintro e w2 ⟨rfl, hb⟩
              have HB2 : Hid (Below _ _ w2) := hb
              clear hb
              go_wp2_with fail
              refine (two_spec_at E1.out _).mono ?_
              rintro e w' ⟨rfl, hw⟩
              subst w'
              go_wp2_with fail
              refine (one_at E2.out _).mono ?_
              rintro e w3 ⟨rfl, hb⟩
              have HB3 : Hid (Below _ _ w3) := hb
              clear hb
              go_wp2_with fail
              refine (one_spec_at E2.out _).mono ?_
              rintro e w' ⟨rfl, hw⟩
              subst w'
              go_wp2_with (first | (go_at_call 11; refine (numOk_impl _ _).mono ?_; rintro e w' ⟨rfl, hw⟩; subst w') | (go_at_call 12; refine (neu_at E3.out _).mono ?_; rintro e w' ⟨rfl, hw⟩; subst w'))
              all_goals
                first
                  | exact absurd (by assumption : c = 1) (by simpa using c1)
                  | (go_ret; exact ⟨rfl, bTrans (bTrans HB1.out HB2.out) HB3.out⟩)
            · have dn : (d == 0) = false := by simpa using d0
              clear d0
              go_wp2_with fail
              refine (two_at E1.out _).mono ?_
              rintro e w2 ⟨rfl, hb⟩
              have HB2 : Hid (Below _ _ w2) := hb
              clear hb
              go_wp2_with fail
              refine (two_spec_at E1.out _).mono ?_
              rintro e w' ⟨rfl, hw⟩
              subst w'
              go_wp2_with fail
              refine (one_at E2.out _).mono ?_
              rintro e w3 ⟨rfl, hb⟩
              have HB3 : Hid (Below _ _ w3) := hb
              clear hb
              go_wp2_with fail
              refine (one_spec_at E2.out _).mono ?_
              rintro e w' ⟨rfl, hw⟩
              subst w'
              go_wp2_with (first | (go_at_call 11; refine (numOk_impl _ _).mono ?_; rintro e w' ⟨rfl, hw⟩; subst w') | (go_at_call 12; refine (neu_at E3.out _).mono ?_; rintro e w' ⟨rfl, hw⟩; subst w'))
              all_goals
                first
                  | exact absurd (by assumption : c = 1) (by simpa using c1)
                  | (go_ret; exact ⟨rfl, bTrans (bTrans HB1.out HB2.out) HB3.out⟩)
          · have cn : (c == 0) = false := by simpa using c0
            have cn' : (c != 0) = true := by simpa using c0
            obtain rfl := (two_fact E1.out).2 c0
            clear c0
            by_cases d0 : d = 0
            · subst d0
              have ky := one_fact E2.out rfl
              go_wp2_with fail
              refine (two_at E1.out _).mono ?_
              rintro e w2 ⟨rfl, hb⟩
              have HB2 : Hid (Below _ _ w2) := hb
              clear hb
              go_wp2_with fail
              refine (two_spec_at E1.out _).mono ?_
              rintro e w' ⟨rfl, hw⟩
              subst w'
              go_wp2_with fail
              refine (one_at E2.out _).mono ?_
              rintro e w3 ⟨rfl, hb⟩
              have HB3 : Hid (Below _ _ w3) := hb
              clear hb
              go_wp2_with fail
              refine (one_spec_at E2.out _).mono ?_
              rintro e w' ⟨rfl, hw⟩
              subst w'
              go_wp2_with (first | (go_at_call 11; refine (numOk_impl _ _).mono ?_; rintro e w' ⟨rfl, hw⟩; subst w') | (go_at_call 12; refine (neu_at E3.out _).mono ?_; rintro e w' ⟨rfl, hw⟩; subst w'))
              all_goals
                first
                  | exact absurd (by assumption : c = 1) (by simpa using c1)
                  | (go_ret; exact ⟨rfl, bTrans (bTrans HB1.out HB2.out) HB3.out⟩)
            · have dn : (d == 0) = false := by simpa using d0
              clear d0
              go_wp2_with fail
              refine (two_at E1.out _).mono ?_
              rintro e w2 ⟨rfl, hb⟩
              have HB2 : Hid (Below _ _ w2) := hb
              clear hb
              go_wp2_with fail
              refine (two_spec_at E1.out _).mono ?_
              rintro e w' ⟨rfl, hw⟩
              subst w'
              go_wp2_with fail
              refine (one_at E2.out _).mono ?_
              rintro e w3 ⟨rfl, hb⟩
              have HB3 : Hid (Below _ _ w3) := hb
              clear hb
              go_wp2_with fail
              refine (one_spec_at E2.out _).mono ?_
              rintro e w' ⟨rfl, hw⟩
              subst w'
              go_wp2_with (first | (go_at_call 11; refine (numOk_impl _ _).mono ?_; rintro e w' ⟨rfl, hw⟩; subst w') | (go_at_call 12; refine (neu_at E3.out _).mono ?_; rintro e w' ⟨rfl, hw⟩; subst w'))
              all_goals
                first
                  | exact absurd (by assumption : c = 1) (by simpa using c1)
                  | (go_ret; exact ⟨rfl, bTrans (bTrans HB1.out HB2.out) HB3.out⟩)
        · have hs : sign2 s = false := by simpa using hs
          have E1 : Hid (twoV s a b = (0, 1)) := twoV_none hs
          obtain ⟨n, hn⟩ : ∃ n, neu s = (n, false) := ⟨(neu s).1, by rw [← hs, ← neu_sign]⟩
          have E3 : Hid (neu s = (n, false)) := hn
          obtain ⟨y, d, hy⟩ : ∃ y d, oneV s a = (y, d) := ⟨_, _, rfl⟩
          have E2 : Hid (oneV s a = (y, d)) := hy
          clear hy hn
          have q : s ≠ 43 ∧ s ≠ 42 ∧ s ≠ 38 ∧ s ≠ 94 := by simp [sign2] at hs; omega
          clear hs
          obtain ⟨q43, q42, q38, q94⟩ := q
          have g43 : (s != 43) = true := by simpa using q43
          have g42 : (s != 42) = true := by simpa using q42
          have g38 : (s != 38) = true := by simpa using q38
          have g94 : (s != 94) = true := by simpa using q94
          by_cases d0 : d = 0
          · subst d0
            have ky := one_fact E2.out rfl
            go_wp2_with fail
            refine (two_at E1.out _).mono ?_
            rintro e w2 ⟨rfl, hb⟩
            have HB2 : Hid (Below _ _ w2) := hb
            clear hb
            go_wp2_with fail
            refine (two_spec_at E1.out _).mono ?_
            rintro e w' ⟨rfl, hw⟩
            subst w'
            go_wp2_with fail
            refine (one_at E2.out _).mono ?_
            rintro e w3 ⟨rfl, hb⟩
            have HB3 : Hid (Below _ _ w3) := hb
            clear hb
            go_wp2_with fail
            refine (one_spec_at E2.out _).mono ?_
            rintro e w' ⟨rfl, hw⟩
            subst w'
            go_wp2_with (first | (go_at_call 11; refine (numOk_impl _ _).mono ?_; rintro e w' ⟨rfl, hw⟩; subst w') | (go_at_call 12; refine (neu_at E3.out _).mono ?_; rintro e w' ⟨rfl, hw⟩; subst w'))
            all_goals
              first
                | exact absurd (by assumption : c = 1) (by simpa using c1)
                | (go_ret; exact ⟨rfl, bTrans (bTrans HB1.out HB2.out) HB3.out⟩)
          · have dn : (d == 0) = false := by simpa using d0
            clear d0
            go_wp2_with fail
            refine (two_at E1.out _).mono ?_
            rintro e w2 ⟨rfl, hb⟩
            have HB2 : Hid (Below _ _ w2) := hb
            clear hb
            go_wp2_with fail
            refine (two_spec_at E1.out _).mono ?_
            rintro e w' ⟨rfl, hw⟩
            subst w'
            go_wp2_with fail
            refine (one_at E2.out _).mono ?_
            rintro e w3 ⟨rfl, hb⟩
            have HB3 : Hid (Below _ _ w3) := hb
            clear hb
            go_wp2_with fail
            refine (one_spec_at E2.out _).mono ?_
            rintro e w' ⟨rfl, hw⟩
            subst w'
            go_wp2_with (first | (go_at_call 11; refine (numOk_impl _ _).mono ?_; rintro e w' ⟨rfl, hw⟩; subst w') | (go_at_call 12; refine (neu_at E3.out _).mono ?_; rintro e w' ⟨rfl, hw⟩; subst w'))
            all_goals
              first
                | exact absurd (by assumption : c = 1) (by simpa using c1)
                | (go_ret; exact ⟨rfl, bTrans (bTrans HB1.out HB2.out) HB3.out⟩)
      · have kb : ok b = false := by simpa using kb
        have E1 : Hid (twoV s a b = (0, 1)) := twoV_bad (.inr kb)
        obtain ⟨y, d, hy⟩ : ∃ y d, oneV s a = (y, d) := ⟨_, _, rfl⟩
        have E2 : Hid (oneV s a = (y, d)) := hy
        clear hy
        by_cases d0 : d = 0
        · subst d0
          have ky := one_fact E2.out rfl
          obtain ⟨n, o, hn⟩ : ∃ n o, neu s = (n, o) := ⟨_, _, rfl⟩
          have E3 : Hid (neu s = (n, o)) := hn
          clear hn
          cases o
          · go_wp2_with fail
            refine (two_at E1.out _).mono ?_
            rintro e w2 ⟨rfl, hb⟩
            have HB2 : Hid (Below _ _ w2) := hb
            clear hb
            go_wp2_with fail
            refine (two_spec_at E1.out _).mono ?_
            rintro e w' ⟨rfl, hw⟩
            subst w'
            go_wp2_with fail
            refine (one_at E2.out _).mono ?_
            rintro e w3 ⟨rfl, hb⟩
            have HB3 : Hid (Below _ _ w3) := hb
            clear hb
            go_wp2_with fail
            refine (one_spec_at E2.out _).mono ?_
            rintro e w' ⟨rfl, hw⟩
            subst w'
            go_wp2_with (first | (go_at_call 11; refine (numOk_impl _ _).mono ?_; rintro e w' ⟨rfl, hw⟩; subst w') | (go_at_call 12; refine (neu_at E3.out _).mono ?_; rintro e w' ⟨rfl, hw⟩; subst w'))
            all_goals
              first
                | exact absurd (by assumption : c = 1) (by simpa using c1)
                | (go_ret; exact ⟨rfl, bTrans (bTrans HB1.out HB2.out) HB3.out⟩)
          · go_wp2_with fail
            refine (two_at E1.out _).mono ?_
            rintro e w2 ⟨rfl, hb⟩
            have HB2 : Hid (Below _ _ w2) := hb
            clear hb
            go_wp2_with fail
            refine (two_spec_at E1.out _).mono ?_
            rintro e w' ⟨rfl, hw⟩
            subst w'
            go_wp2_with fail
            refine (one_at E2.out _).mono ?_
            rintro e w3 ⟨rfl, hb⟩
            have HB3 : Hid (Below _ _ w3) := hb
            clear hb
            go_wp2_with fail
            refine (one_spec_at E2.out _).mono ?_
            rintro e w' ⟨rfl, hw⟩
            subst w'
            go_wp2_with (first | (go_at_call 11; refine (numOk_impl _ _).mono ?_; rintro e w' ⟨rfl, hw⟩; subst w') | (go_at_call 12; refine (neu_at E3.out _).mono ?_; rintro e w' ⟨rfl, hw⟩; subst w'))
            all_goals
              first
                | exact absurd (by assumption : c = 1) (by simpa using c1)
                | (go_ret; exact ⟨rfl, bTrans (bTrans HB1.out HB2.out) HB3.out⟩)
        · have dn : (d == 0) = false := by simpa using d0
          clear d0
          obtain ⟨n, o, hn⟩ : ∃ n o, neu s = (n, o) := ⟨_, _, rfl⟩
          have E3 : Hid (neu s = (n, o)) := hn
          clear hn
          cases o
          · go_wp2_with fail
            refine (two_at E1.out _).mono ?_
            rintro e w2 ⟨rfl, hb⟩
            have HB2 : Hid (Below _ _ w2) := hb
            clear hb
            go_wp2_with fail
            refine (two_spec_at E1.out _).mono ?_
            rintro e w' ⟨rfl, hw⟩
            subst w'
            go_wp2_with fail
            refine (one_at E2.out _).mono ?_
            rintro e w3 ⟨rfl, hb⟩
            have HB3 : Hid (Below _ _ w3) := hb
            clear hb
            go_wp2_with fail
            refine (one_spec_at E2.out _).mono ?_
            rintro e w' ⟨rfl, hw⟩
            subst w'
            go_wp2_with (first | (go_at_call 11; refine (numOk_impl _ _).mono ?_; rintro e w' ⟨rfl, hw⟩; subst w') | (go_at_call 12; refine (neu_at E3.out _).mono ?_; rintro e w' ⟨rfl, hw⟩; subst w'))
            all_goals
              first
                | exact absurd (by assumption : c = 1) (by simpa using c1)
                | (go_ret; exact ⟨rfl, bTrans (bTrans HB1.out HB2.out) HB3.out⟩)
          · go_wp2_with fail
            refine (two_at E1.out _).mono ?_
            rintro e w2 ⟨rfl, hb⟩
            have HB2 : Hid (Below _ _ w2) := hb
            clear hb
            go_wp2_with fail
            refine (two_spec_at E1.out _).mono ?_
            rintro e w' ⟨rfl, hw⟩
            subst w'
            go_wp2_with fail
            refine (one_at E2.out _).mono ?_
            rintro e w3 ⟨rfl, hb⟩
            have HB3 : Hid (Below _ _ w3) := hb
            clear hb
            go_wp2_with fail
            refine (one_spec_at E2.out _).mono ?_
            rintro e w' ⟨rfl, hw⟩
            subst w'
            go_wp2_with (first | (go_at_call 11; refine (numOk_impl _ _).mono ?_; rintro e w' ⟨rfl, hw⟩; subst w') | (go_at_call 12; refine (neu_at E3.out _).mono ?_; rintro e w' ⟨rfl, hw⟩; subst w'))
            all_goals
              first
                | exact absurd (by assumption : c = 1) (by simpa using c1)
                | (go_ret; exact ⟨rfl, bTrans (bTrans HB1.out HB2.out) HB3.out⟩)
    · have ka : ok a = false := by simpa using ka
      have E1 : Hid (twoV s a b = (0, 1)) := twoV_bad (.inl ka)
      have E2 : Hid (oneV s a = (0, 1)) := oneV_bad ka
      by_cases kb : ok b = true
      · by_cases q43 : s = 43
        · subst q43
          have E3 : Hid (neu 43 = (0, true)) := rfl
          have E4 : Hid (twoV 43 0 b = (b, 0)) := by show _ = (b, 0); rw [twoV_43 (by decide) kb, Int.zero_add, (lim_yes kb).1, (lim_yes kb).2]
          go_wp2_with fail
          refine (two_at E1.out _).mono ?_
          rintro e w2 ⟨rfl, hb⟩
          have HB2 : Hid (Below _ _ w2) := hb
          clear hb
          go_wp2_with fail
          refine (two_spec_at E1.out _).mono ?_
          rintro e w' ⟨rfl, hw⟩
          subst w'
          go_wp2_with fail
          refine (one_at E2.out _).mono ?_
          rintro e w3 ⟨rfl, hb⟩
          have HB3 : Hid (Below _ _ w3) := hb
          clear hb
          go_wp2_with fail
          refine (one_spec_at E2.out _).mono ?_
          rintro e w' ⟨rfl, hw⟩
          subst w'
          go_wp2_with (first | (go_at_call 11; refine (numOk_impl _ _).mono ?_; rintro e w' ⟨rfl, hw⟩; subst w') | (go_at_call 12; refine (neu_at E3.out _).mono ?_; rintro e w' ⟨rfl, hw⟩; subst w') | (go_at_call 7; refine (two_at E4.out _).mono ?_; rintro e w4 ⟨rfl, HB4⟩))
          all_goals
            first
              | exact absurd (by assumption : c = 1) (by simpa using c1)
              | (go_ret; exact ⟨rfl, bTrans (bTrans (bTrans HB1.out HB2.out) HB3.out) ‹_›⟩)
        by_cases q42 : s = 42
        · subst q42
          have E3 : Hid (neu 42 = (1, true)) := rfl
          have E4 : Hid (twoV 42 1 b = (b, 0)) := by show _ = (b, 0); rw [twoV_42 (by decide) kb, Int.one_mul, (lim_yes kb).1, (lim_yes kb).2]
          go_wp2_with fail
          refine (two_at E1.out _).mono ?_
          rintro e w2 ⟨rfl, hb⟩
          have HB2 : Hid (Below _ _ w2) := hb
          clear hb
          go_wp2_with fail
          refine (two_spec_at E1.out _).mono ?_
          rintro e w' ⟨rfl, hw⟩
          subst w'
          go_wp2_with fail
          refine (one_at E2.out _).mono ?_
          rintro e w3 ⟨rfl, hb⟩
          have HB3 : Hid (Below _ _ w3) := hb
          clear hb
          go_wp2_with fail
          refine (one_spec_at E2.out _).mono ?_
          rintro e w' ⟨rfl, hw⟩
          subst w'
          go_wp2_with (first | (go_at_call 11; refine (numOk_impl _ _).mono ?_; rintro e w' ⟨rfl, hw⟩; subst w') | (go_at_call 12; refine (neu_at E3.out _).mono ?_; rintro e w' ⟨rfl, hw⟩; subst w') | (go_at_call 7; refine (two_at E4.out _).mono ?_; rintro e w4 ⟨rfl, HB4⟩))
          all_goals
            first
              | exact absurd (by assumption : c = 1) (by simpa using c1)
              | (go_ret; exact ⟨rfl, bTrans (bTrans (bTrans HB1.out HB2.out) HB3.out) ‹_›⟩)
        by_cases q38 : s = 38
        · subst q38
          have E3 : Hid (neu 38 = (1000000000000, true)) := rfl
          have E4 : Hid (twoV 38 1000000000000 b = (b, 0)) := by show _ = (b, 0); rw [twoV_38 (by decide) kb, mn_top (ok_bd kb).2, (lim_yes kb).1, (lim_yes kb).2]
          go_wp2_with fail
          refine (two_at E1.out _).mono ?_
          rintro e w2 ⟨rfl, hb⟩
          have HB2 : Hid (Below _ _ w2) := hb
          clear hb
          go_wp2_with fail
          refine (two_spec_at E1.out _).mono ?_
          rintro e w' ⟨rfl, hw⟩
          subst w'
          go_wp2_with fail
          refine (one_at E2.out _).mono ?_
          rintro e w3 ⟨rfl, hb⟩
          have HB3 : Hid (Below _ _ w3) := hb
          clear hb
          go_wp2_with fail
          refine (one_spec_at E2.out _).mono ?_
          rintro e w' ⟨rfl, hw⟩
          subst w'
          go_wp2_with (first | (go_at_call 11; refine (numOk_impl _ _).mono ?_; rintro e w' ⟨rfl, hw⟩; subst w') | (go_at_call 12; refine (neu_at E3.out _).mono ?_; rintro e w' ⟨rfl, hw⟩; subst w') | (go_at_call 7; refine (two_at E4.out _).mono ?_; rintro e w4 ⟨rfl, HB4⟩))
          all_goals
            first
              | exact absurd (by assumption : c = 1) (by simpa using c1)
              | (go_ret; exact ⟨rfl, bTrans (bTrans (bTrans HB1.out HB2.out) HB3.out) ‹_›⟩)
        by_cases q94 : s = 94
        · subst q94
          have E3 : Hid (neu 94 = ((-1000000000000), true)) := rfl
          have E4 : Hid (twoV 94 (-1000000000000) b = (b, 0)) := by show _ = (b, 0); rw [twoV_94 (by decide) kb, mx_low (ok_bd kb).1, (lim_yes kb).1, (lim_yes kb).2]
          go_wp2_with fail
          refine (two_at E1.out _).mono ?_
          rintro e w2 ⟨rfl, hb⟩
          have HB2 : Hid (Below _ _ w2) := hb
          clear hb
          go_wp2_with fail
          refine (two_spec_at E1.out _).mono ?_
          rintro e w' ⟨rfl, hw⟩
          subst w'
          go_wp2_with fail
          refine (one_at E2.out _).mono ?_
          rintro e w3 ⟨rfl, hb⟩
          have HB3 : Hid (Below _ _ w3) := hb
          clear hb
          go_wp2_with fail
          refine (one_spec_at E2.out _).mono ?_
          rintro e w' ⟨rfl, hw⟩
          subst w'
          go_wp2_with (first | (go_at_call 11; refine (numOk_impl _ _).mono ?_; rintro e w' ⟨rfl, hw⟩; subst w') | (go_at_call 12; refine (neu_at E3.out _).mono ?_; rintro e w' ⟨rfl, hw⟩; subst w') | (go_at_call 7; refine (two_at E4.out _).mono ?_; rintro e w4 ⟨rfl, HB4⟩))
          all_goals
            first
              | exact absurd (by assumption : c = 1) (by simpa using c1)
              | (go_ret; exact ⟨rfl, bTrans (bTrans (bTrans HB1.out HB2.out) HB3.out) ‹_›⟩)
        have g43 : (s != 43) = true := by simpa using q43
        have g42 : (s != 42) = true := by simpa using q42
        have g38 : (s != 38) = true := by simpa using q38
        have g94 : (s != 94) = true := by simpa using q94
        obtain ⟨n, o, hn⟩ : ∃ n o, neu s = (n, o) := ⟨_, _, rfl⟩
        have E3 : Hid (neu s = (n, o)) := hn
        clear hn
        cases o
        · go_wp2_with fail
          refine (two_at E1.out _).mono ?_
          rintro e w2 ⟨rfl, hb⟩
          have HB2 : Hid (Below _ _ w2) := hb
          clear hb
          go_wp2_with fail
          refine (two_spec_at E1.out _).mono ?_
          rintro e w' ⟨rfl, hw⟩
          subst w'
          go_wp2_with fail
          refine (one_at E2.out _).mono ?_
          rintro e w3 ⟨rfl, hb⟩
          have HB3 : Hid (Below _ _ w3) := hb
          clear hb
          go_wp2_with fail
          refine (one_spec_at E2.out _).mono ?_
          rintro e w' ⟨rfl, hw⟩
          subst w'
          go_wp2_with (first | (go_at_call 11; refine (numOk_impl _ _).mono ?_; rintro e w' ⟨rfl, hw⟩; subst w') | (go_at_call 12; refine (neu_at E3.out _).mono ?_; rintro e w' ⟨rfl, hw⟩; subst w'))
          all_goals
            first
              | exact absurd (by assumption : c = 1) (by simpa using c1)
              | (go_ret; exact ⟨rfl, bTrans (bTrans HB1.out HB2.out) HB3.out⟩)
        · go_wp2_with fail
          refine (two_at E1.out _).mono ?_
          rintro e w2 ⟨rfl, hb⟩
          have HB2 : Hid (Below _ _ w2) := hb
          clear hb
          go_wp2_with fail
          refine (two_spec_at E1.out _).mono ?_
          rintro e w' ⟨rfl, hw⟩
          subst w'
          go_wp2_with fail
          refine (one_at E2.out _).mono ?_
          rintro e w3 ⟨rfl, hb⟩
          have HB3 : Hid (Below _ _ w3) := hb
          clear hb
          go_wp2_with fail
          refine (one_spec_at E2.out _).mono ?_
          rintro e w' ⟨rfl, hw⟩
          subst w'
          go_wp2_with (first | (go_at_call 11; refine (numOk_impl _ _).mono ?_; rintro e w' ⟨rfl, hw⟩; subst w') | (go_at_call 12; refine (neu_at E3.out _).mono ?_; rintro e w' ⟨rfl, hw⟩; subst w'))
          all_goals
            first
              | exact absurd (by assumption : c = 1) (by simpa using c1)
              | (go_ret; exact ⟨rfl, bTrans (bTrans HB1.out HB2.out) HB3.out⟩)
      · have kb : ok b = false := by simpa using kb
        obtain ⟨n, o, hn⟩ : ∃ n o, neu s = (n, o) := ⟨_, _, rfl⟩
        have E3 : Hid (neu s = (n, o)) := hn
        clear hn
        cases o
        · go_wp2_with fail
          refine (two_at E1.out _).mono ?_
          rintro e w2 ⟨rfl, hb⟩
          have HB2 : Hid (Below _ _ w2) := hb
          clear hb
          go_wp2_with fail
          refine (two_spec_at E1.out _).mono ?_
          rintro e w' ⟨rfl, hw⟩
          subst w'
          go_wp2_with fail
          refine (one_at E2.out _).mono ?_
          rintro e w3 ⟨rfl, hb⟩
          have HB3 : Hid (Below _ _ w3) := hb
          clear hb
          go_wp2_with fail
          refine (one_spec_at E2.out _).mono ?_
          rintro e w' ⟨rfl, hw⟩
          subst w'
          go_wp2_with (first | (go_at_call 11; refine (numOk_impl _ _).mono ?_; rintro e w' ⟨rfl, hw⟩; subst w') | (go_at_call 12; refine (neu_at E3.out _).mono ?_; rintro e w' ⟨rfl, hw⟩; subst w'))
          all_goals
            first
              | exact absurd (by assumption : c = 1) (by simpa using c1)
              | (go_ret; exact ⟨rfl, bTrans (bTrans HB1.out HB2.out) HB3.out⟩)
        · go_wp2_with fail
          refine (two_at E1.out _).mono ?_
          rintro e w2 ⟨rfl, hb⟩
          have HB2 : Hid (Below _ _ w2) := hb
          clear hb
          go_wp2_with fail
          refine (two_spec_at E1.out _).mono ?_
          rintro e w' ⟨rfl, hw⟩
          subst w'
          go_wp2_with fail
          refine (one_at E2.out _).mono ?_
          rintro e w3 ⟨rfl, hb⟩
          have HB3 : Hid (Below _ _ w3) := hb
          clear hb
          go_wp2_with fail
          refine (one_spec_at E2.out _).mono ?_
          rintro e w' ⟨rfl, hw⟩
          subst w'
          go_wp2_with (first | (go_at_call 11; refine (numOk_impl _ _).mono ?_; rintro e w' ⟨rfl, hw⟩; subst w') | (go_at_call 12; refine (neu_at E3.out _).mono ?_; rintro e w' ⟨rfl, hw⟩; subst w'))
          all_goals
            first
              | exact absurd (by assumption : c = 1) (by simpa using c1)
              | (go_ret; exact ⟨rfl, bTrans (bTrans HB1.out HB2.out) HB3.out⟩)

/-! ### THE ROW's STEP: WRITTEN OUT: LEAVE IT -/
set_option maxRecDepth 100000 in
theorem lifted (os : Os) (started : os.Started) (H : Type) (enc : TypeId × Value → H) :
    ReturnsInHanded {} Try.checked os 3 .any (Rows.fnNumsSpec.pre6 enc Try.prog Try.f3 Rows.fnNumsRow.domain false) (Rows.fnNumsSpec.post enc Try.prog Try.f3 false true false false) := by
  refine returnsInHanded_of_change (C := Try.checked) own started (by kernel_rfl) Try.func3
    (ChangeSpec.witness6 (enc := enc) (C := Try.checked) false ⟨#[], #[.slice none 0 0], []⟩ 8 (by kernel_rfl) (by kernel_rfl) (by kernel_rfl) (by kernel_rfl)) ?_
  intro W base args ds gs before hval0 hW hcnd _
  have hval : ∀ (j : Nat) t v, Try.f3.params[j]? = some t → args[j]? = some v → Value.okWide Try.prog W .any base t v := hval0
  have hW' := hW
  obtain ⟨p, q, hA0, hV, rfl, hfz, hnd⟩ := hW
  have hA : DataW.TrodAll enc Try.prog W 0 (fun _ => true) true Try.f3.params.toList args.toList ds p := hA0
  rw [Try.params3] at hA hval
  obtain ⟨v0, vs0, d0, ds0, p0, q0, hargs, rfl, rfl, h0, r0⟩ := trodAll_cons hA
  obtain ⟨rfl, rfl, rfl⟩ := trodAll_nil r0
  obtain rfl : args = #[v0] := by cases args; simp_all
  obtain ⟨rfl, rfl⟩ := trodVars_none hV
  obtain ⟨a0, len0, cap0, rfl⟩ := okWide_slice Try.underlying22 (hval 0 22 v0 rfl rfl)
  have k0 := h0
  have lt0 : ∀ x ∈ p0, x.block < W.heap.size := by obtain ⟨m, hm⟩ := k0; exact DataW.trod_lt m _ _ _ hm
  obtain ⟨z0, w0⟩ : ∃ zs, IsRow .u8 W a0 len0 cap0 zs := by
    obtain ⟨fuel, hf⟩ := h0
    rcases open_ints Try.underlying22 Try.underlying5 (by kernel_rfl) hf with ⟨hcs, _⟩ | ⟨x, l, c, zs, hcs, _, hl, hm, hz, _, hcell, hwz⟩
    · simp [Value.cells] at hcs
      obtain ⟨rfl, rfl, rfl⟩ := hcs
      exact ⟨[], .inl ⟨rfl, rfl, rfl, rfl⟩⟩
    · simp [Value.cells] at hcs
      obtain ⟨rfl, rfl, rfl⟩ := hcs
      exact ⟨zs, .inr ⟨_, rfl, hl, hm, by simpa using hz, hcell, hwz⟩⟩
  clear hA0 hval0
  refine (walk a0 len0 cap0 z0 W w0).mono fun e W' ⟨he, bel⟩ => ?_
  subst he
  exact ⟨_, rfl, _, _, _, [], _, [], hW', trodAll_mk1 (shut_bool Try.underlying4 _), (trodAll_cons_mk (Below.trod laidOut (by kernel_rfl) (of_decide_eq_true (by kernel_rfl)) k0 bel lt0) trodAll_mk0), rfl, bel.frame _, fun h => by cases h⟩

theorem over : Rows.fnNumsRow.holds Try.pinned (OpenSpec.ofChange Rows.fnNumsSpec) :=
  OpenClaim.holds_of_wide 3 Try.f3 rfl rfl rfl rfl rfl rfl rfl ⟨rfl, rfl, rfl, rfl, rfl⟩ rfl rfl rfl rfl rfl (by kernel_rfl) Try.func3 (by kernel_rfl)
    (of_decide_eq_true (by kernel_rfl)) (by unfold Func.isWrapper; first | (rw [if_pos (by decide +kernel)]; kernel_rfl) | (rw [if_neg (by decide +kernel)]; exact ⟨rfl, rfl⟩))
    (fun os started H enc _ => lifted os started H enc)

/-- ████ THE STATEMENT ████ -/
theorem proved : Rows.FnNumsSaid := over
end Go.Proofs.Ytidhfgncebaphab.fnNums
namespace Go.Proofs.Ytidhfgncebaphab
theorem fnNums_holds : Rows.FnNumsSaid := fnNums.proved
#print axioms fnNums_holds
end Go.Proofs.Ytidhfgncebaphab
