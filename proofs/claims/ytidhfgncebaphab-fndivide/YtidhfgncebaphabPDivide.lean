/-
  Proved: whatever bytes the numbers are drawn from, the law FnDivide returns true (a number is its quotient times the other one, and what is left over, which has that one's sign and is less), and the bytes read as before. No condition.
-/
import Derived.Test.YtidhfgncebaphabRows
import Derived.WalkKit
import Derived.ProofKit
import Derived.OpenShut
import Derived.ShutString
import Derived.ChangeOld
import Derived.Below
import Derived.Test.YtidhfgncebaphabAt
namespace Go.Proofs.Ytidhfgncebaphab.fnDivide
open Go.ChangeShapes Go.WideShapes Go.ChangeAt Go.RowKit
open Go.ChangeMaps (open_string shut_string)
set_option linter.unusedVariables false

theorem own : ownKnob Try.prog.godebug = none := by kernel_rfl
theorem laidOut : laidOutB Try.prog = true := by kernel_rfl

/-! ### STEP 1: THE WALK: the Go text returns true, AND WRITES NOTHING THAT WAS THERE: 'Below w.heap.size w w'' (Derived/Below.lean: '.refl', '.alloc', '.drew', '.setCell' at a new block, '.trans'). Open each 'IsRow' by 'rcases' AHEAD of 'go_enter'; part every test ahead of the walk. -/
set_option maxRecDepth 20000 in
set_option maxHeartbeats 4000000 in
theorem walk (a0 : Option Addr) (len0 cap0 : Nat) (z0 : List Int) (w : World) (w0 : IsRow .u8 w a0 len0 cap0 z0) :
    Calls Try.prog 4 #[.slice a0 len0 cap0] w fun e w' => e = .returned (.bool true) ∧ Below w.heap.size w w' := by
  have HS : Hid (Src w.heap.size w a0 len0) := src_of_row w0
  clear w0
  by_cases hbig : (1048576 : Int) < (len0 : Int)
  · go_enter Try.func4, Try.ntmps4
    go_wp2_with (go_at_call 5; refine (big_laws _ _ _ _).mono ?_; rintro e w' ⟨rfl, hw⟩; subst w')
    go_ret
    exact ⟨rfl, Below.refl _ _⟩
  · have hl : len0 ≤ 1048576 := by omega
    have hd : decide ((1048576 : Int) < (len0 : Int)) = false := by simpa using hbig
    clear hbig
    go_enter Try.func4, Try.ntmps4
    go_wp2_with (go_at_call 5; refine (big_laws _ _ _ _).mono ?_; rintro e w' ⟨rfl, hw⟩; subst w')
    refine (drawTwo_spec HS.out hl).mono ?_
    rintro e w1 ⟨s, a, b, rfl, hb⟩
    have HB1 : Hid (Below w.heap.size w w1) := hb
    clear hb HS
    by_cases ka : ok a = true
    · by_cases kb : ok b = true
      · obtain ⟨a1, a2⟩ := ok_bd ka
        obtain ⟨b1, b2⟩ := ok_bd kb
        by_cases b0 : b = 0
        · subst b0
          have E1 : Hid (twoV 37 a 0 = (0, 2)) := twoV_37n ka kb rfl
          have E2 : Hid (twoV 124 0 a = (a, 0)) := (twoV_124 kb ka).trans (by rw [if_pos rfl, (lim_yes ka).1, (lim_yes ka).2])
          go_wp2_with fail
          refine (two_at E1.out _).mono ?_
          rintro e w2 ⟨rfl, hb⟩
          have HB2 : Hid (Below _ _ w2) := hb
          clear hb
          go_wp2_with fail
          refine (two_at E2.out _).mono ?_
          rintro e w3 ⟨rfl, hb⟩
          have HB3 : Hid (Below _ _ w3) := hb
          clear hb
          go_wp2_with fail
          refine (two_spec_at E1.out _).mono ?_
          rintro e w' ⟨rfl, hw⟩
          subst w'
          go_wp2_with (go_at_call 11; refine (numOk_impl _ _).mono ?_; rintro e w' ⟨rfl, hw⟩; subst w')
          go_ret
          exact ⟨rfl, bTrans (bTrans HB1.out HB2.out) HB3.out⟩
        · have b0' : (b == 0) = false := by simpa using b0
          have fb := flo_bd (b := b) a1 a2
          have rb := rst_bd (a := a) b0 b1 b2
          have kf := ok_mk fb.1 fb.2
          have kr := ok_mk rb.1 rb.2
          have E1 : Hid (twoV 37 a b = (flo a b, 0)) := (twoV_37 ka kb b0).trans (by rw [(lim_yes kf).1, (lim_yes kf).2])
          have E2 : Hid (twoV 124 b a = (rst a b, 0)) := (twoV_124 kb ka).trans (by rw [if_neg b0, (lim_yes kr).1, (lim_yes kr).2])
          have hq : Hid (flo a b * b + rst a b = a) := div_eq a b
          have p1 : -2000000000000 ≤ flo a b * b := by have := hq.out; omega
          have p2 : flo a b * b ≤ 2000000000000 := by have := hq.out; omega
          have p3 : (a == flo a b * b + rst a b) = true := by rw [hq.out]; simp
          obtain ⟨f1, f2⟩ := fb
          clear kf kr
          by_cases bp : 0 < b
          · obtain ⟨r1, r2⟩ := rst_pos a bp
            go_wp2_with fail
            refine (two_at E1.out _).mono ?_
            rintro e w2 ⟨rfl, hb⟩
            have HB2 : Hid (Below _ _ w2) := hb
            clear hb
            go_wp2_with fail
            refine (two_at E2.out _).mono ?_
            rintro e w3 ⟨rfl, hb⟩
            have HB3 : Hid (Below _ _ w3) := hb
            clear hb
            go_wp2_with fail
            refine (two_spec_at E1.out _).mono ?_
            rintro e w' ⟨rfl, hw⟩
            subst w'
            go_wp2_with (go_at_call 11; refine (numOk_impl _ _).mono ?_; rintro e w' ⟨rfl, hw⟩; subst w')
            go_ret
            exact ⟨rfl, bTrans (bTrans HB1.out HB2.out) HB3.out⟩
          · have bn : b < 0 := by omega
            obtain ⟨r1, r2⟩ := rst_neg a bn
            clear bp
            go_wp2_with fail
            refine (two_at E1.out _).mono ?_
            rintro e w2 ⟨rfl, hb⟩
            have HB2 : Hid (Below _ _ w2) := hb
            clear hb
            go_wp2_with fail
            refine (two_at E2.out _).mono ?_
            rintro e w3 ⟨rfl, hb⟩
            have HB3 : Hid (Below _ _ w3) := hb
            clear hb
            go_wp2_with fail
            refine (two_spec_at E1.out _).mono ?_
            rintro e w' ⟨rfl, hw⟩
            subst w'
            go_wp2_with (go_at_call 11; refine (numOk_impl _ _).mono ?_; rintro e w' ⟨rfl, hw⟩; subst w')
            go_ret
            exact ⟨rfl, bTrans (bTrans HB1.out HB2.out) HB3.out⟩
      · have kb : ok b = false := by simpa using kb
        have E1 : Hid (twoV 37 a b = (0, 1)) := twoV_bad (.inr kb)
        have E2 : Hid (twoV 124 b a = (0, 1)) := twoV_bad (.inl kb)
        go_wp2_with fail
        refine (two_at E1.out _).mono ?_
        rintro e w2 ⟨rfl, hb⟩
        have HB2 : Hid (Below _ _ w2) := hb
        clear hb
        go_wp2_with fail
        refine (two_at E2.out _).mono ?_
        rintro e w3 ⟨rfl, hb⟩
        have HB3 : Hid (Below _ _ w3) := hb
        clear hb
        go_wp2_with fail
        refine (two_spec_at E1.out _).mono ?_
        rintro e w' ⟨rfl, hw⟩
        subst w'
        go_wp2_with (go_at_call 11; refine (numOk_impl _ _).mono ?_; rintro e w' ⟨rfl, hw⟩; subst w')
        go_ret
        exact ⟨rfl, bTrans (bTrans HB1.out HB2.out) HB3.out⟩
    · have ka : ok a = false := by simpa using ka
      have E1 : Hid (twoV 37 a b = (0, 1)) := twoV_bad (.inl ka)
      have E2 : Hid (twoV 124 b a = (0, 1)) := twoV_bad (.inr ka)
      go_wp2_with fail
      refine (two_at E1.out _).mono ?_
      rintro e w2 ⟨rfl, hb⟩
      have HB2 : Hid (Below _ _ w2) := hb
      clear hb
      go_wp2_with fail
      refine (two_at E2.out _).mono ?_
      rintro e w3 ⟨rfl, hb⟩
      have HB3 : Hid (Below _ _ w3) := hb
      clear hb
      go_wp2_with fail
      refine (two_spec_at E1.out _).mono ?_
      rintro e w' ⟨rfl, hw⟩
      subst w'
      go_wp2_with (go_at_call 11; refine (numOk_impl _ _).mono ?_; rintro e w' ⟨rfl, hw⟩; subst w')
      go_ret
      exact ⟨rfl, bTrans (bTrans HB1.out HB2.out) HB3.out⟩

/-! ### THE ROW's STEP: WRITTEN OUT: LEAVE IT -/
set_option maxRecDepth 100000 in
theorem lifted (os : Os) (started : os.Started) (H : Type) (enc : TypeId × Value → H) :
    ReturnsInHanded {} Try.checked os 4 .any (Rows.fnDivideSpec.pre6 enc Try.prog Try.f4 Rows.fnDivideRow.domain false) (Rows.fnDivideSpec.post enc Try.prog Try.f4 false true false false) := by
  refine returnsInHanded_of_change (C := Try.checked) own started (by kernel_rfl) Try.func4
    (ChangeSpec.witness6 (enc := enc) (C := Try.checked) false ⟨#[], #[.slice none 0 0], []⟩ 8 (by kernel_rfl) (by kernel_rfl) (by kernel_rfl) (by kernel_rfl)) ?_
  intro W base args ds gs before hval0 hW hcnd _
  have hval : ∀ (j : Nat) t v, Try.f4.params[j]? = some t → args[j]? = some v → Value.okWide Try.prog W .any base t v := hval0
  have hW' := hW
  obtain ⟨p, q, hA0, hV, rfl, hfz, hnd⟩ := hW
  have hA : DataW.TrodAll enc Try.prog W 0 (fun _ => true) true Try.f4.params.toList args.toList ds p := hA0
  rw [Try.params4] at hA hval
  obtain ⟨v0, vs0, d0, ds0, p0, q0, hargs, rfl, rfl, h0, r0⟩ := trodAll_cons hA
  obtain ⟨rfl, rfl, rfl⟩ := trodAll_nil r0
  obtain rfl : args = #[v0] := by cases args; simp_all
  obtain ⟨rfl, rfl⟩ := trodVars_none hV
  obtain ⟨a0, len0, cap0, rfl⟩ := okWide_slice Try.underlying22 (hval 0 22 v0 rfl rfl)
  have k0 := h0
  have lt0 : ∀ x ∈ p0, x.block < W.heap.size := by obtain ⟨m, hm⟩ := k0; exact DataW.trod_lt m _ _ _ hm
  obtain ⟨z0, w0⟩ : ∃ zs, IsRow .u8 W a0 len0 cap0 zs := by
    obtain ⟨fuel, hf⟩ := h0
    rcases open_ints Try.underlying22 Try.underlying5 (by kernel_rfl) hf with ⟨hcs, _⟩ | ⟨x, l, c, zs, hcs, _, hl, hm, hz, _, hcell, hwz⟩
    · simp [Value.cells] at hcs
      obtain ⟨rfl, rfl, rfl⟩ := hcs
      exact ⟨[], .inl ⟨rfl, rfl, rfl, rfl⟩⟩
    · simp [Value.cells] at hcs
      obtain ⟨rfl, rfl, rfl⟩ := hcs
      exact ⟨zs, .inr ⟨_, rfl, hl, hm, by simpa using hz, hcell, hwz⟩⟩
  clear hA0 hval0
  refine (walk a0 len0 cap0 z0 W w0).mono fun e W' ⟨he, bel⟩ => ?_
  subst he
  exact ⟨_, rfl, _, _, _, [], _, [], hW', trodAll_mk1 (shut_bool Try.underlying4 _), (trodAll_cons_mk (Below.trod laidOut (by kernel_rfl) (of_decide_eq_true (by kernel_rfl)) k0 bel lt0) trodAll_mk0), rfl, bel.frame _, fun h => by cases h⟩

theorem over : Rows.fnDivideRow.holds Try.pinned (OpenSpec.ofChange Rows.fnDivideSpec) :=
  OpenClaim.holds_of_wide 4 Try.f4 rfl rfl rfl rfl rfl rfl rfl ⟨rfl, rfl, rfl, rfl, rfl⟩ rfl rfl rfl rfl rfl (by kernel_rfl) Try.func4 (by kernel_rfl)
    (of_decide_eq_true (by kernel_rfl)) (by unfold Func.isWrapper; first | (rw [if_pos (by decide +kernel)]; kernel_rfl) | (rw [if_neg (by decide +kernel)]; exact ⟨rfl, rfl⟩))
    (fun os started H enc _ => lifted os started H enc)

/-- ████ THE STATEMENT ████ -/
theorem proved : Rows.FnDivideSaid := over
end Go.Proofs.Ytidhfgncebaphab.fnDivide
namespace Go.Proofs.Ytidhfgncebaphab
theorem fnDivide_holds : Rows.FnDivideSaid := fnDivide.proved
#print axioms fnDivide_holds
end Go.Proofs.Ytidhfgncebaphab
