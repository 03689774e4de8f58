/-
  Proved: the law FnExactVarsNew returns true (the program's VarsNew answers as the specification's, 26 letters that are not set, in memory of its own, behind another call too). It takes nothing. No condition.
-/
import Derived.Test.YtmlncpplkhlnfaaRows
import Derived.WalkKit
import Derived.ProofKit
import Derived.OpenShut
import Derived.ShutString
import Derived.Test.YtmlncpplkhlnfaaVarsN
import Derived.Test.YtmlncpplkhlnfaaFrame
namespace Go.Proofs.Ytmlncpplkhlnfaa.fnExactVarsNew
open Go.ChangeShapes Go.WideShapes Go.ChangeAt Go.RowKit
open Go.ChangeMaps (open_string shut_string)
set_option linter.unusedVariables false
set_option linter.unusedSimpArgs false
set_option linter.unusedVariables false      -- a walk need not use every 'w<i>' (that an integer argument fits its kind)

theorem own : ownKnob Try.prog.godebug = none := by kernel_rfl

/-! ### STEP 1: THE WALK: the Go text returns true. 'Grown w w'': the world has at most new blocks (Derived/RowKit3.lean). Part the cases AHEAD of 'go_enter' where a test parts the walk; take each callee by a contract of your own. -/
theorem walk  (w : World) :
    Calls Try.prog 4 #[] w fun e w' => e = .returned (.bool true) ∧ Below w.heap.size w w' := by
  go_enter Try.func4, Try.ntmps4
  go_wp2_with fail
  refine (varsNew_spec _).mono ?_
  rintro r w1 ⟨o1, rfl, hv, ho, hb⟩
  have V1 : Hid (VarB w1 o1 (fun _ => false)) := hv
  have T1 : Hid (Below w.heap.size w w1) := hb
  have L1 : Hid (w.heap.size ≤ o1) := ho
  clear hv ho hb
  go_wp2_with fail
  refine (varsNew_impl _).mono ?_
  rintro r w2 ⟨o2, rfl, hv, ho, hb⟩
  have V2 : Hid (VarB w2 o1 (fun _ => false)) := V1.out.keep hb
  have U2 : Hid (VarB w2 o2 (fun _ => false)) := hv
  have T2 : Hid (Below w.heap.size w w2) := bTrans T1.out hb
  have L2 : Hid (o1 < o2) := by have := V1.out.lt; show _ < _; omega
  clear hv ho hb V1
  go_wp2_with fail
  refine (eqVarS_none U2.out V2.out).mono ?_
  rintro r w3 ⟨rfl, hb⟩
  have V3 : Hid (VarB w3 o1 (fun _ => false)) := V2.out.keep hb
  have U3 : Hid (VarB w3 o2 (fun _ => false)) := U2.out.keep hb
  have T3 : Hid (Below w.heap.size w w3) := bTrans T2.out hb
  clear hb V2 U2
  go_wp2_with fail
  refine (mark_vars U3.out).mono ?_
  rintro r w4 ⟨rfl, hv, hw⟩
  have U4 : Hid (VarB w4 o2 (markedB 26)) := hv
  have V4 : Hid (VarB w4 o1 (fun _ => false)) := by
    obtain ⟨A, h1, h2⟩ := V3.out
    exact ⟨A, by rw [hw.block o1 V3.out.lt (.inl L2.out)]; exact h1, h2⟩
  have T4 : Hid (Below w.heap.size w w4) := T3.out.trans (hw.below (A := w.heap.size) (by have := L1.out; have := L2.out; omega) T3.out.size)
  clear hv hw U3 V3
  go_wp2_with fail
  refine (held_vars U4.out).mono ?_
  rintro r w5 ⟨rfl, hw⟩
  subst w5
  go_wp2_with fail
  refine (varsNew_impl _).mono ?_
  rintro r w6 ⟨o3, rfl, hv, ho, hb⟩
  have V6 : Hid (VarB w6 o1 (fun _ => false)) := V4.out.keep hb
  have U6 : Hid (VarB w6 o2 (markedB 26)) := U4.out.keep hb
  have N6 : Hid (VarB w6 o3 (fun _ => false)) := hv
  have T6 : Hid (Below w.heap.size w w6) := bTrans T4.out hb
  clear hv ho hb V4 U4
  go_wp2_with fail
  refine (eqVarS_none N6.out V6.out).mono ?_
  rintro r w7 ⟨rfl, hb⟩
  have U7 : Hid (VarB w7 o2 (markedB 26)) := U6.out.keep hb
  have T7 : Hid (Below w.heap.size w w7) := bTrans T6.out hb
  clear hb V6 U6 N6
  go_wp2_with fail
  refine (held_vars U7.out).mono ?_
  rintro r w8 ⟨rfl, hw⟩
  subst w8
  go_wp2
  go_ret
  exact ⟨rfl, T7.out⟩

/-! ### THE ROW's STEP: WRITTEN OUT: LEAVE IT -/
set_option maxRecDepth 100000 in
theorem lifted (os : Os) (started : os.Started) (H : Type) (enc : TypeId × Value → H) :
    ReturnsInHanded {} Try.checked os 4 .any (Rows.fnExactVarsNewSpec.pre6 enc Try.prog Try.f4 Rows.fnExactVarsNewRow.domain false) (Rows.fnExactVarsNewSpec.post enc Try.prog Try.f4 false true false false) := by
  refine returnsInHanded_of_change (C := Try.checked) own started (by kernel_rfl) Try.func4
    (ChangeSpec.witness6 (enc := enc) (C := Try.checked) false ⟨#[], #[], []⟩ 8 (by kernel_rfl) (by kernel_rfl) (by kernel_rfl) (by kernel_rfl)) ?_
  intro W base args ds gs before hval0 hW hcnd _
  have hval : ∀ (j : Nat) t v, Try.f4.params[j]? = some t → args[j]? = some v → Value.okWide Try.prog W .any base t v := hval0
  have hW' := hW
  obtain ⟨p, q, hA0, hV, rfl, hfz, hnd⟩ := hW
  have hA : DataW.TrodAll enc Try.prog W 0 (fun _ => true) true Try.f4.params.toList args.toList ds p := hA0
  rw [Try.params4] at hA hval
  obtain ⟨rfl, rfl, rfl⟩ := trodAll_none hA
  obtain ⟨rfl, rfl⟩ := trodVars_none hV
  clear hA0 hval0
  simp only [List.append_nil] at hW'
  refine (walk W).mono fun e W' ⟨he, bel⟩ => ?_
  subst he
  exact ⟨_, rfl, _, _, _, [], _, [], hW', trodAll_mk1 (shut_bool Try.underlying4 _), trodAll_mk0, rfl, bel.frame _, fun h => by cases h⟩

theorem over : Rows.fnExactVarsNewRow.holds Try.pinned (OpenSpec.ofChange Rows.fnExactVarsNewSpec) :=
  OpenClaim.holds_of_wide 4 Try.f4 rfl rfl rfl rfl rfl rfl rfl ⟨rfl, rfl, rfl, rfl, rfl⟩ rfl rfl rfl rfl rfl (by kernel_rfl) Try.func4 (by kernel_rfl)
    (of_decide_eq_true (by kernel_rfl)) (by unfold Func.isWrapper; first | (rw [if_pos (by decide +kernel)]; kernel_rfl) | (rw [if_neg (by decide +kernel)]; exact ⟨rfl, rfl⟩))
    (fun os started H enc _ => lifted os started H enc)

/-- ████ THE STATEMENT ████ -/
theorem proved : Rows.FnExactVarsNewSaid :=
  over
end Go.Proofs.Ytmlncpplkhlnfaa.fnExactVarsNew
namespace Go.Proofs.Ytmlncpplkhlnfaa
theorem fnExactVarsNew_holds : Rows.FnExactVarsNewSaid := fnExactVarsNew.proved
#print axioms fnExactVarsNew_holds
end Go.Proofs.Ytmlncpplkhlnfaa
