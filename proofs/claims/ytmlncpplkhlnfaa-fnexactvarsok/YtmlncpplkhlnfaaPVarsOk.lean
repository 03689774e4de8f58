/-
  Proved: whatever list of letters it is given, the law FnExactVarsOk returns true (the program's VarsOk answers as the specification's and writes into no argument), and the list reads as before. No condition.
-/
import Derived.Test.YtmlncpplkhlnfaaRows
import Derived.WalkKit
import Derived.ProofKit
import Derived.OpenShut
import Derived.ShutString
import Derived.ChangeOld
import Derived.Below
import Derived.Deep.Cut
import Derived.Test.YtmlncpplkhlnfaaFrame
import Derived.Test.YtmlncpplkhlnfaaVarsF
import Derived.Test.YtmlncpplkhlnfaaVarsR
import Derived.Test.YtmlncpplkhlnfaaVarsT
import Derived.Test.YtmlncpplkhlnfaaVarsU
namespace Go.Proofs.Ytmlncpplkhlnfaa.fnExactVarsOk
open Go.ChangeShapes Go.WideShapes Go.ChangeAt Go.RowKit
open Go.ChangeMaps (open_string shut_string)
set_option linter.unusedVariables false
set_option linter.unusedSimpArgs false

theorem own : ownKnob Try.prog.godebug = none := by kernel_rfl
theorem laidOut : laidOutB Try.prog = true := by kernel_rfl

set_option maxRecDepth 20000 in
set_option maxHeartbeats 8000000 in
/-- The walk: the law returns true, and writes nothing that was there. -/
theorem walk (v0 : Value) (n0 : Nat) (B0 : Nat → Bool) (S0 D0 : Nat → List Int) (w : World) (w0 : VarsI w v0 n0 B0 S0 D0) (b0 : n0 ≤ 9223372036854775807) (c0 : ∀ i, (S0 i).length ≤ 9223372036854775807 ∧ (D0 i).length ≤ 9223372036854775807) (z0 : ∀ i, n0 ≤ i → S0 i = [] ∧ D0 i = []) :
    Calls Try.prog 3 #[v0] w fun e w' => e = .returned (.bool true) ∧ Below w.heap.size w w' := by
  have H : Hid (VarsI w v0 n0 B0 S0 D0) := w0
  have ZZ : Hid (∀ i, n0 ≤ i → S0 i = [] ∧ D0 i = []) := z0
  obtain ⟨a, c, rfl, _⟩ := w0
  go_enter Try.func3, Try.ntmps3
  go_wp2_with fail
  refine (sz_vars H.out c0 b0).mono ?_
  rintro r w1 ⟨x, rfl, hx, hb⟩
  have T1 : Hid (Below w.heap.size w w1) := hb
  clear hb
  by_cases h0 : x < 0
  · clear hx
    go_wp2
    go_ret
    exact ⟨rfl, T1.out⟩
  have BN : Hid (n0 ≤ 1048576) := (hx (by omega)).1
  have BL : Hid (∀ i, (S0 i).length ≤ 1048576 ∧ (D0 i).length ≤ 1048576) := fun i => by
    by_cases hi : i < n0
    · exact (hx (by omega)).2 i hi
    · rw [(ZZ.out i (by omega)).1, (ZZ.out i (by omega)).2]; simp
  clear hx c0 b0 z0 ZZ
  go_wp2_with fail
  refine (to_vars (H.out.keep T1.out) BL.out BN.out).mono ?_
  rintro r w2 ⟨u1, rfl, hu, hb⟩
  have U1 : Hid (VarsI w2 u1 n0 B0 S0 D0) := hu
  have T2 : Hid (Below w.heap.size w w2) := bTrans T1.out hb
  clear hu hb
  go_wp2_with fail
  refine (varsOk_spec U1.out BL.out BN.out).mono ?_
  rintro r w3 ⟨rfl, hb⟩
  have T3 : Hid (Below w.heap.size w w3) := bTrans T2.out hb
  clear hb U1
  go_wp2_with fail
  refine (to_vars (H.out.keep T3.out) BL.out BN.out).mono ?_
  rintro r w4 ⟨u2, rfl, hu, hb⟩
  have U2 : Hid (VarsI w4 u2 n0 B0 S0 D0) := hu
  have T4 : Hid (Below w.heap.size w w4) := bTrans T3.out hb
  clear hu hb
  go_wp2_with fail
  refine (varsOk_impl U2.out BL.out BN.out).mono ?_
  rintro r w5 ⟨rfl, hb⟩
  have U5 : Hid (VarsI w5 u2 n0 B0 S0 D0) := U2.out.keep hb
  have T5 : Hid (Below w.heap.size w w5) := bTrans T4.out hb
  clear hb U2
  have hqq : (varsB n0 B0 S0 D0 != varsB n0 B0 S0 D0) = false := by simp
  generalize varsB n0 B0 S0 D0 = Q at *
  go_wp2_with fail
  refine (to_vars (H.out.keep T5.out) BL.out BN.out).mono ?_
  rintro r w6 ⟨u3, rfl, hu, hb⟩
  have U3 : Hid (VarsI w6 u3 n0 B0 S0 D0) := hu
  have U6 : Hid (VarsI w6 u2 n0 B0 S0 D0) := U5.out.keep hb
  have T6 : Hid (Below w.heap.size w w6) := bTrans T5.out hb
  clear hu hb U5
  go_wp2_with fail
  refine (eqVarS_same U6.out U3.out BL.out BN.out).mono ?_
  rintro r w7 ⟨rfl, hb⟩
  have T7 : Hid (Below w.heap.size w w7) := bTrans T6.out hb
  clear hb
  go_wp2
  go_ret
  exact ⟨rfl, T7.out⟩

set_option maxRecDepth 100000 in
theorem lifted (os : Os) (started : os.Started) (H : Type) (enc : TypeId × Value → H) :
    ReturnsInHanded {} Try.checked os 3 .any (Rows.fnExactVarsOkSpec.pre6 enc Try.prog Try.f3 Rows.fnExactVarsOkRow.domain false) (Rows.fnExactVarsOkSpec.post enc Try.prog Try.f3 false true false false) := by
  refine returnsInHanded_of_change (C := Try.checked) own started (by kernel_rfl) Try.func3
    (ChangeSpec.witness6 (enc := enc) (C := Try.checked) false ⟨#[], #[.slice none 0 0], []⟩ 8 (by kernel_rfl) (by kernel_rfl) (by kernel_rfl) (by kernel_rfl)) ?_
  intro W base args ds gs before hval0 hW hcnd _
  have hval : ∀ (j : Nat) t v, Try.f3.params[j]? = some t → args[j]? = some v → Value.okWide Try.prog W .any base t v := hval0
  have hW' := hW
  obtain ⟨p, q, hA0, hV, rfl, hfz, hnd⟩ := hW
  have hA : DataW.TrodAll enc Try.prog W 0 (fun _ => true) true Try.f3.params.toList args.toList ds p := hA0
  rw [Try.params3] at hA hval
  obtain ⟨v0, vs0, e0, es0, p0, q0, hargs, rfl, rfl, h0, r0⟩ := trodAll_cons hA
  obtain ⟨rfl, rfl, rfl⟩ := trodAll_nil r0
  obtain rfl : args = #[v0] := by cases args; simp_all
  obtain ⟨rfl, rfl⟩ := trodVars_none hV
  have k0 := h0
  have lt0 : ∀ x ∈ p0, x.block < W.heap.size := by obtain ⟨m, hm⟩ := k0; exact DataW.trod_lt m _ _ _ hm
  obtain ⟨x0, len0, cap0, rfl⟩ := okWide_slice Try.underlying22 (hval 0 22 v0 rfl rfl)
  obtain ⟨n0, B0, S0, D0, w0, b0, c0, z0⟩ := (by obtain ⟨fuel, hf⟩ := h0; exact cell_vars hf : ∃ (n : Nat) (B : Nat → Bool) (S D : Nat → List Int), VarsI W (.slice x0 len0 cap0) n B S D ∧ n ≤ 9223372036854775807 ∧ (∀ i, (S i).length ≤ 9223372036854775807 ∧ (D i).length ≤ 9223372036854775807) ∧ ∀ i, n ≤ i → S i = [] ∧ D i = [])
  clear hA0 hval0
  refine (walk _ n0 B0 S0 D0 W w0 b0 c0 z0).mono fun e W' ⟨he, bel⟩ => ?_
  subst he
  exact ⟨_, rfl, _, _, _, [], _, [], hW', trodAll_mk1 (shut_bool Try.underlying4 _), (trodAll_cons_mk (Below.trod laidOut (by kernel_rfl) (of_decide_eq_true (by kernel_rfl)) k0 bel lt0) trodAll_mk0), rfl, bel.frame _, fun h => by cases h⟩

theorem over : Rows.fnExactVarsOkRow.holds Try.pinned (OpenSpec.ofChange Rows.fnExactVarsOkSpec) :=
  OpenClaim.holds_of_wide 3 Try.f3 rfl rfl rfl rfl rfl rfl rfl ⟨rfl, rfl, rfl, rfl, rfl⟩ rfl rfl rfl rfl rfl (by kernel_rfl) Try.func3 (by kernel_rfl)
    (of_decide_eq_true (by kernel_rfl)) (by unfold Func.isWrapper; first | (rw [if_pos (by decide +kernel)]; kernel_rfl) | (rw [if_neg (by decide +kernel)]; exact ⟨rfl, rfl⟩))
    (fun os started H enc _ => lifted os started H enc)

/-- The statement. -/
theorem proved : Rows.FnExactVarsOkSaid := over
end Go.Proofs.Ytmlncpplkhlnfaa.fnExactVarsOk
namespace Go.Proofs.Ytmlncpplkhlnfaa
theorem fnExactVarsOk_holds : Rows.FnExactVarsOkSaid := fnExactVarsOk.proved
#print axioms fnExactVarsOk_holds
end Go.Proofs.Ytmlncpplkhlnfaa
