/-
  Proved: whatever code it is given, the law FnExactCodeDeep returns true (the program's CodeDeep answers as the specification's and writes into no argument), and the code reads as before. No condition.
-/
import Derived.Test.YtnkajokecfalnaaRows
import Derived.WalkKit
import Derived.ProofKit
import Derived.OpenShut
import Derived.ShutString
import Derived.ChangeOld
import Derived.Below
import Derived.Deep.Cut
import Derived.Test.YtnkajokecfalnaaFrame
import Derived.Test.YtnkajokecfalnaaCodeF
import Derived.Test.YtnkajokecfalnaaCodeT
import Derived.Test.YtnkajokecfalnaaCodeU
import Derived.Test.YtnkajokecfalnaaCodeS4
import Derived.Test.YtnkajokecfalnaaCodeI4
namespace Go.Proofs.Ytnkajokecfalnaa.fnExactCodeDeep
open Go.ChangeShapes Go.WideShapes Go.ChangeAt Go.RowKit
open Go.ChangeMaps (open_string shut_string)
set_option linter.unusedVariables false
set_option linter.unusedSimpArgs false

theorem own : ownKnob Try.prog.godebug = none := by kernel_rfl
theorem laidOut : laidOutB Try.prog = true := by kernel_rfl

set_option maxRecDepth 20000 in
set_option maxHeartbeats 8000000 in
/-- The walk: the law returns true, and writes nothing that was there. -/
theorem walk (v0 : Value) (n0 : Nat) (E0 : Nat → Nat → Int) (N0 : Nat → List Int) (w : World) (w0 : InsI w v0 n0 E0 N0) (b0 : n0 ≤ 9223372036854775807) (c0 : ∀ i, (N0 i).length ≤ 9223372036854775807) (z0 : ∀ i, n0 ≤ i → N0 i = []) :
    Calls Try.prog 4 #[v0] w fun e w' => e = .returned (.bool true) ∧ Below w.heap.size w w' := by
  have H : Hid (InsI w v0 n0 E0 N0) := w0
  have ZZ : Hid (∀ i, n0 ≤ i → N0 i = []) := z0
  obtain ⟨a, c, rfl, _⟩ := w0
  go_enter Try.func4, Try.ntmps4
  go_wp2_with fail
  refine (szInstrS_at H.out c0 b0).mono ?_
  rintro r w1 ⟨x, rfl, _, hx, hb⟩
  have T1 : Hid (Below w.heap.size w w1) := hb
  clear hb
  by_cases h0 : x < 0
  · clear hx
    go_wp2
    go_ret
    exact ⟨rfl, T1.out⟩
  have BN : Hid (n0 ≤ 1048576) := (hx (by omega)).1
  have BL : Hid (∀ i, (N0 i).length ≤ 1048576) := fun i => by
    by_cases hi : i < n0
    · exact (hx (by omega)).2 i hi
    · rw [ZZ.out i (by omega)]; simp
  clear hx c0 b0 z0 ZZ
  go_wp2_with fail
  refine (toInstrS_at (H.out.keep T1.out) BL.out BN.out).mono ?_
  rintro r w2 ⟨u1, rfl, hu, hb⟩
  have U1 : Hid (InsI w2 u1 n0 E0 N0) := hu
  have T2 : Hid (Below w.heap.size w w2) := bTrans T1.out hb
  clear hu hb
  go_wp2_with fail
  refine (deep_spec U1.out BL.out BN.out).mono ?_
  rintro r w3 ⟨rfl, hb⟩
  have T3 : Hid (Below w.heap.size w w3) := bTrans T2.out hb
  clear hb U1
  go_wp2_with fail
  refine (toInstrS_at (H.out.keep T3.out) BL.out BN.out).mono ?_
  rintro r w4 ⟨u2, rfl, hu, hb⟩
  have U2 : Hid (InsI w4 u2 n0 E0 N0) := hu
  have T4 : Hid (Below w.heap.size w w4) := bTrans T3.out hb
  clear hu hb
  go_wp2_with fail
  refine (deep_impl U2.out BL.out BN.out).mono ?_
  rintro r w5 ⟨rfl, hb⟩
  have U5 : Hid (InsI w5 u2 n0 E0 N0) := U2.out.keep hb
  have T5 : Hid (Below w.heap.size w w5) := bTrans T4.out hb
  clear hb U2
  have hqq : (deepV n0 E0 N0 != deepV n0 E0 N0) = false := by simp
  generalize deepV n0 E0 N0 = Q at *
  go_wp2_with fail
  refine (toInstrS_at (H.out.keep T5.out) BL.out BN.out).mono ?_
  rintro r w6 ⟨u3, rfl, hu, hb⟩
  have U3 : Hid (InsI w6 u3 n0 E0 N0) := hu
  have U6 : Hid (InsI w6 u2 n0 E0 N0) := U5.out.keep hb
  have T6 : Hid (Below w.heap.size w w6) := bTrans T5.out hb
  clear hu hb U5
  go_wp2_with fail
  refine (eqInstrS_same U6.out U3.out BL.out BN.out).mono ?_
  rintro r w7 ⟨rfl, hb⟩
  have T7 : Hid (Below w.heap.size w w7) := bTrans T6.out hb
  clear hb
  go_wp2
  go_ret
  exact ⟨rfl, T7.out⟩

set_option maxRecDepth 100000 in
theorem lifted (os : Os) (started : os.Started) (H : Type) (enc : TypeId × Value → H) :
    ReturnsInHanded {} Try.checked os 4 .any (Rows.fnExactCodeDeepSpec.pre6 enc Try.prog Try.f4 Rows.fnExactCodeDeepRow.domain false) (Rows.fnExactCodeDeepSpec.post enc Try.prog Try.f4 false true false false) := by
  refine returnsInHanded_of_change (C := Try.checked) own started (by kernel_rfl) Try.func4
    (ChangeSpec.witness6 (enc := enc) (C := Try.checked) false ⟨#[], #[.slice none 0 0], []⟩ 8 (by kernel_rfl) (by kernel_rfl) (by kernel_rfl) (by kernel_rfl)) ?_
  intro W base args ds gs before hval0 hW hcnd _
  have hval : ∀ (j : Nat) t v, Try.f4.params[j]? = some t → args[j]? = some v → Value.okWide Try.prog W .any base t v := hval0
  have hW' := hW
  obtain ⟨p, q, hA0, hV, rfl, hfz, hnd⟩ := hW
  have hA : DataW.TrodAll enc Try.prog W 0 (fun _ => true) true Try.f4.params.toList args.toList ds p := hA0
  rw [Try.params4] at hA hval
  obtain ⟨v0, vs0, e0, es0, p0, q0, hargs, rfl, rfl, h0, r0⟩ := trodAll_cons hA
  obtain ⟨rfl, rfl, rfl⟩ := trodAll_nil r0
  obtain rfl : args = #[v0] := by cases args; simp_all
  obtain ⟨rfl, rfl⟩ := trodVars_none hV
  have k0 := h0
  have lt0 : ∀ x ∈ p0, x.block < W.heap.size := by obtain ⟨m, hm⟩ := k0; exact DataW.trod_lt m _ _ _ hm
  obtain ⟨x0, len0, cap0, rfl⟩ := okWide_slice Try.underlying22 (hval 0 22 v0 rfl rfl)
  obtain ⟨n0, E0, N0, w0, b0, c0, z0⟩ := (by obtain ⟨fuel, hf⟩ := h0; exact cell_instrs hf : ∃ (n : Nat) (E : Nat → Nat → Int) (N : Nat → List Int), InsI W (.slice x0 len0 cap0) n E N ∧ n ≤ 9223372036854775807 ∧ (∀ i, (N i).length ≤ 9223372036854775807) ∧ ∀ i, n ≤ i → N i = [])
  clear hA0 hval0
  refine (walk _ n0 E0 N0 W w0 b0 c0 z0).mono fun e W' ⟨he, bel⟩ => ?_
  subst he
  exact ⟨_, rfl, _, _, _, [], _, [], hW', trodAll_mk1 (shut_bool Try.underlying4 _), (trodAll_cons_mk (Below.trod laidOut (by kernel_rfl) (of_decide_eq_true (by kernel_rfl)) k0 bel lt0) trodAll_mk0), rfl, bel.frame _, fun h => by cases h⟩

theorem over : Rows.fnExactCodeDeepRow.holds Try.pinned (OpenSpec.ofChange Rows.fnExactCodeDeepSpec) :=
  OpenClaim.holds_of_wide 4 Try.f4 rfl rfl rfl rfl rfl rfl rfl ⟨rfl, rfl, rfl, rfl, rfl⟩ rfl rfl rfl rfl rfl (by kernel_rfl) Try.func4 (by kernel_rfl)
    (of_decide_eq_true (by kernel_rfl)) (by unfold Func.isWrapper; first | (rw [if_pos (by decide +kernel)]; kernel_rfl) | (rw [if_neg (by decide +kernel)]; exact ⟨rfl, rfl⟩))
    (fun os started H enc _ => lifted os started H enc)

/-- The statement. -/
theorem proved : Rows.FnExactCodeDeepSaid := over
end Go.Proofs.Ytnkajokecfalnaa.fnExactCodeDeep
namespace Go.Proofs.Ytnkajokecfalnaa
theorem fnExactCodeDeep_holds : Rows.FnExactCodeDeepSaid := fnExactCodeDeep.proved
#print axioms fnExactCodeDeep_holds
end Go.Proofs.Ytnkajokecfalnaa
