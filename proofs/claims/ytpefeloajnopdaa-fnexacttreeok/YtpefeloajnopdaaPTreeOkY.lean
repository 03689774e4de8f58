/-
  Proved: whatever tree it is given, the law FnExactTreeOk returns true (the program's TreeOk answers as the specification's and writes into no argument), and the tree reads as before. No condition.
-/
import Derived.Test.YtpefeloajnopdaaRows
import Derived.WalkKit
import Derived.ProofKit
import Derived.OpenShut
import Derived.ShutString
import Derived.ChangeOld
import Derived.Below
import Derived.Deep.Cut
import Derived.Test.YtpefeloajnopdaaFrame
import Derived.Test.YtpefeloajnopdaaZ1
import Derived.Test.YtpefeloajnopdaaTreeI2
namespace Go.Proofs.Ytpefeloajnopdaa.fnExactTreeOk
open Go.ChangeShapes Go.WideShapes Go.ChangeAt Go.RowKit
open Go.ChangeMaps (open_string shut_string)
set_option linter.unusedVariables false
set_option linter.unusedSimpArgs false

theorem own : ownKnob Try.prog.godebug = none := by kernel_rfl
theorem laidOut : laidOutB Try.prog = true := by kernel_rfl

set_option maxRecDepth 20000 in
set_option maxHeartbeats 8000000 in
/-- The walk: the law returns true, and writes nothing that was there. -/
theorem walk (v0 : Value) (n0 : Nat) (E0 : Nat → Nat → Int) (N0 : Nat → List Int) (w : World) (w0 : ExprsI w v0 n0 E0 N0) (b0 : n0 ≤ 9223372036854775807) (c0 : ∀ i, (N0 i).length ≤ 9223372036854775807) (z0 : ∀ i, n0 ≤ i → N0 i = []) :
    Calls Try.prog 4 #[.agg #[v0]] w fun e w' => e = .returned (.bool true) ∧ Below w.heap.size w w' := by
  have H : Hid (ExprsI w v0 n0 E0 N0) := w0
  have ZZ : Hid (∀ i, n0 ≤ i → N0 i = []) := z0
  obtain ⟨a, c, rfl, _⟩ := w0
  go_enter Try.func4, Try.ntmps4
  go_wp2_with fail
  have hnb := heap_alloc_new w (.cells #[.slice a n0 c] 24)
  generalize hW : w.alloc (.cells #[.slice a n0 c] 24) = W0
  rw [hW] at hnb
  have T0 : Hid (Below w.heap.size w W0) := by rw [← hW]; exact one_below
  have BX : Hid (∀ W, Below W0.heap.size W0 W → W.cell? ⟨w.heap.size, 0, none⟩ = some (.slice a n0 c)) := fun W hb => (hb.cell (p := ⟨w.heap.size, 0, none⟩) (lt_of_heapA hnb)).trans (cell_at hnb rfl)
  clear hW hnb
  refine (szTree_at (H.out.keep T0.out) c0 b0).mono ?_
  rintro r w1 ⟨x, rfl, _, hx, hb⟩
  have T1 : Hid (Below W0.heap.size W0 w1) := hb
  clear hb
  by_cases h0 : x < 0
  · clear hx
    go_wp2
    go_ret
    exact ⟨rfl, bTrans T0.out T1.out⟩
  have BN : Hid (n0 ≤ 1048576) := (hx (by omega)).1
  have BL : Hid (∀ i, (N0 i).length ≤ 1048576) := fun i => by
    by_cases hi : i < n0
    · exact (hx (by omega)).2 i hi
    · rw [ZZ.out i (by omega)]; simp
  clear hx c0 b0 z0 ZZ
  have p1 := BX.out _ T1.out
  go_wp2_with fail
  refine (toTree_at (H.out.keep (bTrans T0.out T1.out)) BL.out BN.out).mono ?_
  rintro r w2 ⟨a1, k1, rfl, hu, hb⟩
  have U1 : Hid (ExprsI w2 (.slice a1 n0 k1) n0 E0 N0) := hu
  have T2 : Hid (Below W0.heap.size W0 w2) := bTrans T1.out hb
  clear hu hb p1
  go_wp2_with fail
  refine (treeOk_spec U1.out BL.out BN.out).mono ?_
  rintro r w3 ⟨rfl, hb⟩
  have T3 : Hid (Below W0.heap.size W0 w3) := bTrans T2.out hb
  clear hb U1
  have p1 := BX.out _ T3.out
  go_wp2_with fail
  refine (toTree_at (H.out.keep (bTrans T0.out T3.out)) BL.out BN.out).mono ?_
  rintro r w4 ⟨a2, k2, rfl, hu, hb⟩
  have U2 : Hid (ExprsI w4 (.slice a2 n0 k2) n0 E0 N0) := hu
  have T4 : Hid (Below W0.heap.size W0 w4) := bTrans T3.out hb
  clear hu hb p1
  go_wp2_with fail
  have hnx := heap_alloc_new w4 (.cells #[.slice a2 n0 k2] 31)
  generalize hW : w4.alloc (.cells #[.slice a2 n0 k2] 31) = W4
  rw [hW] at hnx
  have A4 : Hid (Below w4.heap.size w4 W4) := by rw [← hW]; exact one_below
  have CX : Hid (∀ W, Below W4.heap.size W4 W → W.cell? ⟨w4.heap.size, 0, none⟩ = some (.slice a2 n0 k2)) := fun W hb => (hb.cell (p := ⟨w4.heap.size, 0, none⟩) (lt_of_heapA hnx)).trans (cell_at hnx rfl)
  clear hW hnx
  have U4 : Hid (ExprsI W4 (.slice a2 n0 k2) n0 E0 N0) := U2.out.keep A4.out
  refine (treeOk_impl U4.out BL.out BN.out).mono ?_
  rintro r w5 ⟨rfl, hb⟩
  have U5 : Hid (ExprsI w5 (.slice a2 n0 k2) n0 E0 N0) := U4.out.keep hb
  have C5 : Hid (Below W4.heap.size W4 w5) := hb
  have T5 : Hid (Below W0.heap.size W0 w5) := bTrans (bTrans T4.out A4.out) hb
  clear hb U2 U4
  have hqq : (treeB n0 E0 N0 != treeB n0 E0 N0) = false := by simp
  generalize treeB n0 E0 N0 = Q at *
  have SK : Hid (∀ W, Below w5.heap.size w5 W → W.cell? ⟨w.heap.size, 0, none⟩ = some (.slice a n0 c) ∧ W.cell? ⟨w4.heap.size, 0, none⟩ = some (.slice a2 n0 k2)) := fun W hb => ⟨BX.out _ (bTrans T5.out hb), CX.out _ (bTrans C5.out hb)⟩
  go_wp2_with fail
  go_region_held3 (fun w' => w'.cell? ⟨w.heap.size, 0, none⟩ = some (.slice a n0 c) ∧ w'.cell? ⟨w4.heap.size, 0, none⟩ = some (.slice a2 n0 k2))
    ((refine SK.out _ ?_; (repeat first | with_reducible exact HB7.out | with_reducible exact HB6.out | with_reducible exact Below.refl _ _ | with_reducible refine Below.drew ?_)))
    (first
      | (go_at_call 7; refine (toTree_at (H.out.keep (bTrans (bTrans T0.out T5.out) ((Below.refl w5.heap.size w5).drew))) BL.out BN.out).mono ?_; rintro r w6 ⟨a3, k3, rfl, hu, hb⟩; have U3 : Hid (ExprsI w6 (.slice a3 n0 k3) n0 E0 N0) := hu; have HB6 : Hid (Below w5.heap.size w5 w6) := bTrans ((Below.refl w5.heap.size w5).drew) hb; clear hu hb)
      | (go_at_call 10; refine (eqTree_same (U5.out.keep HB6.out) U3.out BL.out BN.out).mono ?_; rintro r w7 ⟨rfl, hb⟩; have HB7 : Hid (Below w5.heap.size w5 w7) := bTrans HB6.out hb; clear hb))
  all_goals
    go_wp2
    go_ret
    exact ⟨rfl, bTrans T0.out (bTrans T5.out HB7.out)⟩

set_option maxRecDepth 100000 in
theorem lifted (os : Os) (started : os.Started) (H : Type) (enc : TypeId × Value → H) :
    ReturnsInHanded {} Try.checked os 4 .any (Rows.fnExactTreeOkSpec.pre6 enc Try.prog Try.f4 Rows.fnExactTreeOkRow.domain false) (Rows.fnExactTreeOkSpec.post enc Try.prog Try.f4 false true false false) := by
  refine returnsInHanded_of_change (C := Try.checked) own started (by kernel_rfl) Try.func4
    (ChangeSpec.witness6 (enc := enc) (C := Try.checked) false ⟨#[], #[.agg #[.slice none 0 0]], []⟩ 8 (by kernel_rfl) (by kernel_rfl) (by kernel_rfl) (by kernel_rfl)) ?_
  intro W base args ds gs before hval0 hW hcnd _
  have hval : ∀ (j : Nat) t v, Try.f4.params[j]? = some t → args[j]? = some v → Value.okWide Try.prog W .any base t v := hval0
  have hW' := hW
  obtain ⟨p, q, hA0, hV, rfl, hfz, hnd⟩ := hW
  have hA : DataW.TrodAll enc Try.prog W 0 (fun _ => true) true Try.f4.params.toList args.toList ds p := hA0
  rw [Try.params4] at hA hval
  obtain ⟨v0, vs0, e0, es0, p0, q0, hargs, rfl, rfl, h0, r0⟩ := trodAll_cons hA
  obtain ⟨rfl, rfl, rfl⟩ := trodAll_nil r0
  obtain rfl : args = #[v0] := by cases args; simp_all
  obtain ⟨rfl, rfl⟩ := trodVars_none hV
  have k0 := h0
  have lt0 : ∀ x ∈ p0, x.block < W.heap.size := by obtain ⟨m, hm⟩ := k0; exact DataW.trod_lt m _ _ _ hm
  obtain ⟨x0, y0, m0, rfl, rfl, rfl, hf0⟩ := open_agg1 Try.underlying24 (by kernel_rfl) (by kernel_rfl) (hval 0 24 v0 rfl rfl) h0
  obtain ⟨n0, E0, N0, w0, b0, c0, z0⟩ := cell_exprs hf0
  clear hA0 hval0
  refine (walk _ n0 E0 N0 W w0 b0 c0 z0).mono fun e W' ⟨he, bel⟩ => ?_
  subst he
  exact ⟨_, rfl, _, _, _, [], _, [], hW', trodAll_mk1 (shut_bool Try.underlying4 _), (trodAll_cons_mk (Below.trod laidOut (by kernel_rfl) (of_decide_eq_true (by kernel_rfl)) k0 bel lt0) trodAll_mk0), rfl, bel.frame _, fun h => by cases h⟩

theorem over : Rows.fnExactTreeOkRow.holds Try.pinned (OpenSpec.ofChange Rows.fnExactTreeOkSpec) :=
  OpenClaim.holds_of_wide 4 Try.f4 rfl rfl rfl rfl rfl rfl rfl ⟨rfl, rfl, rfl, rfl, rfl⟩ rfl rfl rfl rfl rfl (by kernel_rfl) Try.func4 (by kernel_rfl)
    (of_decide_eq_true (by kernel_rfl)) (by unfold Func.isWrapper; first | (rw [if_pos (by decide +kernel)]; kernel_rfl) | (rw [if_neg (by decide +kernel)]; exact ⟨rfl, rfl⟩))
    (fun os started H enc _ => lifted os started H enc)

/-- The statement. -/
theorem proved : Rows.FnExactTreeOkSaid := over
end Go.Proofs.Ytpefeloajnopdaa.fnExactTreeOk
namespace Go.Proofs.Ytpefeloajnopdaa
theorem fnExactTreeOk_holds : Rows.FnExactTreeOkSaid := fnExactTreeOk.proved
#print axioms fnExactTreeOk_holds
end Go.Proofs.Ytpefeloajnopdaa
