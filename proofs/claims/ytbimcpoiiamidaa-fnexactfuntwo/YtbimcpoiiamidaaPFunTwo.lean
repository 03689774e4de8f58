/-
  Proved: whatever function it is given, the law FnExactFunTwo returns true (the program's FunTwo answers as the specification's). No condition.
-/
import Derived.Test.YtbimcpoiiamidaaRows
import Derived.WalkKit
import Derived.ProofKit
import Derived.OpenShut
import Derived.ShutString
import Derived.ChangeOld
import Derived.Below
import Derived.Deep.Cut
import Derived.Lib.SmallJoins
import Derived.Test.YtbimcpoiiamidaaFunOk
namespace Go.Proofs.Ytbimcpoiiamidaa.fnExactFunTwo
open Go.ChangeShapes Go.WideShapes Go.ChangeAt Go.RowKit
open Go.ChangeMaps (open_string shut_string)
set_option linter.unusedVariables false
set_option linter.unusedSimpArgs false

theorem own : ownKnob Try.prog.godebug = none := by kernel_rfl
theorem laidOut : laidOutB Try.prog = true := by kernel_rfl

set_option maxRecDepth 20000 in
set_option maxHeartbeats 8000000 in
/-- The walk: the law returns true, and writes nothing that was there. -/
theorem walk (a0 b0 c0 : Int) (w : World) (w0 : (Lit.int .i64 a0).wf = true) (x0 : (Lit.int .i64 b0).wf = true) (y0 : (Lit.int .i64 c0).wf = true) :
    Calls Try.prog 5 #[.agg #[.int .i64 a0, .int .i64 b0, .int .i64 c0]] w fun e w' => e = .returned (.bool true) ∧ Below w.heap.size w w' := by
  obtain ⟨q, hq⟩ : ∃ q, q = funTwoB a0 b0 c0 := ⟨_, rfl⟩
  have HS : Hid (∀ W, Calls Try.prog 13 #[.agg #[.int .i64 a0, .int .i64 b0, .int .i64 c0]] W fun e w' => e = .returned (.bool q) ∧ Below W.heap.size W w') := fun W => by rw [hq]; exact funTwo_spec _ _ _ _
  have HI : Hid (∀ W, Calls Try.prog 14 #[.agg #[.int .i64 a0, .int .i64 b0, .int .i64 c0]] W fun e w' => e = .returned (.bool q) ∧ Below W.heap.size W w') := fun W => by rw [hq]; exact funTwo_impl _ _ _ _
  have hne : (q != q) = false := by cases q <;> rfl
  have hne2 : (q ^^ q) = false := by cases q <;> rfl
  clear hq w0 x0 y0
  go_enter Try.func5, Try.ntmps5
  go_wp2_with fail
  refine (toFun3 _ _ _ _).mono ?_
  rintro r w1 ⟨rfl, hb⟩
  have B1 : Hid (Below w.heap.size w w1) := bTrans (bAlloc (Below.refl _ _) _) hb
  have c1 : w1.cell? ⟨w.heap.size, 0, none⟩ = some (.int .i64 a0) := cell3a _ _ _ _ _ hb rfl
  have c2 : w1.cell? ⟨w.heap.size, 1, none⟩ = some (.int .i64 b0) := cell3a _ _ _ _ _ hb rfl
  have c3 : w1.cell? ⟨w.heap.size, 2, none⟩ = some (.int .i64 c0) := cell3a _ _ _ _ _ hb rfl
  have Z1 : Hid (w.heap.size < w1.heap.size) := by have := hb.size; simp at this; exact this
  clear hb
  go_wp2_with fail
  refine (HS.out _).mono ?_
  rintro r w2 ⟨rfl, hb⟩
  have B2 : Hid (Below w.heap.size w w2) := bTrans B1.out hb
  have d1 : w2.cell? ⟨w.heap.size, 0, none⟩ = some (.int .i64 a0) := by rw [hb.cell (p := ⟨w.heap.size, 0, none⟩) Z1.out]; exact c1
  have d2 : w2.cell? ⟨w.heap.size, 1, none⟩ = some (.int .i64 b0) := by rw [hb.cell (p := ⟨w.heap.size, 1, none⟩) Z1.out]; exact c2
  have d3 : w2.cell? ⟨w.heap.size, 2, none⟩ = some (.int .i64 c0) := by rw [hb.cell (p := ⟨w.heap.size, 2, none⟩) Z1.out]; exact c3
  clear hb c1 c2 c3
  go_wp2_with fail
  refine (toFun3 _ _ _ _).mono ?_
  rintro r w3 ⟨rfl, hb⟩
  have B3 : Hid (Below w.heap.size w w3) := bTrans B2.out hb
  clear hb d1 d2 d3
  go_wp2_with fail
  refine (HI.out _).mono ?_
  rintro r w4 ⟨rfl, hb⟩
  have B4 : Hid (Below w.heap.size w w4) := bTrans B3.out hb
  clear hb
  go_wp2
  go_ret
  exact ⟨rfl, B4.out⟩

set_option maxRecDepth 100000 in
theorem lifted (os : Os) (started : os.Started) (H : Type) (enc : TypeId × Value → H) :
    ReturnsInHanded {} Try.checked os 5 .any (Rows.fnExactFunTwoSpec.pre6 enc Try.prog Try.f5 Rows.fnExactFunTwoRow.domain false) (Rows.fnExactFunTwoSpec.post enc Try.prog Try.f5 false true false false) := by
  refine returnsInHanded_of_change (C := Try.checked) own started (by kernel_rfl) Try.func5
    (ChangeSpec.witness6 (enc := enc) (C := Try.checked) false ⟨#[], #[.agg #[.int .i64 0, .int .i64 0, .int .i64 0]], []⟩ 8 (by kernel_rfl) (by kernel_rfl) (by kernel_rfl) (by kernel_rfl)) ?_
  intro W base args ds gs before hval0 hW hcnd _
  have hval : ∀ (j : Nat) t v, Try.f5.params[j]? = some t → args[j]? = some v → Value.okWide Try.prog W .any base t v := hval0
  have hW' := hW
  obtain ⟨p, q, hA0, hV, rfl, hfz, hnd⟩ := hW
  have hA : DataW.TrodAll enc Try.prog W 0 (fun _ => true) true Try.f5.params.toList args.toList ds p := hA0
  rw [Try.params5] at hA hval
  obtain ⟨v0, vs0, e0, es0, p0, q0, hargs, rfl, rfl, h0, r0⟩ := trodAll_cons hA
  obtain ⟨rfl, rfl, rfl⟩ := trodAll_nil r0
  obtain rfl : args = #[v0] := by cases args; simp_all
  obtain ⟨rfl, rfl⟩ := trodVars_none hV
  have k0 := h0
  have lt0 : ∀ x ∈ p0, x.block < W.heap.size := by obtain ⟨m, hm⟩ := k0; exact DataW.trod_lt m _ _ _ hm
  obtain ⟨x0, y0, z0, f0, g0, i0, m0, rfl, rfl, rfl, hf0, hg0, hi0⟩ := Joins.open_agg3 Try.underlying29 (by kernel_rfl) (by kernel_rfl) (hval 0 29 v0 rfl rfl) h0
  obtain ⟨a0, ea0, _, wa0⟩ := DataW.trod_int Try.underlying3 hf0
  obtain ⟨b0, eb0, _, wb0⟩ := DataW.trod_int Try.underlying3 hg0
  obtain ⟨c0, ec0, _, wc0⟩ := DataW.trod_int Try.underlying3 hi0
  simp at ea0 eb0 ec0
  subst ea0 eb0 ec0
  clear hA0 hval0
  refine (walk a0 b0 c0 W wa0 wb0 wc0).mono fun e W' ⟨he, bel⟩ => ?_
  subst he
  exact ⟨_, rfl, _, _, _, [], _, [], hW', trodAll_mk1 (shut_bool Try.underlying4 _), (trodAll_cons_mk (Below.trod laidOut (by kernel_rfl) (of_decide_eq_true (by kernel_rfl)) k0 bel lt0) trodAll_mk0), rfl, bel.frame _, fun h => by cases h⟩

theorem over : Rows.fnExactFunTwoRow.holds Try.pinned (OpenSpec.ofChange Rows.fnExactFunTwoSpec) :=
  OpenClaim.holds_of_wide 5 Try.f5 rfl rfl rfl rfl rfl rfl rfl ⟨rfl, rfl, rfl, rfl, rfl⟩ rfl rfl rfl rfl rfl (by kernel_rfl) Try.func5 (by kernel_rfl)
    (of_decide_eq_true (by kernel_rfl)) (by unfold Func.isWrapper; first | (rw [if_pos (by decide +kernel)]; kernel_rfl) | (rw [if_neg (by decide +kernel)]; exact ⟨rfl, rfl⟩))
    (fun os started H enc _ => lifted os started H enc)

/-- The statement. -/
theorem proved : Rows.FnExactFunTwoSaid := over
end Go.Proofs.Ytbimcpoiiamidaa.fnExactFunTwo
namespace Go.Proofs.Ytbimcpoiiamidaa
theorem fnExactFunTwo_holds : Rows.FnExactFunTwoSaid := fnExactFunTwo.proved
#print axioms fnExactFunTwo_holds
end Go.Proofs.Ytbimcpoiiamidaa
