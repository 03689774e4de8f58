/-
  Proved: whatever number it is given, the law FnExactScalarOf returns true (the program's ScalarOf answers as the specification's, in memory of its own). No condition.
-/
import Derived.Test.YtdafoccncnfcbamRows
import Derived.WalkKit
import Derived.ProofKit
import Derived.OpenShut
import Derived.ShutString
import Derived.ChangeOld
import Derived.Below
import Derived.Test.YtdafoccncnfcbamFrame
import Derived.Test.YtdafoccncnfcbamSpecArr2
import Derived.Test.YtdafoccncnfcbamLaw3
import Derived.Test.YtdafoccncnfcbamImplArr3
namespace Go.Proofs.Ytdafoccncnfcbam.fnExactScalarOf
open Go.ChangeShapes Go.WideShapes Go.ChangeAt Go.RowKit
open Go.ChangeMaps (open_string shut_string)
set_option linter.unusedVariables false
set_option linter.unusedSimpArgs false

theorem own : ownKnob Try.prog.godebug = none := by kernel_rfl
theorem laidOut : laidOutB Try.prog = true := by kernel_rfl

set_option maxRecDepth 20000 in
set_option maxHeartbeats 8000000 in
/-- The walk: the law returns true, and writes nothing that was there. -/
theorem walk (a0 : Int) (w : World) (w0 : (Lit.int .i64 a0).wf = true) :
    Calls Try.prog 7 #[.int .i64 a0] w fun e w' => e = .returned (.bool true) ∧ Below w.heap.size w w' := by
  obtain ⟨V, hV⟩ : ∃ x, x = ok a0 := ⟨_, rfl⟩
  obtain ⟨S, hS⟩ : ∃ x, x = ([] : List Int) := ⟨_, rfl⟩
  obtain ⟨D, hD⟩ : ∃ x, x = (if ok a0 = true then [a0] else []) := ⟨_, rfl⟩
  have SP : Hid (∀ (W : World), Calls Try.prog 24 #[.int .i64 a0] W fun e w' => ∃ v, e = .returned (.tuple #[v, .bool V]) ∧ Arr W.heap.size w'.heap.size w' v S D ∧ Below W.heap.size W w') := by
    intro W 
    rw [hV, hS, hD]
    exact scalarOf_spec a0 W
  have IM : Hid (∀ (W : World), Calls Try.prog 25 #[.int .i64 a0] W fun e w' => ∃ v, e = .returned (.tuple #[v, .bool V]) ∧ Arr W.heap.size w'.heap.size w' v S D ∧ Below W.heap.size W w') := by
    intro W 
    rw [hV, hS, hD]
    exact scalarOf_impl a0 W
  have LS : Hid (S.length ≤ 1048576) := by show _ ≤ _; rw [hS]; simp
  have LD : Hid (D.length ≤ 1048576) := by show _ ≤ _; rw [hD]; split <;> simp
  clear hV hS hD
  go_enter Try.func7, Try.ntmps7
  have HT0 : Hid (Below w.heap.size w w) := Below.refl _ _
  go_wp2_with fail
  refine (SP.out _ ).mono ?_
  rintro r w1 ⟨vW, rfl, ha, hb⟩
  obtain ⟨aW, cW, bW, eW, rfl, _, _, _, _⟩ := ha.arrI
  have W_1 : Hid (Arr w.heap.size w1.heap.size w1 (.agg #[.slice aW S.length cW, .slice bW D.length eW]) S D) := ha.mono (by first | exact Nat.le_refl _ | simp | (simp; omega)) (Nat.le_refl _)
  clear ha
  have HB1 : Hid (Below w.heap.size w w1) := hb
  have HT1 : Hid (Below w.heap.size w w1) := HB1.out
  have SZ1 : Hid (w.heap.size ≤ w1.heap.size) := HB1.out.size
  clear hb
  go_wp2_with fail
  refine (IM.out _ ).mono ?_
  rintro r w2 ⟨vG, rfl, ha, hb⟩
  obtain ⟨aG, cG, bG, eG, rfl, _, _, _, _⟩ := ha.arrI
  have G_2 : Hid (Arr (w1.heap.size + 1) w2.heap.size w2 (.agg #[.slice aG S.length cG, .slice bG D.length eG]) S D) := ha.mono (by first | exact Nat.le_refl _ | simp | (simp; omega)) (Nat.le_refl _)
  clear ha
  have HB2 : Hid (Below w1.heap.size w1 w2) := bTrans (bAlloc (Below.refl _ _) _) hb
  have HT2 : Hid (Below w.heap.size w w2) := bTrans HT1.out HB2.out
  have SZ2 : Hid (w1.heap.size ≤ w2.heap.size) := HB2.out.size
  have W_2 : Hid (Arr w.heap.size w1.heap.size w2 (.agg #[.slice aW S.length cW, .slice bW D.length eW]) S D) := W_1.out.keep HB2.out
  have QW_2 : Hid (Box w2 w1.heap.size (.slice aW S.length cW) (.slice bW D.length eW) 32) := (box_new w1 _ _ _).keep hb
  have LTQW : Hid (w1.heap.size < w2.heap.size) := QW_2.out.lt
  clear W_1 hb
  have QWc0 := QW_2.out.c0
  have QWc1 := QW_2.out.c1
  have QWd0 : ∀ o : Obj, (w2.alloc o).cell? ⟨w1.heap.size, 0, none⟩ = some (.slice aW S.length cW) := fun o => (QW_2.out.keep (bAlloc (Below.refl _ _) o)).c0
  have QWd1 : ∀ o : Obj, (w2.alloc o).cell? ⟨w1.heap.size, 1, none⟩ = some (.slice bW D.length eW) := fun o => (QW_2.out.keep (bAlloc (Below.refl _ _) o)).c1
  have hneV : (V != V) = false := by simp
  go_wp2_with fail
  refine (eq_arrI ((G_2.out.arrI).keep (bAlloc (Below.refl _ _) _)) ((W_2.out.arrI).keep (bAlloc (Below.refl _ _) _)) LS.out LD.out).mono ?_
  rintro r w3 ⟨rfl, hb⟩
  have HB3 : Hid (Below w2.heap.size w2 w3) := bTrans (bAlloc (Below.refl _ _) _) hb
  have HT3 : Hid (Below w.heap.size w w3) := bTrans HT2.out HB3.out
  have SZ3 : Hid (w2.heap.size ≤ w3.heap.size) := HB3.out.size
  have QW_3 : Hid (Box w3 w1.heap.size (.slice aW S.length cW) (.slice bW D.length eW) 32) := QW_2.out.keep HB3.out
  have W_3 : Hid (Arr w.heap.size w1.heap.size w3 (.agg #[.slice aW S.length cW, .slice bW D.length eW]) S D) := W_2.out.keep HB3.out
  have G_3 : Hid (Arr (w1.heap.size + 1) w2.heap.size w3 (.agg #[.slice aG S.length cG, .slice bG D.length eG]) S D) := G_2.out.keep HB3.out
  have QG_3 : Hid (Box w3 w2.heap.size (.slice aG S.length cG) (.slice bG D.length eG) 32) := (box_new w2 _ _ _).keep hb
  have LTQG : Hid (w2.heap.size < w3.heap.size) := QG_3.out.lt
  clear QW_2 W_2 G_2 QWc0 QWc1 QWd0 QWd1 hb
  have QWc0 := QW_3.out.c0
  have QWc1 := QW_3.out.c1
  have QGc0 := QG_3.out.c0
  have QGc1 := QG_3.out.c1
  go_wp2_with fail
  refine (mark_arr G_3.out LS.out LD.out (1 : Int) (by have := LS.out; have := LD.out; omega) (by have := LS.out; have := LD.out; omega)).mono ?_
  rintro r w4 ⟨rfl, ha, hw⟩
  have HT4 : Hid (Below w.heap.size w w4) := HT3.out.trans (hw.below (by have := SZ1.out; have := SZ2.out; have := LTQW.out; have := SZ3.out; have := LTQG.out; omega) HT3.out.size)
  have SZ4 : Hid (w3.heap.size ≤ w4.heap.size) := hw.size
  have QW_4 : Hid (Box w4 w1.heap.size (.slice aW S.length cW) (.slice bW D.length eW) 32) := QW_3.out.win hw (by have := SZ1.out; have := SZ2.out; have := LTQW.out; have := SZ3.out; have := LTQG.out; omega)
  have QG_4 : Hid (Box w4 w2.heap.size (.slice aG S.length cG) (.slice bG D.length eG) 32) := QG_3.out.win hw (by have := SZ1.out; have := SZ2.out; have := LTQW.out; have := SZ3.out; have := LTQG.out; omega)
  have W_4 : Hid (Arr w.heap.size w1.heap.size w4 (.agg #[.slice aW S.length cW, .slice bW D.length eW]) S D) := W_3.out.win hw (by have := SZ1.out; have := SZ2.out; have := LTQW.out; have := SZ3.out; have := LTQG.out; omega)
  have G_4 : Hid (Arr (w1.heap.size + 1) w2.heap.size w4 (.agg #[.slice aG S.length cG, .slice bG D.length eG]) (upFrom ((1 : Int)) S.length) (upFrom ((1 : Int) + S.length) D.length)) := ha
  clear QW_3 QG_3 W_3 G_3 QWc0 QWc1 QGc0 QGc1 ha hw
  have QWc0 := QW_4.out.c0
  have QWc1 := QW_4.out.c1
  have QGc0 := QG_4.out.c0
  have QGc1 := QG_4.out.c1
  go_wp2_with fail
  refine (held_arr (1 : Int) G_4.out LS.out LD.out (by decide) (by decide)).mono ?_
  rintro r w5 ⟨rfl, hb⟩
  have HB5 : Hid (Below w4.heap.size w4 w5) := hb
  have HT5 : Hid (Below w.heap.size w w5) := bTrans HT4.out HB5.out
  have SZ5 : Hid (w4.heap.size ≤ w5.heap.size) := HB5.out.size
  have QW_5 : Hid (Box w5 w1.heap.size (.slice aW S.length cW) (.slice bW D.length eW) 32) := QW_4.out.keep HB5.out
  have QG_5 : Hid (Box w5 w2.heap.size (.slice aG S.length cG) (.slice bG D.length eG) 32) := QG_4.out.keep HB5.out
  have W_5 : Hid (Arr w.heap.size w1.heap.size w5 (.agg #[.slice aW S.length cW, .slice bW D.length eW]) S D) := W_4.out.keep HB5.out
  have G_5 : Hid (Arr (w1.heap.size + 1) w2.heap.size w5 (.agg #[.slice aG S.length cG, .slice bG D.length eG]) (upFrom ((1 : Int)) S.length) (upFrom ((1 : Int) + S.length) D.length)) := G_4.out.keep HB5.out
  clear QW_4 QG_4 W_4 G_4 QWc0 QWc1 QGc0 QGc1 hb
  have QWc0 := QW_5.out.c0
  have QWc1 := QW_5.out.c1
  have QGc0 := QG_5.out.c0
  have QGc1 := QG_5.out.c1
  go_wp2_with fail
  refine (IM.out _ ).mono ?_
  rintro r w6 ⟨vJ, rfl, ha, hb⟩
  obtain ⟨aJ, cJ, bJ, eJ, rfl, _, _, _, _⟩ := ha.arrI
  have J_6 : Hid (Arr w5.heap.size w6.heap.size w6 (.agg #[.slice aJ S.length cJ, .slice bJ D.length eJ]) S D) := ha.mono (by first | exact Nat.le_refl _ | simp | (simp; omega)) (Nat.le_refl _)
  clear ha
  have HB6 : Hid (Below w5.heap.size w5 w6) := hb
  have HT6 : Hid (Below w.heap.size w w6) := bTrans HT5.out HB6.out
  have SZ6 : Hid (w5.heap.size ≤ w6.heap.size) := HB6.out.size
  have QW_6 : Hid (Box w6 w1.heap.size (.slice aW S.length cW) (.slice bW D.length eW) 32) := QW_5.out.keep HB6.out
  have QG_6 : Hid (Box w6 w2.heap.size (.slice aG S.length cG) (.slice bG D.length eG) 32) := QG_5.out.keep HB6.out
  have W_6 : Hid (Arr w.heap.size w1.heap.size w6 (.agg #[.slice aW S.length cW, .slice bW D.length eW]) S D) := W_5.out.keep HB6.out
  have G_6 : Hid (Arr (w1.heap.size + 1) w2.heap.size w6 (.agg #[.slice aG S.length cG, .slice bG D.length eG]) (upFrom ((1 : Int)) S.length) (upFrom ((1 : Int) + S.length) D.length)) := G_5.out.keep HB6.out
  clear QW_5 QG_5 W_5 G_5 QWc0 QWc1 QGc0 QGc1 hb
  have QWc0 := QW_6.out.c0
  have QWc1 := QW_6.out.c1
  have QWd0 : ∀ o : Obj, (w6.alloc o).cell? ⟨w1.heap.size, 0, none⟩ = some (.slice aW S.length cW) := fun o => (QW_6.out.keep (bAlloc (Below.refl _ _) o)).c0
  have QWd1 : ∀ o : Obj, (w6.alloc o).cell? ⟨w1.heap.size, 1, none⟩ = some (.slice bW D.length eW) := fun o => (QW_6.out.keep (bAlloc (Below.refl _ _) o)).c1
  have QGc0 := QG_6.out.c0
  have QGc1 := QG_6.out.c1
  have QGd0 : ∀ o : Obj, (w6.alloc o).cell? ⟨w2.heap.size, 0, none⟩ = some (.slice aG S.length cG) := fun o => (QG_6.out.keep (bAlloc (Below.refl _ _) o)).c0
  have QGd1 : ∀ o : Obj, (w6.alloc o).cell? ⟨w2.heap.size, 1, none⟩ = some (.slice bG D.length eG) := fun o => (QG_6.out.keep (bAlloc (Below.refl _ _) o)).c1
  go_wp2_with fail
  refine (eq_arrI ((J_6.out.arrI).keep (bAlloc (Below.refl _ _) _)) ((W_6.out.arrI).keep (bAlloc (Below.refl _ _) _)) LS.out LD.out).mono ?_
  rintro r w7 ⟨rfl, hb⟩
  have HB7 : Hid (Below w6.heap.size w6 w7) := bTrans (bAlloc (Below.refl _ _) _) hb
  have HT7 : Hid (Below w.heap.size w w7) := bTrans HT6.out HB7.out
  have SZ7 : Hid (w6.heap.size ≤ w7.heap.size) := HB7.out.size
  have QW_7 : Hid (Box w7 w1.heap.size (.slice aW S.length cW) (.slice bW D.length eW) 32) := QW_6.out.keep HB7.out
  have QG_7 : Hid (Box w7 w2.heap.size (.slice aG S.length cG) (.slice bG D.length eG) 32) := QG_6.out.keep HB7.out
  have W_7 : Hid (Arr w.heap.size w1.heap.size w7 (.agg #[.slice aW S.length cW, .slice bW D.length eW]) S D) := W_6.out.keep HB7.out
  have G_7 : Hid (Arr (w1.heap.size + 1) w2.heap.size w7 (.agg #[.slice aG S.length cG, .slice bG D.length eG]) (upFrom ((1 : Int)) S.length) (upFrom ((1 : Int) + S.length) D.length)) := G_6.out.keep HB7.out
  have J_7 : Hid (Arr w5.heap.size w6.heap.size w7 (.agg #[.slice aJ S.length cJ, .slice bJ D.length eJ]) S D) := J_6.out.keep HB7.out
  have QJ_7 : Hid (Box w7 w6.heap.size (.slice aJ S.length cJ) (.slice bJ D.length eJ) 32) := (box_new w6 _ _ _).keep hb
  have LTQJ : Hid (w6.heap.size < w7.heap.size) := QJ_7.out.lt
  clear QW_6 QG_6 W_6 G_6 J_6 QWc0 QWc1 QWd0 QWd1 QGc0 QGc1 QGd0 QGd1 hb
  have QWc0 := QW_7.out.c0
  have QWc1 := QW_7.out.c1
  have QGc0 := QG_7.out.c0
  have QGc1 := QG_7.out.c1
  have QJc0 := QJ_7.out.c0
  have QJc1 := QJ_7.out.c1
  go_wp2_with fail
  refine (held_arr (1 : Int) G_7.out LS.out LD.out (by decide) (by decide)).mono ?_
  rintro r w8 ⟨rfl, hb⟩
  have HB8 : Hid (Below w7.heap.size w7 w8) := hb
  have HT8 : Hid (Below w.heap.size w w8) := bTrans HT7.out HB8.out
  have SZ8 : Hid (w7.heap.size ≤ w8.heap.size) := HB8.out.size
  have QW_8 : Hid (Box w8 w1.heap.size (.slice aW S.length cW) (.slice bW D.length eW) 32) := QW_7.out.keep HB8.out
  have QG_8 : Hid (Box w8 w2.heap.size (.slice aG S.length cG) (.slice bG D.length eG) 32) := QG_7.out.keep HB8.out
  have QJ_8 : Hid (Box w8 w6.heap.size (.slice aJ S.length cJ) (.slice bJ D.length eJ) 32) := QJ_7.out.keep HB8.out
  have G_8 : Hid (Arr (w1.heap.size + 1) w2.heap.size w8 (.agg #[.slice aG S.length cG, .slice bG D.length eG]) (upFrom ((1 : Int)) S.length) (upFrom ((1 : Int) + S.length) D.length)) := G_7.out.keep HB8.out
  clear QW_7 QG_7 QJ_7 G_7 QWc0 QWc1 QGc0 QGc1 QJc0 QJc1 hb
  have QWc0 := QW_8.out.c0
  have QWc1 := QW_8.out.c1
  have QGc0 := QG_8.out.c0
  have QGc1 := QG_8.out.c1
  have QJc0 := QJ_8.out.c0
  have QJc1 := QJ_8.out.c1
  go_wp2
  go_ret
  exact ⟨rfl, HT8.out⟩

set_option maxRecDepth 100000 in
theorem lifted (os : Os) (started : os.Started) (H : Type) (enc : TypeId × Value → H) :
    ReturnsInHanded {} Try.checked os 7 .any (Rows.fnExactScalarOfSpec.pre6 enc Try.prog Try.f7 Rows.fnExactScalarOfRow.domain false) (Rows.fnExactScalarOfSpec.post enc Try.prog Try.f7 false true false false) := by
  refine returnsInHanded_of_change (C := Try.checked) own started (by kernel_rfl) Try.func7
    (ChangeSpec.witness6 (enc := enc) (C := Try.checked) false ⟨#[], #[.int .i64 0], []⟩ 8 (by kernel_rfl) (by kernel_rfl) (by kernel_rfl) (by kernel_rfl)) ?_
  intro W base args ds gs before hval0 hW hcnd _
  have hval : ∀ (j : Nat) t v, Try.f7.params[j]? = some t → args[j]? = some v → Value.okWide Try.prog W .any base t v := hval0
  have hW' := hW
  obtain ⟨p, q, hA0, hV, rfl, hfz, hnd⟩ := hW
  have hA : DataW.TrodAll enc Try.prog W 0 (fun _ => true) true Try.f7.params.toList args.toList ds p := hA0
  rw [Try.params7] at hA hval
  obtain ⟨v0, vs0, e0, es0, p0, q0, hargs, rfl, rfl, h0, r0⟩ := trodAll_cons hA
  obtain ⟨rfl, rfl, rfl⟩ := trodAll_nil r0
  obtain rfl : args = #[v0] := by cases args; simp_all
  obtain ⟨rfl, rfl⟩ := trodVars_none hV
  obtain ⟨a0, rfl, rfl, rfl, w0⟩ := open_int Try.underlying3 (hval 0 3 v0 rfl rfl) h0
  clear hA0 hval0
  refine (walk a0 W w0).mono fun e W' ⟨he, bel⟩ => ?_
  subst he
  exact ⟨_, rfl, _, _, _, [], _, [], hW', trodAll_mk1 (shut_bool Try.underlying4 _), (trodAll_cons_mk (shut_int Try.underlying3 w0) trodAll_mk0), rfl, bel.frame _, fun h => by cases h⟩

theorem over : Rows.fnExactScalarOfRow.holds Try.pinned (OpenSpec.ofChange Rows.fnExactScalarOfSpec) :=
  OpenClaim.holds_of_wide 7 Try.f7 rfl rfl rfl rfl rfl rfl rfl ⟨rfl, rfl, rfl, rfl, rfl⟩ rfl rfl rfl rfl rfl (by kernel_rfl) Try.func7 (by kernel_rfl)
    (of_decide_eq_true (by kernel_rfl)) (by unfold Func.isWrapper; first | (rw [if_pos (by decide +kernel)]; kernel_rfl) | (rw [if_neg (by decide +kernel)]; exact ⟨rfl, rfl⟩))
    (fun os started H enc _ => lifted os started H enc)

/-- The statement. -/
theorem proved : Rows.FnExactScalarOfSaid := over
end Go.Proofs.Ytdafoccncnfcbam.fnExactScalarOf
namespace Go.Proofs.Ytdafoccncnfcbam
theorem fnExactScalarOf_holds : Rows.FnExactScalarOfSaid := fnExactScalarOf.proved
#print axioms fnExactScalarOf_holds
end Go.Proofs.Ytdafoccncnfcbam
