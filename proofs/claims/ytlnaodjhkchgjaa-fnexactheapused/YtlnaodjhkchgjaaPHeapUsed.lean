/-
  Proved: whatever heap it is given, the law FnExactHeapUsed returns true (the program's HeapUsed answers as the specification's, every field, writes into no argument), and what it is given reads as before. No condition.
-/
import Derived.Test.YtlnaodjhkchgjaaRows
import Derived.WalkKit
import Derived.ProofKit
import Derived.OpenShut
import Derived.ShutString
import Derived.ChangeOld
import Derived.Below
import Derived.Deep.Cut
import Derived.Test.YtlnaodjhkchgjaaFrame
import Derived.Test.YtlnaodjhkchgjaaHeapU
import Derived.Test.YtlnaodjhkchgjaaSortL
namespace Go.Proofs.Ytlnaodjhkchgjaa.fnExactHeapUsed
open Go.ChangeShapes Go.WideShapes Go.ChangeAt Go.RowKit
open Go.ChangeMaps (open_string shut_string)
set_option linter.unusedVariables false
set_option linter.unusedSimpArgs false

theorem own : ownKnob Try.prog.godebug = none := by kernel_rfl
theorem laidOut : laidOutB Try.prog = true := by kernel_rfl

set_option maxRecDepth 20000 in
set_option maxHeartbeats 8000000 in
/-- The walk: the law returns true, and writes nothing that was there. -/
theorem walk (v0 : Value) (W0 : List Int) (t0 : Int) (n0 : Nat) (E0 : Nat → Cel) (w : World) (w0 : HI w v0 W0 t0 n0 E0) (b0 : W0.length ≤ 9223372036854775807) (c0 : n0 ≤ 9223372036854775807) (d0 : ∀ i, in64 (E0 i).f ∧ in64 (E0 i).l) (e0 : in64 t0) :
    Calls Try.prog 5 #[v0] w fun e w' => e = .returned (.bool true) ∧ Below w.heap.size w w' := by
  have H : Hid (HI w v0 W0 t0 n0 E0) := w0
  have HE : Hid ((∀ i, in64 (E0 i).f ∧ in64 (E0 i).l) ∧ in64 t0) := ⟨d0, e0⟩
  obtain ⟨ya, yc, za, zc, rfl, _⟩ := w0
  clear d0 e0
  go_enter Try.func5, Try.ntmps5
  go_wp2_with fail
  have hbx : Box3 (w.alloc (.cells #[.slice ya W0.length yc, .int .i64 t0, .slice za n0 zc] 25)) w.heap.size (.slice ya W0.length yc) (.int .i64 t0) (.slice za n0 zc) 25 := heap_alloc_new _ _
  have hb : Below w.heap.size w (w.alloc (.cells #[.slice ya W0.length yc, .int .i64 t0, .slice za n0 zc] 25)) := bAlloc (Below.refl _ _) _
  generalize w.alloc (.cells #[.slice ya W0.length yc, .int .i64 t0, .slice za n0 zc] 25) = w1 at *
  have SZ1 : Hid (w.heap.size ≤ w1.heap.size) := hb.size
  have HT1 : Hid (Below w.heap.size w w1) := hb
  have A_1 : Hid (Box3 w1 w.heap.size (.slice ya W0.length yc) (.int .i64 t0) (.slice za n0 zc) 25) := hbx
  have LA : Hid (w.heap.size < w1.heap.size) := hbx.lt
  clear hb hbx
  refine (szHeap_at (H.out.keep HT1.out) b0 c0).mono ?_
  rintro r w2 ⟨rfl, hb⟩
  have SZ2 : Hid (w1.heap.size ≤ w2.heap.size) := hb.size
  have HT2 : Hid (Below w.heap.size w w2) := bTrans HT1.out hb
  have A_2 : Hid (Box3 w2 w.heap.size (.slice ya W0.length yc) (.int .i64 t0) (.slice za n0 zc) 25) := A_1.out.keep hb
  clear A_1
  clear hb
  by_cases h0 : szV (W0.length + n0) 1048576 < 0
  · generalize szV (W0.length + n0) 1048576 = X at *
    go_wp2
    go_ret
    exact ⟨rfl, HT2.out⟩
  have BW : Hid (W0.length ≤ 1048576) := by show _ ≤ _; unfold szV at h0; split at h0 <;> omega
  have BN : Hid (n0 ≤ 1048576) := by show _ ≤ _; unfold szV at h0; split at h0 <;> omega
  generalize szV (W0.length + n0) 1048576 = X at *
  clear b0 c0
  obtain ⟨V, hV⟩ : ∃ V, V = usedH W0.length t0 n0 E0 := ⟨_, rfl⟩
  have SP : Hid (∀ (W : World) (u : Value), HI W u W0 t0 n0 E0 → Calls Try.prog 20 #[u] W fun r w' => r = .returned (.int .i64 V) ∧ Below W.heap.size W w') := fun W u hu => by rw [hV]; exact heapUsed_spec hu HE.out BW.out BN.out
  have IM : Hid (∀ (W : World) (u : Value), HI W u W0 t0 n0 E0 → Calls Try.prog 21 #[u] W fun r w' => r = .returned (.int .i64 V) ∧ Below W.heap.size W w') := fun W u hu => by rw [hV]; exact heapUsed_impl sorts_by sorts_none hu HE.out BW.out BN.out
  clear hV
  have hneV : (V != V) = false := by simp
  have pA0 := A_2.out.c0
  have pA1 := A_2.out.c1
  have pA2 := A_2.out.c2
  go_wp2_with fail
  refine (toHeap_own (H.out.keep HT2.out) BW.out BN.out).mono ?_
  rintro r w3 ⟨vT, rfl, hO, hb⟩
  obtain ⟨aT, bT, cT, dT, rfl⟩ := hO.form
  clear pA0 pA1 pA2
  have SZ3 : Hid (w2.heap.size ≤ w3.heap.size) := hb.size
  have HT3 : Hid (Below w.heap.size w w3) := bTrans HT2.out hb
  have A_3 : Hid (Box3 w3 w.heap.size (.slice ya W0.length yc) (.int .i64 t0) (.slice za n0 zc) 25) := A_2.out.keep hb
  clear A_2
  have T_3 : Hid (HP w2.heap.size w3.heap.size w3 (.agg #[.slice aT W0.length bT, .int .i64 t0, .slice cT n0 dT]) W0 t0 n0 E0) := hO
  clear hO hb
  have pA0 := A_3.out.c0
  have pA1 := A_3.out.c1
  have pA2 := A_3.out.c2
  go_wp2_with fail
  refine (SP.out _ _ T_3.out.hi).mono ?_
  rintro r w4 ⟨rfl, hb⟩
  clear pA0 pA1 pA2
  have SZ4 : Hid (w3.heap.size ≤ w4.heap.size) := hb.size
  have HT4 : Hid (Below w.heap.size w w4) := bTrans HT3.out hb
  have A_4 : Hid (Box3 w4 w.heap.size (.slice ya W0.length yc) (.int .i64 t0) (.slice za n0 zc) 25) := A_3.out.keep hb
  have T_4 : Hid (HP w2.heap.size w3.heap.size w4 (.agg #[.slice aT W0.length bT, .int .i64 t0, .slice cT n0 dT]) W0 t0 n0 E0) := T_3.out.keep hb
  clear A_3
  clear T_3
  clear hb
  clear T_4
  have pA0 := A_4.out.c0
  have pA1 := A_4.out.c1
  have pA2 := A_4.out.c2
  go_wp2_with fail
  refine (toHeap_own (H.out.keep HT4.out) BW.out BN.out).mono ?_
  rintro r w5 ⟨vX, rfl, hO, hb⟩
  obtain ⟨aX, bX, cX, dX, rfl⟩ := hO.form
  clear pA0 pA1 pA2
  have SZ5 : Hid (w4.heap.size ≤ w5.heap.size) := hb.size
  have HT5 : Hid (Below w.heap.size w w5) := bTrans HT4.out hb
  have A_5 : Hid (Box3 w5 w.heap.size (.slice ya W0.length yc) (.int .i64 t0) (.slice za n0 zc) 25) := A_4.out.keep hb
  clear A_4
  have X_5 : Hid (HP w4.heap.size w5.heap.size w5 (.agg #[.slice aX W0.length bX, .int .i64 t0, .slice cX n0 dX]) W0 t0 n0 E0) := hO
  clear hO hb
  have pA0 := A_5.out.c0
  have dA0 : ∀ ob : Obj, (w5.alloc ob).cell? ⟨w.heap.size, 0, none⟩ = some (.slice ya W0.length yc) := fun ob => (A_5.out.keep (bAlloc (Below.refl _ _) ob)).c0
  have pA1 := A_5.out.c1
  have dA1 : ∀ ob : Obj, (w5.alloc ob).cell? ⟨w.heap.size, 1, none⟩ = some (.int .i64 t0) := fun ob => (A_5.out.keep (bAlloc (Below.refl _ _) ob)).c1
  have pA2 := A_5.out.c2
  have dA2 : ∀ ob : Obj, (w5.alloc ob).cell? ⟨w.heap.size, 2, none⟩ = some (.slice za n0 zc) := fun ob => (A_5.out.keep (bAlloc (Below.refl _ _) ob)).c2
  go_wp2_with fail
  clear pA0 pA1 pA2
  clear dA0 dA1 dA2
  have hbx : Box3 (w5.alloc (.cells #[.slice aX W0.length bX, .int .i64 t0, .slice cX n0 dX] 29)) w5.heap.size (.slice aX W0.length bX) (.int .i64 t0) (.slice cX n0 dX) 29 := heap_alloc_new _ _
  have hb : Below w5.heap.size w5 (w5.alloc (.cells #[.slice aX W0.length bX, .int .i64 t0, .slice cX n0 dX] 29)) := bAlloc (Below.refl _ _) _
  generalize w5.alloc (.cells #[.slice aX W0.length bX, .int .i64 t0, .slice cX n0 dX] 29) = w6 at *
  have SZ6 : Hid (w5.heap.size ≤ w6.heap.size) := hb.size
  have HT6 : Hid (Below w.heap.size w w6) := bTrans HT5.out hb
  have A_6 : Hid (Box3 w6 w.heap.size (.slice ya W0.length yc) (.int .i64 t0) (.slice za n0 zc) 25) := A_5.out.keep hb
  have X_6 : Hid (HP w4.heap.size w5.heap.size w6 (.agg #[.slice aX W0.length bX, .int .i64 t0, .slice cX n0 dX]) W0 t0 n0 E0) := X_5.out.keep hb
  clear A_5
  clear X_5
  have P_6 : Hid (Box3 w6 w5.heap.size (.slice aX W0.length bX) (.int .i64 t0) (.slice cX n0 dX) 29) := hbx
  have LP : Hid (w5.heap.size < w6.heap.size) := hbx.lt
  clear hb hbx
  refine (IM.out _ _ X_6.out.hi).mono ?_
  rintro r w7 ⟨rfl, hb⟩
  have SZ7 : Hid (w6.heap.size ≤ w7.heap.size) := hb.size
  have HT7 : Hid (Below w.heap.size w w7) := bTrans HT6.out hb
  have A_7 : Hid (Box3 w7 w.heap.size (.slice ya W0.length yc) (.int .i64 t0) (.slice za n0 zc) 25) := A_6.out.keep hb
  have X_7 : Hid (HP w4.heap.size w5.heap.size w7 (.agg #[.slice aX W0.length bX, .int .i64 t0, .slice cX n0 dX]) W0 t0 n0 E0) := X_6.out.keep hb
  have P_7 : Hid (Box3 w7 w5.heap.size (.slice aX W0.length bX) (.int .i64 t0) (.slice cX n0 dX) 29) := P_6.out.keep hb
  clear A_6
  clear X_6
  clear P_6
  clear hb
  have SK : Hid (∀ W, Below w7.heap.size w7 W → W.cell? ⟨w.heap.size, 0, none⟩ = some (.slice ya W0.length yc) ∧ W.cell? ⟨w.heap.size, 1, none⟩ = some (.int .i64 t0) ∧ W.cell? ⟨w.heap.size, 2, none⟩ = some (.slice za n0 zc) ∧ W.cell? ⟨w5.heap.size, 0, none⟩ = some (.slice aX W0.length bX) ∧ W.cell? ⟨w5.heap.size, 1, none⟩ = some (.int .i64 t0) ∧ W.cell? ⟨w5.heap.size, 2, none⟩ = some (.slice cX n0 dX)) := fun W hb => ⟨(A_7.out.keep hb).c0, (A_7.out.keep hb).c1, (A_7.out.keep hb).c2, (P_7.out.keep hb).c0, (P_7.out.keep hb).c1, (P_7.out.keep hb).c2⟩
  go_wp2_with fail
  go_region_held3 (fun w' => w'.cell? ⟨w.heap.size, 0, none⟩ = some (.slice ya W0.length yc) ∧ w'.cell? ⟨w.heap.size, 1, none⟩ = some (.int .i64 t0) ∧ w'.cell? ⟨w.heap.size, 2, none⟩ = some (.slice za n0 zc) ∧ w'.cell? ⟨w5.heap.size, 0, none⟩ = some (.slice aX W0.length bX) ∧ w'.cell? ⟨w5.heap.size, 1, none⟩ = some (.int .i64 t0) ∧ w'.cell? ⟨w5.heap.size, 2, none⟩ = some (.slice cX n0 dX))
    ((refine SK.out _ ?_; (repeat first | with_reducible exact HBb.out | with_reducible exact HBa.out | with_reducible exact Below.refl _ _ | with_reducible refine Below.drew ?_)))
    (first
      | (go_at_call 9; refine (toHeap_own (H.out.keep (bTrans HT7.out ((Below.refl w7.heap.size w7).drew))) BW.out BN.out).mono ?_; rintro r wa ⟨v3, rfl, hu, hb⟩; have U3 : Hid (HI wa v3 W0 t0 n0 E0) := hu.hi; have HBa : Hid (Below w7.heap.size w7 wa) := bTrans ((Below.refl w7.heap.size w7).drew) hb; clear hu hb)
      | (go_at_call 11; refine (eqHeap_same ((X_7.out.keep HBa.out).hi) U3.out BW.out BN.out).mono ?_; rintro r w8 ⟨rfl, hb⟩; have HBb : Hid (Below w7.heap.size w7 w8) := bTrans HBa.out hb; clear hb))
  all_goals
    clear SK U3 HBa
    have hb := HBb.out
    clear HBb
    have SZ8 : Hid (w7.heap.size ≤ w8.heap.size) := hb.size
    have HT8 : Hid (Below w.heap.size w w8) := bTrans HT7.out hb
    have A_8 : Hid (Box3 w8 w.heap.size (.slice ya W0.length yc) (.int .i64 t0) (.slice za n0 zc) 25) := A_7.out.keep hb
    have X_8 : Hid (HP w4.heap.size w5.heap.size w8 (.agg #[.slice aX W0.length bX, .int .i64 t0, .slice cX n0 dX]) W0 t0 n0 E0) := X_7.out.keep hb
    have P_8 : Hid (Box3 w8 w5.heap.size (.slice aX W0.length bX) (.int .i64 t0) (.slice cX n0 dX) 29) := P_7.out.keep hb
    clear A_7
    clear X_7
    clear P_7
    clear hb
    have pA0 := A_8.out.c0
    have pA1 := A_8.out.c1
    have pA2 := A_8.out.c2
    have pP0 := P_8.out.c0
    have pP1 := P_8.out.c1
    have pP2 := P_8.out.c2
    go_wp2
    go_ret
    exact ⟨rfl, HT8.out⟩

set_option maxRecDepth 100000 in
theorem lifted (os : Os) (started : os.Started) (H : Type) (enc : TypeId × Value → H) :
    ReturnsInHanded {} Try.checked os 5 .any (Rows.fnExactHeapUsedSpec.pre6 enc Try.prog Try.f5 Rows.fnExactHeapUsedRow.domain false) (Rows.fnExactHeapUsedSpec.post enc Try.prog Try.f5 false true false false) := by
  refine returnsInHanded_of_change (C := Try.checked) own started (by kernel_rfl) Try.func5
    (ChangeSpec.witness6 (enc := enc) (C := Try.checked) false ⟨#[], #[.agg #[.slice none 0 0, .int .i64 0, .slice none 0 0]], []⟩ 8 (by kernel_rfl) (by kernel_rfl) (by kernel_rfl) (by kernel_rfl)) ?_
  intro W base args ds gs before hval0 hW hcnd _
  have hval : ∀ (j : Nat) t v, Try.f5.params[j]? = some t → args[j]? = some v → Value.okWide Try.prog W .any base t v := hval0
  have hW' := hW
  obtain ⟨p, q, hA0, hV, rfl, hfz, hnd⟩ := hW
  have hA : DataW.TrodAll enc Try.prog W 0 (fun _ => true) true Try.f5.params.toList args.toList ds p := hA0
  rw [Try.params5] at hA hval
  obtain ⟨v0, vs0, e0, es0, p0, q0, hargs, rfl, rfl, h0, r0⟩ := trodAll_cons hA
  obtain ⟨rfl, rfl, rfl⟩ := trodAll_nil r0
  obtain rfl : args = #[v0] := by cases args; simp_all
  obtain ⟨rfl, rfl⟩ := trodVars_none hV
  have k0 := h0
  have lt0 : ∀ x ∈ p0, x.block < W.heap.size := by obtain ⟨m, hm⟩ := k0; exact DataW.trod_lt m _ _ _ hm
  obtain ⟨x0, y0, z0, f0, g0, i0, m0, rfl, rfl, rfl, hf0, hg0, hi0⟩ := Joins.open_agg3 Try.underlying25 (by kernel_rfl) (by kernel_rfl) (hval 0 25 v0 rfl rfl) h0
  obtain ⟨t0, et0, _, wt0⟩ := DataW.trod_int Try.underlying3 hg0
  simp at et0
  subst et0
  obtain ⟨W0, iw0, b0⟩ := cell_ints hf0
  obtain ⟨n0, E0, ic0, c0, d0⟩ := cell_cels hi0
  have w0 : HI W (.agg #[x0, .int .i64 t0, z0]) W0 t0 n0 E0 := by obtain ⟨a, c, rfl, g, i⟩ := iw0; obtain ⟨a2, c2, rfl, g2, i2⟩ := ic0; exact ⟨a, c, a2, c2, rfl, i, g, i2, g2⟩
  clear hA0 hval0
  refine (walk _ W0 t0 n0 E0 W w0 b0 c0 d0 (in64_wf wt0)).mono fun e W' ⟨he, bel⟩ => ?_
  subst he
  exact ⟨_, rfl, _, _, _, [], _, [], hW', trodAll_mk1 (shut_bool Try.underlying4 _), (trodAll_cons_mk (Below.trod laidOut (by kernel_rfl) (of_decide_eq_true (by kernel_rfl)) k0 bel lt0) trodAll_mk0), rfl, bel.frame _, fun h => by cases h⟩

theorem over : Rows.fnExactHeapUsedRow.holds Try.pinned (OpenSpec.ofChange Rows.fnExactHeapUsedSpec) :=
  OpenClaim.holds_of_wide 5 Try.f5 rfl rfl rfl rfl rfl rfl rfl ⟨rfl, rfl, rfl, rfl, rfl⟩ rfl rfl rfl rfl rfl (by kernel_rfl) Try.func5 (by kernel_rfl)
    (of_decide_eq_true (by kernel_rfl)) (by unfold Func.isWrapper; first | (rw [if_pos (by decide +kernel)]; kernel_rfl) | (rw [if_neg (by decide +kernel)]; exact ⟨rfl, rfl⟩))
    (fun os started H enc _ => lifted os started H enc)

/-- The statement. -/
theorem proved : Rows.FnExactHeapUsedSaid := over
end Go.Proofs.Ytlnaodjhkchgjaa.fnExactHeapUsed
namespace Go.Proofs.Ytlnaodjhkchgjaa
theorem fnExactHeapUsed_holds : Rows.FnExactHeapUsedSaid := fnExactHeapUsed.proved
#print axioms fnExactHeapUsed_holds
end Go.Proofs.Ytlnaodjhkchgjaa
