/-
  Proved: whatever code it is given, the law FnExactSpans returns true (the program's Spans answers as the specification's, every field, writes into no argument, and its answer owns its memory), and the code reads as before. No condition.
-/
import Derived.Test.YtpommfkbkknjaaaRows
import Derived.WalkKit
import Derived.ProofKit
import Derived.OpenShut
import Derived.ShutString
import Derived.ChangeOld
import Derived.Below
import Derived.Deep.Cut
import Derived.Test.YtpommfkbkknjaaaFrame
import Derived.Test.YtpommfkbkknjaaaSpanI3
import Derived.Test.YtpommfkbkknjaaaSpanT
import Derived.Test.YtpommfkbkknjaaaCodeF
import Derived.Test.YtpommfkbkknjaaaCodeT
import Derived.Test.YtpommfkbkknjaaaZ1
namespace Go.Proofs.Ytpommfkbkknjaaa.fnExactSpans
open Go.ChangeShapes Go.WideShapes Go.ChangeAt Go.RowKit
open Go.ChangeMaps (open_string shut_string)
set_option linter.unusedVariables false
set_option linter.unusedSimpArgs false

theorem own : ownKnob Try.prog.godebug = none := by kernel_rfl
theorem laidOut : laidOutB Try.prog = true := by kernel_rfl

set_option maxRecDepth 20000 in
set_option maxHeartbeats 8000000 in
/-- The walk: the law returns true, and writes nothing that was there. -/
theorem walk (v0 : Value) (n0 : Nat) (E0 : Nat → Nat → Int) (N0 : Nat → List Int) (w : World) (w0 : InsI w v0 n0 E0 N0) (b0 : n0 ≤ 9223372036854775807) (c0 : ∀ i, (N0 i).length ≤ 9223372036854775807) (z0 : ∀ i, n0 ≤ i → N0 i = []) :
    Calls Try.prog 3 #[v0] w fun e w' => e = .returned (.bool true) ∧ Below w.heap.size w w' := by
  have H : Hid (InsI w v0 n0 E0 N0) := w0
  have ZZ : Hid (∀ i, n0 ≤ i → N0 i = []) := z0
  obtain ⟨a, c, rfl, _⟩ := w0
  go_enter Try.func3, Try.ntmps3
  go_wp2_with fail
  refine (szInstrS_at H.out c0 b0).mono ?_
  rintro r w1 ⟨x, rfl, _, hx, hb⟩
  have SZ1 : Hid (w.heap.size ≤ w1.heap.size) := hb.size
  have HT1 : Hid (Below w.heap.size w w1) := hb
  clear hb
  by_cases h0 : x < 0
  · clear hx
    go_wp2
    go_ret
    exact ⟨rfl, HT1.out⟩
  have BN : Hid (n0 ≤ 1048576) := (hx (by omega)).1
  have BL : Hid (∀ i, (N0 i).length ≤ 1048576) := fun i => by
    by_cases hi : i < n0
    · exact (hx (by omega)).2 i hi
    · rw [ZZ.out i (by omega)]; simp
  clear hx c0 b0 z0 ZZ
  obtain ⟨P, hP⟩ : ∃ P, P = spnL n0 E0 N0 := ⟨_, rfl⟩
  obtain ⟨PE, hPE⟩ : ∃ PE : Nat → Spn, PE = fun i => P.getD i spn0 := ⟨_, rfl⟩
  have SP : Hid (∀ (W : World) (u : Value), InsI W u n0 E0 N0 → Calls Try.prog 5 #[u] W fun r w' => ∃ a c, r = .returned (.slice a P.length c) ∧ SPiece W.heap.size w'.heap.size w' (.slice a P.length c) P.length PE ∧ Below W.heap.size W w') := fun W u hu => by
    rw [hPE, hP]
    refine (spans_spec hu BL.out BN.out).mono ?_
    rintro r w' ⟨a, c, rfl, hn, hb⟩
    exact ⟨a, c, rfl, hn.piece, hb⟩
  have IM : Hid (∀ (W : World) (o : Nat), InsI W (.slice (some ⟨o, 0, none⟩) n0 n0) n0 E0 N0 → Calls Try.prog 7 #[.slice (some ⟨o, 0, none⟩) n0 n0] W fun r w' => ∃ a c, r = .returned (.slice a P.length c) ∧ SPiece W.heap.size w'.heap.size w' (.slice a P.length c) P.length PE ∧ Below W.heap.size W w') := fun W o hu => by
    rw [hPE, hP]
    refine (spans_impl hu (Nat.le_refl _) BL.out BN.out).mono ?_
    rintro r w' ⟨a, c, rfl, hn, hb⟩
    exact ⟨a, c, rfl, hn.piece, hb⟩
  have LP : Hid (P.length ≤ 1048576) := by
    show _ ≤ _
    rw [hP]
    have := spnL_len (n := n0) (E := E0) (N := N0)
    omega
  clear hP hPE
  generalize P.length = pn at *
  go_wp2_with fail
  refine (toInstrS_own (H.out.keep HT1.out) BL.out BN.out).mono ?_
  rintro r w2 ⟨oT, rfl, hoT, hO, hb⟩
  have SZ2 : Hid (w1.heap.size ≤ w2.heap.size) := hb.size
  have HT2 : Hid (Below w.heap.size w w2) := bTrans HT1.out hb
  have T_2 : Hid (OwnInsI oT w2.heap.size n0 n0 w2 E0 N0) := hO
  have LOT : Hid (w1.heap.size ≤ oT ∧ oT < w2.heap.size) := ⟨hoT, hO.lthi.1⟩
  clear hO hb hoT
  go_wp2_with fail
  refine (SP.out _ _ T_2.out.list).mono ?_
  rintro r w3 ⟨aW, cW, rfl, hN, hb⟩
  have SZ3 : Hid (w2.heap.size ≤ w3.heap.size) := hb.size
  have HT3 : Hid (Below w.heap.size w w3) := bTrans HT2.out hb
  have T_3 : Hid (OwnInsI oT w2.heap.size n0 n0 w3 E0 N0) := T_2.out.keep hb
  clear T_2
  have W_3 : Hid (SPiece w2.heap.size w3.heap.size w3 (.slice aW pn cW) pn PE) := hN
  clear hN hb
  clear T_3
  go_wp2_with fail
  refine (toInstrS_own (H.out.keep HT3.out) BL.out BN.out).mono ?_
  rintro r w4 ⟨oX, rfl, hoX, hO, hb⟩
  have SZ4 : Hid (w3.heap.size ≤ w4.heap.size) := hb.size
  have HT4 : Hid (Below w.heap.size w w4) := bTrans HT3.out hb
  have W_4 : Hid (SPiece w2.heap.size w3.heap.size w4 (.slice aW pn cW) pn PE) := W_3.out.keep hb
  clear W_3
  have X_4 : Hid (OwnInsI oX w4.heap.size n0 n0 w4 E0 N0) := hO
  have LOX : Hid (w3.heap.size ≤ oX ∧ oX < w4.heap.size) := ⟨hoX, hO.lthi.1⟩
  clear hO hb hoX
  go_wp2_with fail
  refine (IM.out _ _ X_4.out.list).mono ?_
  rintro r w5 ⟨aG, cG, rfl, hN, hb⟩
  have SZ5 : Hid (w4.heap.size ≤ w5.heap.size) := hb.size
  have HT5 : Hid (Below w.heap.size w w5) := bTrans HT4.out hb
  have W_5 : Hid (SPiece w2.heap.size w3.heap.size w5 (.slice aW pn cW) pn PE) := W_4.out.keep hb
  have X_5 : Hid (OwnInsI oX w4.heap.size n0 n0 w5 E0 N0) := X_4.out.keep hb
  clear W_4
  clear X_4
  have G_5 : Hid (SPiece w4.heap.size w5.heap.size w5 (.slice aG pn cG) pn PE) := hN
  clear hN hb
  go_wp2_with fail
  refine (eqSpanS_same G_5.out.ssA W_5.out.ssA LP.out).mono ?_
  rintro r w6 ⟨rfl, hb⟩
  have SZ6 : Hid (w5.heap.size ≤ w6.heap.size) := hb.size
  have HT6 : Hid (Below w.heap.size w w6) := bTrans HT5.out hb
  have W_6 : Hid (SPiece w2.heap.size w3.heap.size w6 (.slice aW pn cW) pn PE) := W_5.out.keep hb
  have X_6 : Hid (OwnInsI oX w4.heap.size n0 n0 w6 E0 N0) := X_5.out.keep hb
  have G_6 : Hid (SPiece w4.heap.size w5.heap.size w6 (.slice aG pn cG) pn PE) := G_5.out.keep hb
  clear W_5
  clear X_5
  clear G_5
  clear hb
  go_wp2_with fail
  refine (toInstrS_own (H.out.keep HT6.out) BL.out BN.out).mono ?_
  rintro r w7 ⟨oY, rfl, hoY, hO, hb⟩
  have SZ7 : Hid (w6.heap.size ≤ w7.heap.size) := hb.size
  have HT7 : Hid (Below w.heap.size w w7) := bTrans HT6.out hb
  have W_7 : Hid (SPiece w2.heap.size w3.heap.size w7 (.slice aW pn cW) pn PE) := W_6.out.keep hb
  have X_7 : Hid (OwnInsI oX w4.heap.size n0 n0 w7 E0 N0) := X_6.out.keep hb
  have G_7 : Hid (SPiece w4.heap.size w5.heap.size w7 (.slice aG pn cG) pn PE) := G_6.out.keep hb
  clear W_6
  clear X_6
  clear G_6
  have Y_7 : Hid (OwnInsI oY w7.heap.size n0 n0 w7 E0 N0) := hO
  have LOY : Hid (w6.heap.size ≤ oY ∧ oY < w7.heap.size) := ⟨hoY, hO.lthi.1⟩
  clear hO hb hoY
  go_wp2_with fail
  refine (eqInstrS_same X_7.out.list Y_7.out.list BL.out BN.out).mono ?_
  rintro r w8 ⟨rfl, hb⟩
  have SZ8 : Hid (w7.heap.size ≤ w8.heap.size) := hb.size
  have HT8 : Hid (Below w.heap.size w w8) := bTrans HT7.out hb
  have W_8 : Hid (SPiece w2.heap.size w3.heap.size w8 (.slice aW pn cW) pn PE) := W_7.out.keep hb
  have X_8 : Hid (OwnInsI oX w4.heap.size n0 n0 w8 E0 N0) := X_7.out.keep hb
  have G_8 : Hid (SPiece w4.heap.size w5.heap.size w8 (.slice aG pn cG) pn PE) := G_7.out.keep hb
  have Y_8 : Hid (OwnInsI oY w7.heap.size n0 n0 w8 E0 N0) := Y_7.out.keep hb
  clear W_7
  clear X_7
  clear G_7
  clear Y_7
  clear hb
  clear Y_8
  go_wp2_with fail
  refine (markInstrS_at X_8.out BL.out BN.out 1 (by decide) (by decide)).mono ?_
  rintro r w9 ⟨rfl, _, hw⟩
  have SZ9 : Hid (w8.heap.size ≤ w9.heap.size) := hw.size
  have HT9 : Hid (Below w.heap.size w w9) := HT8.out.trans (hw.below (by have := SZ1.out; have := SZ2.out; have := LOT.out; have := SZ3.out; have := SZ4.out; have := LOX.out; have := SZ5.out; have := SZ6.out; have := SZ7.out; have := LOY.out; have := SZ8.out; omega) HT8.out.size)
  have W_9 : Hid (SPiece w2.heap.size w3.heap.size w9 (.slice aW pn cW) pn PE) := W_8.out.win hw (by have := SZ1.out; have := SZ2.out; have := LOT.out; have := SZ3.out; have := SZ4.out; have := LOX.out; have := SZ5.out; have := SZ6.out; have := SZ7.out; have := LOY.out; have := SZ8.out; omega)
  have G_9 : Hid (SPiece w4.heap.size w5.heap.size w9 (.slice aG pn cG) pn PE) := G_8.out.win hw (by have := SZ1.out; have := SZ2.out; have := LOT.out; have := SZ3.out; have := SZ4.out; have := LOX.out; have := SZ5.out; have := SZ6.out; have := SZ7.out; have := LOY.out; have := SZ8.out; omega)
  clear W_8
  clear X_8
  clear G_8
  clear hw
  have kn : ¬ (1 + (totN 5 N0 n0 : Int) < 0) := by omega
  generalize (1 + (totN 5 N0 n0 : Int)) = K at *
  go_wp2_with fail
  refine (eqSpanS_same G_9.out.ssA W_9.out.ssA LP.out).mono ?_
  rintro r w10 ⟨rfl, hb⟩
  have SZ10 : Hid (w9.heap.size ≤ w10.heap.size) := hb.size
  have HT10 : Hid (Below w.heap.size w w10) := bTrans HT9.out hb
  have W_10 : Hid (SPiece w2.heap.size w3.heap.size w10 (.slice aW pn cW) pn PE) := W_9.out.keep hb
  have G_10 : Hid (SPiece w4.heap.size w5.heap.size w10 (.slice aG pn cG) pn PE) := G_9.out.keep hb
  clear W_9
  clear G_9
  clear hb
  go_wp2_with fail
  refine (markSpanS_piece G_10.out LP.out 1 (by decide) (by decide)).mono ?_
  rintro r w11 ⟨rfl, hG, hw⟩
  have SZ11 : Hid (w10.heap.size ≤ w11.heap.size) := hw.size
  have HT11 : Hid (Below w.heap.size w w11) := HT10.out.trans (hw.below (by have := SZ1.out; have := SZ2.out; have := LOT.out; have := SZ3.out; have := SZ4.out; have := LOX.out; have := SZ5.out; have := SZ6.out; have := SZ7.out; have := LOY.out; have := SZ8.out; have := SZ9.out; have := SZ10.out; omega) HT10.out.size)
  have W_11 : Hid (SPiece w2.heap.size w3.heap.size w11 (.slice aW pn cW) pn PE) := W_10.out.win hw (by have := SZ1.out; have := SZ2.out; have := LOT.out; have := SZ3.out; have := SZ4.out; have := LOX.out; have := SZ5.out; have := SZ6.out; have := SZ7.out; have := LOY.out; have := SZ8.out; have := SZ9.out; have := SZ10.out; omega)
  clear W_10
  clear G_10
  have G_11 : Hid (SPiece w4.heap.size w5.heap.size w11 (.slice aG pn cG) pn (mkS 1)) := hG
  clear hG hw
  have qn : ¬ (1 + 2 * (pn : Int) < 0) := by omega
  have qm : ((1 + 2 * (pn : Int)) != (1 + 2 * (pn : Int))) = false := by simp
  go_wp2_with fail
  refine (heldSpanS_at 1 G_11.out.ssA LP.out (by decide) (by decide)).mono ?_
  rintro r wz ⟨rfl, hz⟩
  subst wz
  go_wp2_with fail
  refine (toInstrS_own (H.out.keep HT11.out) BL.out BN.out).mono ?_
  rintro r w12 ⟨oZ, rfl, hoZ, hO, hb⟩
  have SZ12 : Hid (w11.heap.size ≤ w12.heap.size) := hb.size
  have HT12 : Hid (Below w.heap.size w w12) := bTrans HT11.out hb
  have W_12 : Hid (SPiece w2.heap.size w3.heap.size w12 (.slice aW pn cW) pn PE) := W_11.out.keep hb
  have G_12 : Hid (SPiece w4.heap.size w5.heap.size w12 (.slice aG pn cG) pn (mkS 1)) := G_11.out.keep hb
  clear W_11
  clear G_11
  have Z_12 : Hid (OwnInsI oZ w12.heap.size n0 n0 w12 E0 N0) := hO
  have LOZ : Hid (w11.heap.size ≤ oZ ∧ oZ < w12.heap.size) := ⟨hoZ, hO.lthi.1⟩
  clear hO hb hoZ
  go_wp2_with fail
  refine (IM.out _ _ Z_12.out.list).mono ?_
  rintro r w13 ⟨aJ, cJ, rfl, hN, hb⟩
  have SZ13 : Hid (w12.heap.size ≤ w13.heap.size) := hb.size
  have HT13 : Hid (Below w.heap.size w w13) := bTrans HT12.out hb
  have W_13 : Hid (SPiece w2.heap.size w3.heap.size w13 (.slice aW pn cW) pn PE) := W_12.out.keep hb
  have G_13 : Hid (SPiece w4.heap.size w5.heap.size w13 (.slice aG pn cG) pn (mkS 1)) := G_12.out.keep hb
  have Z_13 : Hid (OwnInsI oZ w12.heap.size n0 n0 w13 E0 N0) := Z_12.out.keep hb
  clear W_12
  clear G_12
  clear Z_12
  have J_13 : Hid (SPiece w12.heap.size w13.heap.size w13 (.slice aJ pn cJ) pn PE) := hN
  clear hN hb
  go_wp2_with fail
  refine (eqSpanS_same J_13.out.ssA W_13.out.ssA LP.out).mono ?_
  rintro r w14 ⟨rfl, hb⟩
  have SZ14 : Hid (w13.heap.size ≤ w14.heap.size) := hb.size
  have HT14 : Hid (Below w.heap.size w w14) := bTrans HT13.out hb
  have W_14 : Hid (SPiece w2.heap.size w3.heap.size w14 (.slice aW pn cW) pn PE) := W_13.out.keep hb
  have G_14 : Hid (SPiece w4.heap.size w5.heap.size w14 (.slice aG pn cG) pn (mkS 1)) := G_13.out.keep hb
  have Z_14 : Hid (OwnInsI oZ w12.heap.size n0 n0 w14 E0 N0) := Z_13.out.keep hb
  have J_14 : Hid (SPiece w12.heap.size w13.heap.size w14 (.slice aJ pn cJ) pn PE) := J_13.out.keep hb
  clear W_13
  clear G_13
  clear Z_13
  clear J_13
  clear hb
  go_wp2_with fail
  refine (heldSpanS_at 1 G_14.out.ssA LP.out (by decide) (by decide)).mono ?_
  rintro r wz ⟨rfl, hz⟩
  subst wz
  go_wp2
  go_ret
  exact ⟨rfl, HT14.out⟩

set_option maxRecDepth 100000 in
theorem lifted (os : Os) (started : os.Started) (H : Type) (enc : TypeId × Value → H) :
    ReturnsInHanded {} Try.checked os 3 .any (Rows.fnExactSpansSpec.pre6 enc Try.prog Try.f3 Rows.fnExactSpansRow.domain false) (Rows.fnExactSpansSpec.post enc Try.prog Try.f3 false true false false) := by
  refine returnsInHanded_of_change (C := Try.checked) own started (by kernel_rfl) Try.func3
    (ChangeSpec.witness6 (enc := enc) (C := Try.checked) false ⟨#[], #[.slice none 0 0], []⟩ 8 (by kernel_rfl) (by kernel_rfl) (by kernel_rfl) (by kernel_rfl)) ?_
  intro W base args ds gs before hval0 hW hcnd _
  have hval : ∀ (j : Nat) t v, Try.f3.params[j]? = some t → args[j]? = some v → Value.okWide Try.prog W .any base t v := hval0
  have hW' := hW
  obtain ⟨p, q, hA0, hV, rfl, hfz, hnd⟩ := hW
  have hA : DataW.TrodAll enc Try.prog W 0 (fun _ => true) true Try.f3.params.toList args.toList ds p := hA0
  rw [Try.params3] at hA hval
  obtain ⟨v0, vs0, e0, es0, p0, q0, hargs, rfl, rfl, h0, r0⟩ := trodAll_cons hA
  obtain ⟨rfl, rfl, rfl⟩ := trodAll_nil r0
  obtain rfl : args = #[v0] := by cases args; simp_all
  obtain ⟨rfl, rfl⟩ := trodVars_none hV
  have k0 := h0
  have lt0 : ∀ x ∈ p0, x.block < W.heap.size := by obtain ⟨m, hm⟩ := k0; exact DataW.trod_lt m _ _ _ hm
  obtain ⟨x0, len0, cap0, rfl⟩ := okWide_slice Try.underlying22 (hval 0 22 v0 rfl rfl)
  obtain ⟨n0, E0, N0, w0, b0, c0, z0⟩ := (by obtain ⟨fuel, hf⟩ := h0; exact cell_instrs hf : ∃ (n : Nat) (E : Nat → Nat → Int) (N : Nat → List Int), InsI W (.slice x0 len0 cap0) n E N ∧ n ≤ 9223372036854775807 ∧ (∀ i, (N i).length ≤ 9223372036854775807) ∧ ∀ i, n ≤ i → N i = [])
  clear hA0 hval0
  refine (walk _ n0 E0 N0 W w0 b0 c0 z0).mono fun e W' ⟨he, bel⟩ => ?_
  subst he
  exact ⟨_, rfl, _, _, _, [], _, [], hW', trodAll_mk1 (shut_bool Try.underlying4 _), (trodAll_cons_mk (Below.trod laidOut (by kernel_rfl) (of_decide_eq_true (by kernel_rfl)) k0 bel lt0) trodAll_mk0), rfl, bel.frame _, fun h => by cases h⟩

theorem over : Rows.fnExactSpansRow.holds Try.pinned (OpenSpec.ofChange Rows.fnExactSpansSpec) :=
  OpenClaim.holds_of_wide 3 Try.f3 rfl rfl rfl rfl rfl rfl rfl ⟨rfl, rfl, rfl, rfl, rfl⟩ rfl rfl rfl rfl rfl (by kernel_rfl) Try.func3 (by kernel_rfl)
    (of_decide_eq_true (by kernel_rfl)) (by unfold Func.isWrapper; first | (rw [if_pos (by decide +kernel)]; kernel_rfl) | (rw [if_neg (by decide +kernel)]; exact ⟨rfl, rfl⟩))
    (fun os started H enc _ => lifted os started H enc)

/-- The statement. -/
theorem proved : Rows.FnExactSpansSaid := over
end Go.Proofs.Ytpommfkbkknjaaa.fnExactSpans
namespace Go.Proofs.Ytpommfkbkknjaaa
theorem fnExactSpans_holds : Rows.FnExactSpansSaid := fnExactSpans.proved
#print axioms fnExactSpans_holds
end Go.Proofs.Ytpommfkbkknjaaa
