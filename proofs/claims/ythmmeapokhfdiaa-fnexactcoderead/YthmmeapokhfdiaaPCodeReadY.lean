/-
  Proved: whatever bytes it is given, the law FnExactCodeRead returns true (the program's CodeRead answers as the specification's, every field, writes into no argument, and its answer owns its memory), and the bytes read as before. No condition.
-/
import Derived.Test.YthmmeapokhfdiaaRows
import Derived.WalkKit
import Derived.ProofKit
import Derived.OpenShut
import Derived.ShutString
import Derived.ChangeOld
import Derived.Below
import Derived.Test.YthmmeapokhfdiaaReadL
import Derived.Test.YthmmeapokhfdiaaZ1
namespace Go.Proofs.Ythmmeapokhfdiaa.fnExactCodeRead
open Go.ChangeShapes Go.WideShapes Go.ChangeAt Go.RowKit
open Go.ChangeMaps (open_string shut_string)
set_option linter.unusedVariables false
set_option linter.unusedSimpArgs false
set_option linter.unusedVariables false

theorem own : ownKnob Try.prog.godebug = none := by kernel_rfl
theorem laidOut : laidOutB Try.prog = true := by kernel_rfl

/-! ### STEP 1: THE WALK: the Go text returns true, AND WRITES NOTHING THAT WAS THERE: 'Below w.heap.size w w'' (Derived/Below.lean: '.refl', '.alloc', '.drew', '.setCell' at a new block, '.trans'). Open each 'IsRow' by 'rcases' AHEAD of 'go_enter'; part every test ahead of the walk. -/
set_option maxRecDepth 20000 in
set_option maxHeartbeats 8000000 in
theorem walk (a0 : Option Addr) (len0 cap0 : Nat) (z0 : List Int) (w : World) (w0 : IsRow .u8 w a0 len0 cap0 z0) :
    Calls Try.prog 4 #[.slice a0 len0 cap0] w fun e w' => e = .returned (.bool true) ∧ Below w.heap.size w w' := by
  obtain ⟨b, hbl, hbb, hby⟩ := bys_of_row w0
  have HB : Hid (isB b) := hbb
  have H : Hid (Bys w a0 b) := hby
  clear w0 hby hbb
  by_cases hbig : (1048576 : Int) < (len0 : Int)
  · go_enter Try.func4, Try.ntmps4
    go_wp2
    go_ret
    exact ⟨rfl, Below.refl _ _⟩
  have BN : Hid (b.length = len0) := hbl
  have hb20 : len0 ≤ 1048576 := by omega
  have BM : Hid (len0 ≤ 1048576) := hb20
  obtain ⟨V, hV⟩ : ∃ V, V = readB b := ⟨_, rfl⟩
  obtain ⟨m, hm⟩ : ∃ m, m = if readB b = true then (b.getD 0 0).toNat else 0 := ⟨_, rfl⟩
  have hb0 := isB_getD HB.out 0
  have LM0 : m ≤ 255 := by rw [hm]; split <;> omega
  have SP : Hid (∀ (W : World) (u : Option Addr) (uc : Nat), Bys W u b → Calls Try.prog 14 #[.slice u len0 uc] W fun r w' => ∃ u, r = .returned (.tuple #[u, .bool V]) ∧ InsW W.heap.size w'.heap.size w' u m (rdE b) (rdN b) ∧ Below W.heap.size W w') := fun W u uc hu => by rw [hV, hm, ← BN.out]; exact codeRead_spec hu HB.out (by rw [BN.out]; exact BM.out)
  have IM : Hid (∀ (W : World) (u : Option Addr), Bys W u b → Calls Try.prog 16 #[.slice u len0 len0] W fun r w' => ∃ u, r = .returned (.tuple #[u, .bool V]) ∧ OwnVInsI W.heap.size w'.heap.size w' u m (rdE b) (rdN b) ∧ Below W.heap.size W w') := fun W u hu => by
    have := codeRead_impl (c := len0) hu HB.out (by rw [BN.out]; exact Nat.le_refl _) (by rw [BN.out]; exact BM.out) (by have := BM.out; omega)
    rw [BN.out] at this
    rw [hV, hm]
    exact this
  have LN : Hid (∀ i, (rdN b i).length ≤ 1048576) := fun i => Nat.le_trans (rdN_le HB.out i) (by decide)
  have LM : Hid (m ≤ 1048576) := by show _ ≤ _; omega
  have LT : Hid (totN 5 (rdN b) m ≤ 1073741824) := by
    have : ∀ j, totN 5 (rdN b) j ≤ j * 65540 := fun j => by
      induction j with
      | zero => simp [totN]
      | succ j ih =>
        have r := rdN_le HB.out j
        rw [totN]
        omega
    have := this m
    show _ ≤ _
    omega
  clear hV hm LM0 hb0
  have hneV : (V != V) = false := by simp
  generalize rdE b = E at *
  have BL : Hid (b.length ≤ 1048576) := by show _ ≤ _; rw [BN.out]; exact BM.out
  go_enter Try.func4, Try.ntmps4
  go_wp2_with fail
  refine (toByteS_own H.out BN.out BM.out).mono ?_
  rintro r w1 ⟨rfl, hP, hb⟩
  have SZ1 : Hid (w.heap.size ≤ w1.heap.size) := hb.size
  have HT1 : Hid (Below w.heap.size w w1) := hb
  have T_1 : Hid (BPiece w.heap.size w1.heap.size w1 (.slice (some ⟨w.heap.size, 0, none⟩) len0 len0) b) := hP
  clear hP hb
  go_wp2_with fail
  refine (SP.out _ _ _ (bys_of_piece T_1.out BN.out)).mono ?_
  rintro r w2 ⟨uW, rfl, hN, hb⟩
  have SZ2 : Hid (w1.heap.size ≤ w2.heap.size) := hb.size
  have HT2 : Hid (Below w.heap.size w w2) := bTrans HT1.out hb
  have T_2 : Hid (BPiece w.heap.size w1.heap.size w2 (.slice (some ⟨w.heap.size, 0, none⟩) len0 len0) b) := T_1.out.keep hb
  clear T_1
  have W_2 : Hid (InsW w1.heap.size w2.heap.size w2 uW m E (rdN b)) := hN
  clear hN hb
  clear T_2
  go_wp2_with fail
  refine (toByteS_own (H.out.keep HT2.out) BN.out BM.out).mono ?_
  rintro r w3 ⟨rfl, hP, hb⟩
  have SZ3 : Hid (w2.heap.size ≤ w3.heap.size) := hb.size
  have HT3 : Hid (Below w.heap.size w w3) := bTrans HT2.out hb
  have W_3 : Hid (InsW w1.heap.size w2.heap.size w3 uW m E (rdN b)) := W_2.out.keep hb
  clear W_2
  have X_3 : Hid (BPiece w2.heap.size w3.heap.size w3 (.slice (some ⟨w2.heap.size, 0, none⟩) len0 len0) b) := hP
  clear hP hb
  go_wp2_with fail
  refine (IM.out _ _ (bys_of_piece X_3.out BN.out)).mono ?_
  rintro r w4 ⟨uG, rfl, hN, hb⟩
  have SZ4 : Hid (w3.heap.size ≤ w4.heap.size) := hb.size
  have HT4 : Hid (Below w.heap.size w w4) := bTrans HT3.out hb
  have W_4 : Hid (InsW w1.heap.size w2.heap.size w4 uW m E (rdN b)) := W_3.out.keep hb
  have X_4 : Hid (BPiece w2.heap.size w3.heap.size w4 (.slice (some ⟨w2.heap.size, 0, none⟩) len0 len0) b) := X_3.out.keep hb
  clear W_3
  clear X_3
  have G_4 : Hid (OwnVInsI w3.heap.size w4.heap.size w4 uG m E (rdN b)) := hN
  clear hN hb
  go_wp2_with fail
  refine (eqInstrS_same G_4.out.list W_4.out.list LN.out LM.out).mono ?_
  rintro r w5 ⟨rfl, hb⟩
  have SZ5 : Hid (w4.heap.size ≤ w5.heap.size) := hb.size
  have HT5 : Hid (Below w.heap.size w w5) := bTrans HT4.out hb
  have W_5 : Hid (InsW w1.heap.size w2.heap.size w5 uW m E (rdN b)) := W_4.out.keep hb
  have X_5 : Hid (BPiece w2.heap.size w3.heap.size w5 (.slice (some ⟨w2.heap.size, 0, none⟩) len0 len0) b) := X_4.out.keep hb
  have G_5 : Hid (OwnVInsI w3.heap.size w4.heap.size w5 uG m E (rdN b)) := G_4.out.keep hb
  clear W_4
  clear X_4
  clear G_4
  clear hb
  go_wp2_with fail
  refine (toByteS_own (H.out.keep HT5.out) BN.out BM.out).mono ?_
  rintro r w6 ⟨rfl, hP, hb⟩
  have SZ6 : Hid (w5.heap.size ≤ w6.heap.size) := hb.size
  have HT6 : Hid (Below w.heap.size w w6) := bTrans HT5.out hb
  have W_6 : Hid (InsW w1.heap.size w2.heap.size w6 uW m E (rdN b)) := W_5.out.keep hb
  have X_6 : Hid (BPiece w2.heap.size w3.heap.size w6 (.slice (some ⟨w2.heap.size, 0, none⟩) len0 len0) b) := X_5.out.keep hb
  have G_6 : Hid (OwnVInsI w3.heap.size w4.heap.size w6 uG m E (rdN b)) := G_5.out.keep hb
  clear W_5
  clear X_5
  clear G_5
  have Y_6 : Hid (BPiece w5.heap.size w6.heap.size w6 (.slice (some ⟨w5.heap.size, 0, none⟩) len0 len0) b) := hP
  clear hP hb
  go_wp2_with fail
  refine (eqB_piece X_6.out Y_6.out BL.out).mono ?_
  rintro r w7 ⟨rfl, hb⟩
  have SZ7 : Hid (w6.heap.size ≤ w7.heap.size) := hb.size
  have HT7 : Hid (Below w.heap.size w w7) := bTrans HT6.out hb
  have W_7 : Hid (InsW w1.heap.size w2.heap.size w7 uW m E (rdN b)) := W_6.out.keep hb
  have X_7 : Hid (BPiece w2.heap.size w3.heap.size w7 (.slice (some ⟨w2.heap.size, 0, none⟩) len0 len0) b) := X_6.out.keep hb
  have G_7 : Hid (OwnVInsI w3.heap.size w4.heap.size w7 uG m E (rdN b)) := G_6.out.keep hb
  have Y_7 : Hid (BPiece w5.heap.size w6.heap.size w7 (.slice (some ⟨w5.heap.size, 0, none⟩) len0 len0) b) := Y_6.out.keep hb
  clear W_6
  clear X_6
  clear G_6
  clear Y_6
  clear hb
  clear Y_7
  go_wp2_with fail
  refine (markB_piece X_7.out BL.out 1 (by decide) (by decide)).mono ?_
  rintro r w8 ⟨rfl, _, hw⟩
  have SZ8 : Hid (w7.heap.size ≤ w8.heap.size) := hw.size
  have HT8 : Hid (Below w.heap.size w w8) := HT7.out.trans (hw.below (by have := SZ1.out; have := SZ2.out; have := SZ3.out; have := SZ4.out; have := SZ5.out; have := SZ6.out; have := SZ7.out; omega) HT7.out.size)
  have W_8 : Hid (InsW w1.heap.size w2.heap.size w8 uW m E (rdN b)) := W_7.out.win hw (by have := SZ1.out; have := SZ2.out; have := SZ3.out; have := SZ4.out; have := SZ5.out; have := SZ6.out; have := SZ7.out; omega)
  have G_8 : Hid (OwnVInsI w3.heap.size w4.heap.size w8 uG m E (rdN b)) := G_7.out.win hw (by have := SZ1.out; have := SZ2.out; have := SZ3.out; have := SZ4.out; have := SZ5.out; have := SZ6.out; have := SZ7.out; omega)
  clear W_7
  clear X_7
  clear G_7
  clear hw
  have kn : ¬ (1 + (b.length : Int) < 0) := by omega
  generalize (1 + (b.length : Int)) = KK at *
  go_wp2_with fail
  refine (eqInstrS_same G_8.out.list W_8.out.list LN.out LM.out).mono ?_
  rintro r w9 ⟨rfl, hb⟩
  have SZ9 : Hid (w8.heap.size ≤ w9.heap.size) := hb.size
  have HT9 : Hid (Below w.heap.size w w9) := bTrans HT8.out hb
  have W_9 : Hid (InsW w1.heap.size w2.heap.size w9 uW m E (rdN b)) := W_8.out.keep hb
  have G_9 : Hid (OwnVInsI w3.heap.size w4.heap.size w9 uG m E (rdN b)) := G_8.out.keep hb
  clear W_8
  clear G_8
  clear hb
  go_wp2_with fail
  refine (G_9.out.mark LN.out LM.out 1 (by decide) (by decide)).mono ?_
  rintro r w10 ⟨rfl, ⟨E9, N9, hG, hM⟩, hw⟩
  have SZ10 : Hid (w9.heap.size ≤ w10.heap.size) := hw.size
  have HT10 : Hid (Below w.heap.size w w10) := HT9.out.trans (hw.below (by have := SZ1.out; have := SZ2.out; have := SZ3.out; have := SZ4.out; have := SZ5.out; have := SZ6.out; have := SZ7.out; have := SZ8.out; have := SZ9.out; omega) HT9.out.size)
  have W_10 : Hid (InsW w1.heap.size w2.heap.size w10 uW m E (rdN b)) := W_9.out.win hw (by have := SZ1.out; have := SZ2.out; have := SZ3.out; have := SZ4.out; have := SZ5.out; have := SZ6.out; have := SZ7.out; have := SZ8.out; have := SZ9.out; omega)
  clear W_9
  clear G_9
  have G_10 : Hid (OwnVInsI w3.heap.size w4.heap.size w10 uG m E9 N9) := hG
  have MK : Hid (MkdInsI 1 (rdN b) m E9 N9) := hM
  clear hG hw hM
  have qn : ¬ (1 + (totN 5 (rdN b) m : Int) < 0) := by omega
  have qm : ((1 + (totN 5 (rdN b) m : Int)) != (1 + (totN 5 (rdN b) m : Int))) = false := by simp
  go_wp2_with fail
  refine (G_10.out.held 1 MK.out LN.out LM.out LT.out (by decide) (by decide)).mono ?_
  rintro r wz ⟨rfl, hz⟩
  subst wz
  go_wp2_with fail
  refine (toByteS_own (H.out.keep HT10.out) BN.out BM.out).mono ?_
  rintro r w11 ⟨rfl, hP, hb⟩
  have SZ11 : Hid (w10.heap.size ≤ w11.heap.size) := hb.size
  have HT11 : Hid (Below w.heap.size w w11) := bTrans HT10.out hb
  have W_11 : Hid (InsW w1.heap.size w2.heap.size w11 uW m E (rdN b)) := W_10.out.keep hb
  have G_11 : Hid (OwnVInsI w3.heap.size w4.heap.size w11 uG m E9 N9) := G_10.out.keep hb
  clear W_10
  clear G_10
  have Z_11 : Hid (BPiece w10.heap.size w11.heap.size w11 (.slice (some ⟨w10.heap.size, 0, none⟩) len0 len0) b) := hP
  clear hP hb
  go_wp2_with fail
  refine (IM.out _ _ (bys_of_piece Z_11.out BN.out)).mono ?_
  rintro r w12 ⟨uJ, rfl, hN, hb⟩
  have SZ12 : Hid (w11.heap.size ≤ w12.heap.size) := hb.size
  have HT12 : Hid (Below w.heap.size w w12) := bTrans HT11.out hb
  have W_12 : Hid (InsW w1.heap.size w2.heap.size w12 uW m E (rdN b)) := W_11.out.keep hb
  have G_12 : Hid (OwnVInsI w3.heap.size w4.heap.size w12 uG m E9 N9) := G_11.out.keep hb
  have Z_12 : Hid (BPiece w10.heap.size w11.heap.size w12 (.slice (some ⟨w10.heap.size, 0, none⟩) len0 len0) b) := Z_11.out.keep hb
  clear W_11
  clear G_11
  clear Z_11
  have J_12 : Hid (OwnVInsI w11.heap.size w12.heap.size w12 uJ m E (rdN b)) := hN
  clear hN hb
  go_wp2_with fail
  refine (eqInstrS_same J_12.out.list W_12.out.list LN.out LM.out).mono ?_
  rintro r w13 ⟨rfl, hb⟩
  have SZ13 : Hid (w12.heap.size ≤ w13.heap.size) := hb.size
  have HT13 : Hid (Below w.heap.size w w13) := bTrans HT12.out hb
  have W_13 : Hid (InsW w1.heap.size w2.heap.size w13 uW m E (rdN b)) := W_12.out.keep hb
  have G_13 : Hid (OwnVInsI w3.heap.size w4.heap.size w13 uG m E9 N9) := G_12.out.keep hb
  have Z_13 : Hid (BPiece w10.heap.size w11.heap.size w13 (.slice (some ⟨w10.heap.size, 0, none⟩) len0 len0) b) := Z_12.out.keep hb
  have J_13 : Hid (OwnVInsI w11.heap.size w12.heap.size w13 uJ m E (rdN b)) := J_12.out.keep hb
  clear W_12
  clear G_12
  clear Z_12
  clear J_12
  clear hb
  go_wp2_with fail
  refine (G_13.out.held 1 MK.out LN.out LM.out LT.out (by decide) (by decide)).mono ?_
  rintro r wz ⟨rfl, hz⟩
  subst wz
  go_wp2
  go_ret
  exact ⟨rfl, HT13.out⟩

/-! ### THE ROW's STEP: WRITTEN OUT: LEAVE IT -/
set_option maxRecDepth 100000 in
theorem lifted (os : Os) (started : os.Started) (H : Type) (enc : TypeId × Value → H) :
    ReturnsInHanded {} Try.checked os 4 .any (Rows.fnExactCodeReadSpec.pre6 enc Try.prog Try.f4 Rows.fnExactCodeReadRow.domain false) (Rows.fnExactCodeReadSpec.post enc Try.prog Try.f4 false true false false) := by
  refine returnsInHanded_of_change (C := Try.checked) own started (by kernel_rfl) Try.func4
    (ChangeSpec.witness6 (enc := enc) (C := Try.checked) false ⟨#[], #[.slice none 0 0], []⟩ 8 (by kernel_rfl) (by kernel_rfl) (by kernel_rfl) (by kernel_rfl)) ?_
  intro W base args ds gs before hval0 hW hcnd _
  have hval : ∀ (j : Nat) t v, Try.f4.params[j]? = some t → args[j]? = some v → Value.okWide Try.prog W .any base t v := hval0
  have hW' := hW
  obtain ⟨p, q, hA0, hV, rfl, hfz, hnd⟩ := hW
  have hA : DataW.TrodAll enc Try.prog W 0 (fun _ => true) true Try.f4.params.toList args.toList ds p := hA0
  rw [Try.params4] at hA hval
  obtain ⟨v0, vs0, d0, ds0, p0, q0, hargs, rfl, rfl, h0, r0⟩ := trodAll_cons hA
  obtain ⟨rfl, rfl, rfl⟩ := trodAll_nil r0
  obtain rfl : args = #[v0] := by cases args; simp_all
  obtain ⟨rfl, rfl⟩ := trodVars_none hV
  obtain ⟨a0, len0, cap0, rfl⟩ := okWide_slice Try.underlying24 (hval 0 24 v0 rfl rfl)
  have k0 := h0
  have lt0 : ∀ x ∈ p0, x.block < W.heap.size := by obtain ⟨m, hm⟩ := k0; exact DataW.trod_lt m _ _ _ hm
  obtain ⟨z0, w0⟩ : ∃ zs, IsRow .u8 W a0 len0 cap0 zs := by
    obtain ⟨fuel, hf⟩ := h0
    rcases open_ints Try.underlying24 Try.underlying5 (by kernel_rfl) hf with ⟨hcs, _⟩ | ⟨x, l, c, zs, hcs, _, hl, hm, hz, _, hcell, hwz⟩
    · simp [Value.cells] at hcs
      obtain ⟨rfl, rfl, rfl⟩ := hcs
      exact ⟨[], .inl ⟨rfl, rfl, rfl, rfl⟩⟩
    · simp [Value.cells] at hcs
      obtain ⟨rfl, rfl, rfl⟩ := hcs
      exact ⟨zs, .inr ⟨_, rfl, hl, hm, by simpa using hz, hcell, hwz⟩⟩
  clear hA0 hval0
  refine (walk a0 len0 cap0 z0 W w0).mono fun e W' ⟨he, bel⟩ => ?_
  subst he
  exact ⟨_, rfl, _, _, _, [], _, [], hW', trodAll_mk1 (shut_bool Try.underlying4 _), (trodAll_cons_mk (Below.trod laidOut (by kernel_rfl) (of_decide_eq_true (by kernel_rfl)) k0 bel lt0) trodAll_mk0), rfl, bel.frame _, fun h => by cases h⟩

theorem over : Rows.fnExactCodeReadRow.holds Try.pinned (OpenSpec.ofChange Rows.fnExactCodeReadSpec) :=
  OpenClaim.holds_of_wide 4 Try.f4 rfl rfl rfl rfl rfl rfl rfl ⟨rfl, rfl, rfl, rfl, rfl⟩ rfl rfl rfl rfl rfl (by kernel_rfl) Try.func4 (by kernel_rfl)
    (of_decide_eq_true (by kernel_rfl)) (by unfold Func.isWrapper; first | (rw [if_pos (by decide +kernel)]; kernel_rfl) | (rw [if_neg (by decide +kernel)]; exact ⟨rfl, rfl⟩))
    (fun os started H enc _ => lifted os started H enc)

/-- ████ THE STATEMENT ████ -/
theorem proved : Rows.FnExactCodeReadSaid := over
end Go.Proofs.Ythmmeapokhfdiaa.fnExactCodeRead
namespace Go.Proofs.Ythmmeapokhfdiaa
theorem fnExactCodeRead_holds : Rows.FnExactCodeReadSaid := fnExactCodeRead.proved
#print axioms fnExactCodeRead_holds
end Go.Proofs.Ythmmeapokhfdiaa
