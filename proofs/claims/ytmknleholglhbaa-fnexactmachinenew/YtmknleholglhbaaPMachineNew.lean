/-
  Proved: whatever letters and steps it is given, the law FnExactMachineNew returns true (the program's MachineNew answers as the specification's, every field, writes into no argument, and its answer owns its memory), and the letters read as before. No condition.
-/
import Derived.Test.YtmknleholglhbaaRows
import Derived.WalkKit
import Derived.ProofKit
import Derived.OpenShut
import Derived.ShutString
import Derived.ChangeOld
import Derived.Below
import Derived.Deep.Cut
import Derived.Test.YtmknleholglhbaaFrame
import Derived.Test.YtmknleholglhbaaMachO
import Derived.Test.YtmknleholglhbaaVarsF
import Derived.Test.YtmknleholglhbaaVarsX
namespace Go.Proofs.Ytmknleholglhbaa.fnExactMachineNew
open Go.ChangeShapes Go.WideShapes Go.ChangeAt Go.RowKit
open Go.ChangeMaps (open_string shut_string)
set_option linter.unusedVariables false
set_option linter.unusedSimpArgs false

theorem own : ownKnob Try.prog.godebug = none := by kernel_rfl
theorem laidOut : laidOutB Try.prog = true := by kernel_rfl

set_option maxRecDepth 20000 in
set_option maxHeartbeats 8000000 in
/-- The walk: the law returns true, and writes nothing that was there. -/
theorem walk (v0 : Value) (n0 : Nat) (B0 : Nat → Bool) (S0 D0 : Nat → List Int) (a1 : Int) (w : World) (w0 : VarsI w v0 n0 B0 S0 D0) (b0 : n0 ≤ 9223372036854775807) (c0 : ∀ i, (S0 i).length ≤ 9223372036854775807 ∧ (D0 i).length ≤ 9223372036854775807) (z0 : ∀ i, n0 ≤ i → S0 i = [] ∧ D0 i = []) (w1 : (Lit.int .i64 a1).wf = true) :
    Calls Try.prog 3 #[v0, .int .i64 a1] w fun e w' => e = .returned (.bool true) ∧ Below w.heap.size w w' := by
  have H : Hid (VarsI w v0 n0 B0 S0 D0) := w0
  have ZZ : Hid (∀ i, n0 ≤ i → S0 i = [] ∧ D0 i = []) := z0
  obtain ⟨a, c, rfl, _⟩ := w0
  go_enter Try.func3, Try.ntmps3
  go_wp2_with fail
  refine (sz_varsT H.out c0 b0).mono ?_
  rintro r w1 ⟨x, rfl, hx, hb⟩
  have SZ1 : Hid (w.heap.size ≤ w1.heap.size) := hb.size
  have HT1 : Hid (Below w.heap.size w w1) := hb
  clear hb
  by_cases h0 : x < 0
  · clear hx
    go_wp2
    go_ret
    exact ⟨rfl, HT1.out⟩
  have BN : Hid (n0 ≤ 1048576) := (hx (by omega)).1
  have BL : Hid (∀ i, (S0 i).length ≤ 1048576 ∧ (D0 i).length ≤ 1048576) := fun i => by
    by_cases hi : i < n0
    · exact (hx (by omega)).2.1 i hi
    · rw [(ZZ.out i (by omega)).1, (ZZ.out i (by omega)).2]; simp
  have LT : Hid (totV S0 D0 n0 ≤ 1073741824) := Nat.le_trans (hx (by omega)).2.2 (by decide)
  clear hx c0 b0 z0 ZZ
  go_wp2_with fail
  refine (toVarS_own (H.out.keep HT1.out) BL.out BN.out).mono ?_
  rintro r w2 ⟨oT, rfl, hoT, hO, hb⟩
  have SZ2 : Hid (w1.heap.size ≤ w2.heap.size) := hb.size
  have HT2 : Hid (Below w.heap.size w w2) := bTrans HT1.out hb
  have T_2 : Hid (OwnVars oT w2.heap.size n0 n0 w2 B0 S0 D0) := hO
  have LOT : Hid (w1.heap.size ≤ oT ∧ oT < w2.heap.size) := ⟨hoT, hO.lthi.1⟩
  clear hO hb hoT
  go_wp2_with fail
  refine (machNew_spec a1 T_2.out.list BL.out BN.out).mono ?_
  rintro r w3 ⟨uW, rfl, ⟨aW, cW, rfl⟩, hV, hb⟩
  have SZ3 : Hid (w2.heap.size ≤ w3.heap.size) := hb.size
  have HT3 : Hid (Below w.heap.size w w3) := bTrans HT2.out hb
  have T_3 : Hid (OwnVars oT w2.heap.size n0 n0 w3 B0 S0 D0) := T_2.out.keep hb
  clear T_2
  have W_3 : Hid (VarsW w2.heap.size w3.heap.size w3 (.slice aW n0 cW) n0 B0 S0 D0) := hV
  clear hV hb
  unfold machV
  go_wp2_with fail
  have hbx := boxM_new w3 (.slice aW n0 cW) a1
  have hb : Below w3.heap.size w3 (w3.alloc (.cells #[.int .i64 0, .slice none 0 0, (.slice aW n0 cW), .int .i64 a1, .int .i64 0] 27)) := bAlloc (Below.refl _ _) _
  generalize w3.alloc (.cells #[.int .i64 0, .slice none 0 0, (.slice aW n0 cW), .int .i64 a1, .int .i64 0] 27) = w4 at *
  have SZ4 : Hid (w3.heap.size ≤ w4.heap.size) := hb.size
  have HT4 : Hid (Below w.heap.size w w4) := bTrans HT3.out hb
  have T_4 : Hid (OwnVars oT w2.heap.size n0 n0 w4 B0 S0 D0) := T_3.out.keep hb
  have W_4 : Hid (VarsW w2.heap.size w3.heap.size w4 (.slice aW n0 cW) n0 B0 S0 D0) := W_3.out.keep hb
  clear T_3
  clear W_3
  have P_4 : Hid (BoxM w4 w3.heap.size (.slice aW n0 cW) a1) := hbx
  have LP : Hid (w3.heap.size < w4.heap.size) := hbx.lt
  clear hb hbx
  clear T_4
  refine (toVarS_own (H.out.keep HT4.out) BL.out BN.out).mono ?_
  rintro r w5 ⟨oX, rfl, hoX, hO, hb⟩
  have SZ5 : Hid (w4.heap.size ≤ w5.heap.size) := hb.size
  have HT5 : Hid (Below w.heap.size w w5) := bTrans HT4.out hb
  have W_5 : Hid (VarsW w2.heap.size w3.heap.size w5 (.slice aW n0 cW) n0 B0 S0 D0) := W_4.out.keep hb
  have P_5 : Hid (BoxM w5 w3.heap.size (.slice aW n0 cW) a1) := P_4.out.keep hb
  clear W_4
  clear P_4
  have X_5 : Hid (OwnVars oX w5.heap.size n0 n0 w5 B0 S0 D0) := hO
  have LOX : Hid (w4.heap.size ≤ oX ∧ oX < w5.heap.size) := ⟨hoX, hO.lthi.1⟩
  clear hO hb hoX
  obtain ⟨pc0, pc1, pc2, pc3, pc4⟩ := P_5.out.cells
  go_wp2_with fail
  refine (machNew_impl a1 X_5.out.list BL.out BN.out).mono ?_
  rintro r w6 ⟨oG, rfl, hoG, hO, hb⟩
  clear pc0 pc1 pc2 pc3 pc4
  have SZ6 : Hid (w5.heap.size ≤ w6.heap.size) := hb.size
  have HT6 : Hid (Below w.heap.size w w6) := bTrans HT5.out hb
  have W_6 : Hid (VarsW w2.heap.size w3.heap.size w6 (.slice aW n0 cW) n0 B0 S0 D0) := W_5.out.keep hb
  have P_6 : Hid (BoxM w6 w3.heap.size (.slice aW n0 cW) a1) := P_5.out.keep hb
  have X_6 : Hid (OwnVars oX w5.heap.size n0 n0 w6 B0 S0 D0) := X_5.out.keep hb
  clear W_5
  clear P_5
  clear X_5
  have G_6 : Hid (OwnVars oG w6.heap.size n0 n0 w6 B0 S0 D0) := hO
  have LOG : Hid (w5.heap.size ≤ oG ∧ oG < w6.heap.size) := ⟨hoG, hO.lthi.1⟩
  clear hO hb hoG
  unfold machV
  obtain ⟨pc0, pc1, pc2, pc3, pc4⟩ := P_6.out.cells
  have pd0 : ∀ ob : Obj, (w6.alloc ob).cell? ⟨w3.heap.size, 0, none⟩ = some (.int .i64 0) := fun ob => (P_6.out.keep (bAlloc (Below.refl _ _) ob)).cells.1
  have pd1 : ∀ ob : Obj, (w6.alloc ob).cell? ⟨w3.heap.size, 1, none⟩ = some (.slice none 0 0) := fun ob => (P_6.out.keep (bAlloc (Below.refl _ _) ob)).cells.2.1
  have pd2 : ∀ ob : Obj, (w6.alloc ob).cell? ⟨w3.heap.size, 2, none⟩ = some (.slice aW n0 cW) := fun ob => (P_6.out.keep (bAlloc (Below.refl _ _) ob)).cells.2.2.1
  have pd3 : ∀ ob : Obj, (w6.alloc ob).cell? ⟨w3.heap.size, 3, none⟩ = some (.int .i64 a1) := fun ob => (P_6.out.keep (bAlloc (Below.refl _ _) ob)).cells.2.2.2.1
  have pd4 : ∀ ob : Obj, (w6.alloc ob).cell? ⟨w3.heap.size, 4, none⟩ = some (.int .i64 0) := fun ob => (P_6.out.keep (bAlloc (Below.refl _ _) ob)).cells.2.2.2.2
  go_wp2_with fail
  clear pc0 pc1 pc2 pc3 pc4
  clear pd0 pd1 pd2 pd3 pd4
  have hbx := boxM_new w6 (.slice (some ⟨oG, 0, none⟩) n0 n0) a1
  have hb : Below w6.heap.size w6 (w6.alloc (.cells #[.int .i64 0, .slice none 0 0, (.slice (some ⟨oG, 0, none⟩) n0 n0), .int .i64 a1, .int .i64 0] 27)) := bAlloc (Below.refl _ _) _
  generalize w6.alloc (.cells #[.int .i64 0, .slice none 0 0, (.slice (some ⟨oG, 0, none⟩) n0 n0), .int .i64 a1, .int .i64 0] 27) = w7 at *
  have SZ7 : Hid (w6.heap.size ≤ w7.heap.size) := hb.size
  have HT7 : Hid (Below w.heap.size w w7) := bTrans HT6.out hb
  have W_7 : Hid (VarsW w2.heap.size w3.heap.size w7 (.slice aW n0 cW) n0 B0 S0 D0) := W_6.out.keep hb
  have P_7 : Hid (BoxM w7 w3.heap.size (.slice aW n0 cW) a1) := P_6.out.keep hb
  have X_7 : Hid (OwnVars oX w5.heap.size n0 n0 w7 B0 S0 D0) := X_6.out.keep hb
  have G_7 : Hid (OwnVars oG w6.heap.size n0 n0 w7 B0 S0 D0) := G_6.out.keep hb
  clear W_6
  clear P_6
  clear X_6
  clear G_6
  have Q_7 : Hid (BoxM w7 w6.heap.size (.slice (some ⟨oG, 0, none⟩) n0 n0) a1) := hbx
  have LQ : Hid (w6.heap.size < w7.heap.size) := hbx.lt
  clear hb hbx
  refine (eqMach_same a1 G_7.out.list W_7.out.list BL.out BN.out).mono ?_
  rintro r w8 ⟨rfl, hb⟩
  have SZ8 : Hid (w7.heap.size ≤ w8.heap.size) := hb.size
  have HT8 : Hid (Below w.heap.size w w8) := bTrans HT7.out hb
  have W_8 : Hid (VarsW w2.heap.size w3.heap.size w8 (.slice aW n0 cW) n0 B0 S0 D0) := W_7.out.keep hb
  have P_8 : Hid (BoxM w8 w3.heap.size (.slice aW n0 cW) a1) := P_7.out.keep hb
  have X_8 : Hid (OwnVars oX w5.heap.size n0 n0 w8 B0 S0 D0) := X_7.out.keep hb
  have G_8 : Hid (OwnVars oG w6.heap.size n0 n0 w8 B0 S0 D0) := G_7.out.keep hb
  have Q_8 : Hid (BoxM w8 w6.heap.size (.slice (some ⟨oG, 0, none⟩) n0 n0) a1) := Q_7.out.keep hb
  clear W_7
  clear P_7
  clear X_7
  clear G_7
  clear Q_7
  clear hb
  obtain ⟨pc0, pc1, pc2, pc3, pc4⟩ := P_8.out.cells
  obtain ⟨qc0, qc1, qc2, qc3, qc4⟩ := Q_8.out.cells
  go_wp2_with fail
  refine (toVarS_own (H.out.keep HT8.out) BL.out BN.out).mono ?_
  rintro r w9 ⟨oY, rfl, hoY, hO, hb⟩
  clear pc0 pc1 pc2 pc3 pc4
  clear qc0 qc1 qc2 qc3 qc4
  have SZ9 : Hid (w8.heap.size ≤ w9.heap.size) := hb.size
  have HT9 : Hid (Below w.heap.size w w9) := bTrans HT8.out hb
  have W_9 : Hid (VarsW w2.heap.size w3.heap.size w9 (.slice aW n0 cW) n0 B0 S0 D0) := W_8.out.keep hb
  have P_9 : Hid (BoxM w9 w3.heap.size (.slice aW n0 cW) a1) := P_8.out.keep hb
  have X_9 : Hid (OwnVars oX w5.heap.size n0 n0 w9 B0 S0 D0) := X_8.out.keep hb
  have G_9 : Hid (OwnVars oG w6.heap.size n0 n0 w9 B0 S0 D0) := G_8.out.keep hb
  have Q_9 : Hid (BoxM w9 w6.heap.size (.slice (some ⟨oG, 0, none⟩) n0 n0) a1) := Q_8.out.keep hb
  clear W_8
  clear P_8
  clear X_8
  clear G_8
  clear Q_8
  have Y_9 : Hid (OwnVars oY w9.heap.size n0 n0 w9 B0 S0 D0) := hO
  have LOY : Hid (w8.heap.size ≤ oY ∧ oY < w9.heap.size) := ⟨hoY, hO.lthi.1⟩
  clear hO hb hoY
  obtain ⟨pc0, pc1, pc2, pc3, pc4⟩ := P_9.out.cells
  obtain ⟨qc0, qc1, qc2, qc3, qc4⟩ := Q_9.out.cells
  go_wp2_with fail
  refine (eqVarS_same X_9.out.list Y_9.out.list BL.out BN.out).mono ?_
  rintro r w10 ⟨rfl, hb⟩
  clear pc0 pc1 pc2 pc3 pc4
  clear qc0 qc1 qc2 qc3 qc4
  have SZ10 : Hid (w9.heap.size ≤ w10.heap.size) := hb.size
  have HT10 : Hid (Below w.heap.size w w10) := bTrans HT9.out hb
  have W_10 : Hid (VarsW w2.heap.size w3.heap.size w10 (.slice aW n0 cW) n0 B0 S0 D0) := W_9.out.keep hb
  have P_10 : Hid (BoxM w10 w3.heap.size (.slice aW n0 cW) a1) := P_9.out.keep hb
  have X_10 : Hid (OwnVars oX w5.heap.size n0 n0 w10 B0 S0 D0) := X_9.out.keep hb
  have G_10 : Hid (OwnVars oG w6.heap.size n0 n0 w10 B0 S0 D0) := G_9.out.keep hb
  have Q_10 : Hid (BoxM w10 w6.heap.size (.slice (some ⟨oG, 0, none⟩) n0 n0) a1) := Q_9.out.keep hb
  have Y_10 : Hid (OwnVars oY w9.heap.size n0 n0 w10 B0 S0 D0) := Y_9.out.keep hb
  clear W_9
  clear P_9
  clear X_9
  clear G_9
  clear Q_9
  clear Y_9
  clear hb
  clear Y_10
  obtain ⟨pc0, pc1, pc2, pc3, pc4⟩ := P_10.out.cells
  obtain ⟨qc0, qc1, qc2, qc3, qc4⟩ := Q_10.out.cells
  go_wp2_with fail
  refine (markVarS_at X_10.out BL.out BN.out 1 (by decide) (by decide)).mono ?_
  rintro r w11 ⟨rfl, _, hw⟩
  clear pc0 pc1 pc2 pc3 pc4
  clear qc0 qc1 qc2 qc3 qc4
  have SZ11 : Hid (w10.heap.size ≤ w11.heap.size) := hw.size
  have HT11 : Hid (Below w.heap.size w w11) := HT10.out.trans (hw.below (by have := SZ1.out; have := SZ2.out; have := LOT.out; have := SZ3.out; have := SZ4.out; have := LP.out; have := SZ5.out; have := LOX.out; have := SZ6.out; have := LOG.out; have := SZ7.out; have := LQ.out; have := SZ8.out; have := SZ9.out; have := LOY.out; have := SZ10.out; omega) HT10.out.size)
  have W_11 : Hid (VarsW w2.heap.size w3.heap.size w11 (.slice aW n0 cW) n0 B0 S0 D0) := W_10.out.win hw (by have := SZ1.out; have := SZ2.out; have := LOT.out; have := SZ3.out; have := SZ4.out; have := LP.out; have := SZ5.out; have := LOX.out; have := SZ6.out; have := LOG.out; have := SZ7.out; have := LQ.out; have := SZ8.out; have := SZ9.out; have := LOY.out; have := SZ10.out; omega)
  have P_11 : Hid (BoxM w11 w3.heap.size (.slice aW n0 cW) a1) := P_10.out.win hw (by have := SZ1.out; have := SZ2.out; have := LOT.out; have := SZ3.out; have := SZ4.out; have := LP.out; have := SZ5.out; have := LOX.out; have := SZ6.out; have := LOG.out; have := SZ7.out; have := LQ.out; have := SZ8.out; have := SZ9.out; have := LOY.out; have := SZ10.out; omega)
  have G_11 : Hid (OwnVars oG w6.heap.size n0 n0 w11 B0 S0 D0) := G_10.out.win hw (by have := SZ1.out; have := SZ2.out; have := LOT.out; have := SZ3.out; have := SZ4.out; have := LP.out; have := SZ5.out; have := LOX.out; have := SZ6.out; have := LOG.out; have := SZ7.out; have := LQ.out; have := SZ8.out; have := SZ9.out; have := LOY.out; have := SZ10.out; omega)
  have Q_11 : Hid (BoxM w11 w6.heap.size (.slice (some ⟨oG, 0, none⟩) n0 n0) a1) := Q_10.out.win hw (by have := SZ1.out; have := SZ2.out; have := LOT.out; have := SZ3.out; have := SZ4.out; have := LP.out; have := SZ5.out; have := LOX.out; have := SZ6.out; have := LOG.out; have := SZ7.out; have := LQ.out; have := SZ8.out; have := SZ9.out; have := LOY.out; have := SZ10.out; omega)
  clear W_10
  clear P_10
  clear X_10
  clear G_10
  clear Q_10
  clear hw
  have kn : ¬ (1 + (totV S0 D0 n0 : Int) < 0) := by omega
  obtain ⟨KK, hKK⟩ : ∃ KK : Int, KK = 1 + (totV S0 D0 n0 : Int) := ⟨_, rfl⟩
  rw [← hKK] at kn ⊢
  have HK : Hid (KK = 1 + (totV S0 D0 n0 : Int)) := hKK
  clear hKK
  obtain ⟨pc0, pc1, pc2, pc3, pc4⟩ := P_11.out.cells
  obtain ⟨qc0, qc1, qc2, qc3, qc4⟩ := Q_11.out.cells
  go_wp2_with fail
  clear pc0 pc1 pc2 pc3 pc4
  clear qc0 qc1 qc2 qc3 qc4
  refine (eqMach_same a1 G_11.out.list W_11.out.list BL.out BN.out).mono ?_
  rintro r w12 ⟨rfl, hb⟩
  have SZ12 : Hid (w11.heap.size ≤ w12.heap.size) := hb.size
  have HT12 : Hid (Below w.heap.size w w12) := bTrans HT11.out hb
  have W_12 : Hid (VarsW w2.heap.size w3.heap.size w12 (.slice aW n0 cW) n0 B0 S0 D0) := W_11.out.keep hb
  have P_12 : Hid (BoxM w12 w3.heap.size (.slice aW n0 cW) a1) := P_11.out.keep hb
  have G_12 : Hid (OwnVars oG w6.heap.size n0 n0 w12 B0 S0 D0) := G_11.out.keep hb
  have Q_12 : Hid (BoxM w12 w6.heap.size (.slice (some ⟨oG, 0, none⟩) n0 n0) a1) := Q_11.out.keep hb
  clear W_11
  clear P_11
  clear G_11
  clear Q_11
  clear hb
  obtain ⟨pc0, pc1, pc2, pc3, pc4⟩ := P_12.out.cells
  obtain ⟨qc0, qc1, qc2, qc3, qc4⟩ := Q_12.out.cells
  go_wp2_with fail
  refine (markMach_at a1 1 G_12.out BL.out BN.out LT.out (by decide) (by decide)).mono ?_
  rintro r w13 ⟨rfl, ⟨B9, S9, D9, hG, hM⟩, hw⟩
  clear pc0 pc1 pc2 pc3 pc4
  clear qc0 qc1 qc2 qc3 qc4
  have SZ13 : Hid (w12.heap.size ≤ w13.heap.size) := hw.size
  have HT13 : Hid (Below w.heap.size w w13) := HT12.out.trans (hw.below (by have := SZ1.out; have := SZ2.out; have := LOT.out; have := SZ3.out; have := SZ4.out; have := LP.out; have := SZ5.out; have := LOX.out; have := SZ6.out; have := LOG.out; have := SZ7.out; have := LQ.out; have := SZ8.out; have := SZ9.out; have := LOY.out; have := SZ10.out; have := SZ11.out; have := SZ12.out; omega) HT12.out.size)
  have W_13 : Hid (VarsW w2.heap.size w3.heap.size w13 (.slice aW n0 cW) n0 B0 S0 D0) := W_12.out.win hw (by have := SZ1.out; have := SZ2.out; have := LOT.out; have := SZ3.out; have := SZ4.out; have := LP.out; have := SZ5.out; have := LOX.out; have := SZ6.out; have := LOG.out; have := SZ7.out; have := LQ.out; have := SZ8.out; have := SZ9.out; have := LOY.out; have := SZ10.out; have := SZ11.out; have := SZ12.out; omega)
  have P_13 : Hid (BoxM w13 w3.heap.size (.slice aW n0 cW) a1) := P_12.out.win hw (by have := SZ1.out; have := SZ2.out; have := LOT.out; have := SZ3.out; have := SZ4.out; have := LP.out; have := SZ5.out; have := LOX.out; have := SZ6.out; have := LOG.out; have := SZ7.out; have := LQ.out; have := SZ8.out; have := SZ9.out; have := LOY.out; have := SZ10.out; have := SZ11.out; have := SZ12.out; omega)
  have Q_13 : Hid (BoxM w13 w6.heap.size (.slice (some ⟨oG, 0, none⟩) n0 n0) a1) := Q_12.out.win hw (by have := SZ1.out; have := SZ2.out; have := LOT.out; have := SZ3.out; have := SZ4.out; have := LP.out; have := SZ5.out; have := LOX.out; have := SZ6.out; have := LOG.out; have := SZ7.out; have := LQ.out; have := SZ8.out; have := SZ9.out; have := LOY.out; have := SZ10.out; have := SZ11.out; have := SZ12.out; omega)
  clear W_12
  clear P_12
  clear G_12
  clear Q_12
  have G_13 : Hid (OwnVars oG w6.heap.size n0 n0 w13 B9 S9 D9) := hG
  have MK : Hid (MkdV 1 S0 D0 n0 B9 S9 D9) := hM
  clear hG hw hM
  rw [← HK.out]
  have qm : (KK != KK) = false := by simp
  obtain ⟨pc0, pc1, pc2, pc3, pc4⟩ := P_13.out.cells
  obtain ⟨qc0, qc1, qc2, qc3, qc4⟩ := Q_13.out.cells
  go_wp2_with fail
  refine (heldMach_at a1 1 G_13.out MK.out BL.out BN.out LT.out (by decide) (by decide)).mono ?_
  rintro r w14 ⟨rfl, hb⟩
  clear pc0 pc1 pc2 pc3 pc4
  clear qc0 qc1 qc2 qc3 qc4
  have SZ14 : Hid (w13.heap.size ≤ w14.heap.size) := hb.size
  have HT14 : Hid (Below w.heap.size w w14) := bTrans HT13.out hb
  have W_14 : Hid (VarsW w2.heap.size w3.heap.size w14 (.slice aW n0 cW) n0 B0 S0 D0) := W_13.out.keep hb
  have P_14 : Hid (BoxM w14 w3.heap.size (.slice aW n0 cW) a1) := P_13.out.keep hb
  have Q_14 : Hid (BoxM w14 w6.heap.size (.slice (some ⟨oG, 0, none⟩) n0 n0) a1) := Q_13.out.keep hb
  have G_14 : Hid (OwnVars oG w6.heap.size n0 n0 w14 B9 S9 D9) := G_13.out.keep hb
  clear W_13
  clear P_13
  clear Q_13
  clear G_13
  clear hb
  rw [← HK.out]
  obtain ⟨pc0, pc1, pc2, pc3, pc4⟩ := P_14.out.cells
  obtain ⟨qc0, qc1, qc2, qc3, qc4⟩ := Q_14.out.cells
  go_wp2_with fail
  refine (toVarS_own (H.out.keep HT14.out) BL.out BN.out).mono ?_
  rintro r w15 ⟨oZ, rfl, hoZ, hO, hb⟩
  clear pc0 pc1 pc2 pc3 pc4
  clear qc0 qc1 qc2 qc3 qc4
  have SZ15 : Hid (w14.heap.size ≤ w15.heap.size) := hb.size
  have HT15 : Hid (Below w.heap.size w w15) := bTrans HT14.out hb
  have W_15 : Hid (VarsW w2.heap.size w3.heap.size w15 (.slice aW n0 cW) n0 B0 S0 D0) := W_14.out.keep hb
  have P_15 : Hid (BoxM w15 w3.heap.size (.slice aW n0 cW) a1) := P_14.out.keep hb
  have Q_15 : Hid (BoxM w15 w6.heap.size (.slice (some ⟨oG, 0, none⟩) n0 n0) a1) := Q_14.out.keep hb
  have G_15 : Hid (OwnVars oG w6.heap.size n0 n0 w15 B9 S9 D9) := G_14.out.keep hb
  clear W_14
  clear P_14
  clear Q_14
  clear G_14
  have Z_15 : Hid (OwnVars oZ w15.heap.size n0 n0 w15 B0 S0 D0) := hO
  have LOZ : Hid (w14.heap.size ≤ oZ ∧ oZ < w15.heap.size) := ⟨hoZ, hO.lthi.1⟩
  clear hO hb hoZ
  obtain ⟨pc0, pc1, pc2, pc3, pc4⟩ := P_15.out.cells
  obtain ⟨qc0, qc1, qc2, qc3, qc4⟩ := Q_15.out.cells
  go_wp2_with fail
  refine (machNew_impl a1 Z_15.out.list BL.out BN.out).mono ?_
  rintro r w16 ⟨oJ, rfl, hoJ, hO, hb⟩
  clear pc0 pc1 pc2 pc3 pc4
  clear qc0 qc1 qc2 qc3 qc4
  have SZ16 : Hid (w15.heap.size ≤ w16.heap.size) := hb.size
  have HT16 : Hid (Below w.heap.size w w16) := bTrans HT15.out hb
  have W_16 : Hid (VarsW w2.heap.size w3.heap.size w16 (.slice aW n0 cW) n0 B0 S0 D0) := W_15.out.keep hb
  have P_16 : Hid (BoxM w16 w3.heap.size (.slice aW n0 cW) a1) := P_15.out.keep hb
  have Q_16 : Hid (BoxM w16 w6.heap.size (.slice (some ⟨oG, 0, none⟩) n0 n0) a1) := Q_15.out.keep hb
  have G_16 : Hid (OwnVars oG w6.heap.size n0 n0 w16 B9 S9 D9) := G_15.out.keep hb
  have Z_16 : Hid (OwnVars oZ w15.heap.size n0 n0 w16 B0 S0 D0) := Z_15.out.keep hb
  clear W_15
  clear P_15
  clear Q_15
  clear G_15
  clear Z_15
  have J_16 : Hid (OwnVars oJ w16.heap.size n0 n0 w16 B0 S0 D0) := hO
  have LOJ : Hid (w15.heap.size ≤ oJ ∧ oJ < w16.heap.size) := ⟨hoJ, hO.lthi.1⟩
  clear hO hb hoJ
  unfold machV
  obtain ⟨pc0, pc1, pc2, pc3, pc4⟩ := P_16.out.cells
  obtain ⟨qc0, qc1, qc2, qc3, qc4⟩ := Q_16.out.cells
  have pd0 : ∀ ob : Obj, (w16.alloc ob).cell? ⟨w3.heap.size, 0, none⟩ = some (.int .i64 0) := fun ob => (P_16.out.keep (bAlloc (Below.refl _ _) ob)).cells.1
  have pd1 : ∀ ob : Obj, (w16.alloc ob).cell? ⟨w3.heap.size, 1, none⟩ = some (.slice none 0 0) := fun ob => (P_16.out.keep (bAlloc (Below.refl _ _) ob)).cells.2.1
  have pd2 : ∀ ob : Obj, (w16.alloc ob).cell? ⟨w3.heap.size, 2, none⟩ = some (.slice aW n0 cW) := fun ob => (P_16.out.keep (bAlloc (Below.refl _ _) ob)).cells.2.2.1
  have pd3 : ∀ ob : Obj, (w16.alloc ob).cell? ⟨w3.heap.size, 3, none⟩ = some (.int .i64 a1) := fun ob => (P_16.out.keep (bAlloc (Below.refl _ _) ob)).cells.2.2.2.1
  have pd4 : ∀ ob : Obj, (w16.alloc ob).cell? ⟨w3.heap.size, 4, none⟩ = some (.int .i64 0) := fun ob => (P_16.out.keep (bAlloc (Below.refl _ _) ob)).cells.2.2.2.2
  have qd0 : ∀ ob : Obj, (w16.alloc ob).cell? ⟨w6.heap.size, 0, none⟩ = some (.int .i64 0) := fun ob => (Q_16.out.keep (bAlloc (Below.refl _ _) ob)).cells.1
  have qd1 : ∀ ob : Obj, (w16.alloc ob).cell? ⟨w6.heap.size, 1, none⟩ = some (.slice none 0 0) := fun ob => (Q_16.out.keep (bAlloc (Below.refl _ _) ob)).cells.2.1
  have qd2 : ∀ ob : Obj, (w16.alloc ob).cell? ⟨w6.heap.size, 2, none⟩ = some (.slice (some ⟨oG, 0, none⟩) n0 n0) := fun ob => (Q_16.out.keep (bAlloc (Below.refl _ _) ob)).cells.2.2.1
  have qd3 : ∀ ob : Obj, (w16.alloc ob).cell? ⟨w6.heap.size, 3, none⟩ = some (.int .i64 a1) := fun ob => (Q_16.out.keep (bAlloc (Below.refl _ _) ob)).cells.2.2.2.1
  have qd4 : ∀ ob : Obj, (w16.alloc ob).cell? ⟨w6.heap.size, 4, none⟩ = some (.int .i64 0) := fun ob => (Q_16.out.keep (bAlloc (Below.refl _ _) ob)).cells.2.2.2.2
  go_wp2_with fail
  clear pc0 pc1 pc2 pc3 pc4
  clear qc0 qc1 qc2 qc3 qc4
  clear pd0 pd1 pd2 pd3 pd4
  clear qd0 qd1 qd2 qd3 qd4
  have hbx := boxM_new w16 (.slice (some ⟨oJ, 0, none⟩) n0 n0) a1
  have hb : Below w16.heap.size w16 (w16.alloc (.cells #[.int .i64 0, .slice none 0 0, (.slice (some ⟨oJ, 0, none⟩) n0 n0), .int .i64 a1, .int .i64 0] 27)) := bAlloc (Below.refl _ _) _
  generalize w16.alloc (.cells #[.int .i64 0, .slice none 0 0, (.slice (some ⟨oJ, 0, none⟩) n0 n0), .int .i64 a1, .int .i64 0] 27) = w17 at *
  have SZ17 : Hid (w16.heap.size ≤ w17.heap.size) := hb.size
  have HT17 : Hid (Below w.heap.size w w17) := bTrans HT16.out hb
  have W_17 : Hid (VarsW w2.heap.size w3.heap.size w17 (.slice aW n0 cW) n0 B0 S0 D0) := W_16.out.keep hb
  have P_17 : Hid (BoxM w17 w3.heap.size (.slice aW n0 cW) a1) := P_16.out.keep hb
  have Q_17 : Hid (BoxM w17 w6.heap.size (.slice (some ⟨oG, 0, none⟩) n0 n0) a1) := Q_16.out.keep hb
  have G_17 : Hid (OwnVars oG w6.heap.size n0 n0 w17 B9 S9 D9) := G_16.out.keep hb
  have Z_17 : Hid (OwnVars oZ w15.heap.size n0 n0 w17 B0 S0 D0) := Z_16.out.keep hb
  have J_17 : Hid (OwnVars oJ w16.heap.size n0 n0 w17 B0 S0 D0) := J_16.out.keep hb
  clear W_16
  clear P_16
  clear Q_16
  clear G_16
  clear Z_16
  clear J_16
  have R_17 : Hid (BoxM w17 w16.heap.size (.slice (some ⟨oJ, 0, none⟩) n0 n0) a1) := hbx
  have LR : Hid (w16.heap.size < w17.heap.size) := hbx.lt
  clear hb hbx
  refine (eqMach_same a1 J_17.out.list W_17.out.list BL.out BN.out).mono ?_
  rintro r w18 ⟨rfl, hb⟩
  have SZ18 : Hid (w17.heap.size ≤ w18.heap.size) := hb.size
  have HT18 : Hid (Below w.heap.size w w18) := bTrans HT17.out hb
  have W_18 : Hid (VarsW w2.heap.size w3.heap.size w18 (.slice aW n0 cW) n0 B0 S0 D0) := W_17.out.keep hb
  have P_18 : Hid (BoxM w18 w3.heap.size (.slice aW n0 cW) a1) := P_17.out.keep hb
  have Q_18 : Hid (BoxM w18 w6.heap.size (.slice (some ⟨oG, 0, none⟩) n0 n0) a1) := Q_17.out.keep hb
  have G_18 : Hid (OwnVars oG w6.heap.size n0 n0 w18 B9 S9 D9) := G_17.out.keep hb
  have Z_18 : Hid (OwnVars oZ w15.heap.size n0 n0 w18 B0 S0 D0) := Z_17.out.keep hb
  have J_18 : Hid (OwnVars oJ w16.heap.size n0 n0 w18 B0 S0 D0) := J_17.out.keep hb
  have R_18 : Hid (BoxM w18 w16.heap.size (.slice (some ⟨oJ, 0, none⟩) n0 n0) a1) := R_17.out.keep hb
  clear W_17
  clear P_17
  clear Q_17
  clear G_17
  clear Z_17
  clear J_17
  clear R_17
  clear hb
  obtain ⟨pc0, pc1, pc2, pc3, pc4⟩ := P_18.out.cells
  obtain ⟨qc0, qc1, qc2, qc3, qc4⟩ := Q_18.out.cells
  obtain ⟨rc0, rc1, rc2, rc3, rc4⟩ := R_18.out.cells
  go_wp2_with fail
  refine (heldMach_at a1 1 G_18.out MK.out BL.out BN.out LT.out (by decide) (by decide)).mono ?_
  rintro r w19 ⟨rfl, hb⟩
  clear pc0 pc1 pc2 pc3 pc4
  clear qc0 qc1 qc2 qc3 qc4
  clear rc0 rc1 rc2 rc3 rc4
  have SZ19 : Hid (w18.heap.size ≤ w19.heap.size) := hb.size
  have HT19 : Hid (Below w.heap.size w w19) := bTrans HT18.out hb
  have W_19 : Hid (VarsW w2.heap.size w3.heap.size w19 (.slice aW n0 cW) n0 B0 S0 D0) := W_18.out.keep hb
  have P_19 : Hid (BoxM w19 w3.heap.size (.slice aW n0 cW) a1) := P_18.out.keep hb
  have Q_19 : Hid (BoxM w19 w6.heap.size (.slice (some ⟨oG, 0, none⟩) n0 n0) a1) := Q_18.out.keep hb
  have G_19 : Hid (OwnVars oG w6.heap.size n0 n0 w19 B9 S9 D9) := G_18.out.keep hb
  have Z_19 : Hid (OwnVars oZ w15.heap.size n0 n0 w19 B0 S0 D0) := Z_18.out.keep hb
  have J_19 : Hid (OwnVars oJ w16.heap.size n0 n0 w19 B0 S0 D0) := J_18.out.keep hb
  have R_19 : Hid (BoxM w19 w16.heap.size (.slice (some ⟨oJ, 0, none⟩) n0 n0) a1) := R_18.out.keep hb
  clear W_18
  clear P_18
  clear Q_18
  clear G_18
  clear Z_18
  clear J_18
  clear R_18
  clear hb
  rw [← HK.out]
  obtain ⟨pc0, pc1, pc2, pc3, pc4⟩ := P_19.out.cells
  obtain ⟨qc0, qc1, qc2, qc3, qc4⟩ := Q_19.out.cells
  obtain ⟨rc0, rc1, rc2, rc3, rc4⟩ := R_19.out.cells
  go_wp2
  go_ret
  exact ⟨rfl, HT19.out⟩

set_option maxRecDepth 100000 in
theorem lifted (os : Os) (started : os.Started) (H : Type) (enc : TypeId × Value → H) :
    ReturnsInHanded {} Try.checked os 3 .any (Rows.fnExactMachineNewSpec.pre6 enc Try.prog Try.f3 Rows.fnExactMachineNewRow.domain false) (Rows.fnExactMachineNewSpec.post enc Try.prog Try.f3 false true false false) := by
  refine returnsInHanded_of_change (C := Try.checked) own started (by kernel_rfl) Try.func3
    (ChangeSpec.witness6 (enc := enc) (C := Try.checked) false ⟨#[], #[.slice none 0 0, .int .i64 0], []⟩ 8 (by kernel_rfl) (by kernel_rfl) (by kernel_rfl) (by kernel_rfl)) ?_
  intro W base args ds gs before hval0 hW hcnd _
  have hval : ∀ (j : Nat) t v, Try.f3.params[j]? = some t → args[j]? = some v → Value.okWide Try.prog W .any base t v := hval0
  have hW' := hW
  obtain ⟨p, q, hA0, hV, rfl, hfz, hnd⟩ := hW
  have hA : DataW.TrodAll enc Try.prog W 0 (fun _ => true) true Try.f3.params.toList args.toList ds p := hA0
  rw [Try.params3] at hA hval
  obtain ⟨v0, vs0, e0, es0, p0, q0, hargs, rfl, rfl, h0, r0⟩ := trodAll_cons hA
  obtain ⟨v1, vs1, e1, es1, p1, q1, rfl, rfl, rfl, h1, r1⟩ := trodAll_cons r0
  obtain ⟨rfl, rfl, rfl⟩ := trodAll_nil r1
  obtain rfl : args = #[v0, v1] := by cases args; simp_all
  obtain ⟨rfl, rfl⟩ := trodVars_none hV
  have k0 := h0
  have lt0 : ∀ x ∈ p0, x.block < W.heap.size := by obtain ⟨m, hm⟩ := k0; exact DataW.trod_lt m _ _ _ hm
  obtain ⟨x0, len0, cap0, rfl⟩ := okWide_slice Try.underlying22 (hval 0 22 v0 rfl rfl)
  obtain ⟨n0, B0, S0, D0, w0, b0, c0, z0⟩ := (by obtain ⟨fuel, hf⟩ := h0; exact cell_vars hf : ∃ (n : Nat) (B : Nat → Bool) (S D : Nat → List Int), VarsI W (.slice x0 len0 cap0) n B S D ∧ n ≤ 9223372036854775807 ∧ (∀ i, (S i).length ≤ 9223372036854775807 ∧ (D i).length ≤ 9223372036854775807) ∧ ∀ i, n ≤ i → S i = [] ∧ D i = [])
  obtain ⟨a1, rfl, rfl, rfl, w1⟩ := open_int Try.underlying3 (hval 1 3 v1 rfl rfl) h1
  clear hA0 hval0
  refine (walk _ n0 B0 S0 D0 a1 W w0 b0 c0 z0 w1).mono fun e W' ⟨he, bel⟩ => ?_
  subst he
  exact ⟨_, rfl, _, _, _, [], _, [], hW', trodAll_mk1 (shut_bool Try.underlying4 _), (trodAll_cons_mk (Below.trod laidOut (by kernel_rfl) (of_decide_eq_true (by kernel_rfl)) k0 bel lt0) (trodAll_cons_mk (shut_int Try.underlying3 w1) trodAll_mk0)), rfl, bel.frame _, fun h => by cases h⟩

theorem over : Rows.fnExactMachineNewRow.holds Try.pinned (OpenSpec.ofChange Rows.fnExactMachineNewSpec) :=
  OpenClaim.holds_of_wide 3 Try.f3 rfl rfl rfl rfl rfl rfl rfl ⟨rfl, rfl, rfl, rfl, rfl⟩ rfl rfl rfl rfl rfl (by kernel_rfl) Try.func3 (by kernel_rfl)
    (of_decide_eq_true (by kernel_rfl)) (by unfold Func.isWrapper; first | (rw [if_pos (by decide +kernel)]; kernel_rfl) | (rw [if_neg (by decide +kernel)]; exact ⟨rfl, rfl⟩))
    (fun os started H enc _ => lifted os started H enc)

/-- The statement. -/
theorem proved : Rows.FnExactMachineNewSaid := over
end Go.Proofs.Ytmknleholglhbaa.fnExactMachineNew
namespace Go.Proofs.Ytmknleholglhbaa
theorem fnExactMachineNew_holds : Rows.FnExactMachineNewSaid := fnExactMachineNew.proved
#print axioms fnExactMachineNew_holds
end Go.Proofs.Ytmknleholglhbaa
