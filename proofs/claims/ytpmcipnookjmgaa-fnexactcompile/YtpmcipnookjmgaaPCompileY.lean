/-
  Proved: whatever tree it is given, the law FnExactCompile returns true (the program's Compile answers as the specification's, every field, writes into no argument, and its answer owns its memory), and the tree reads as before. No condition.
-/
import Derived.Test.YtpmcipnookjmgaaRows
import Derived.WalkKit
import Derived.ProofKit
import Derived.OpenShut
import Derived.ShutString
import Derived.ChangeOld
import Derived.Below
import Derived.Deep.Cut
import Derived.Test.YtpmcipnookjmgaaFrame
import Derived.Test.YtpmcipnookjmgaaZ1
namespace Go.Proofs.Ytpmcipnookjmgaa.fnExactCompile
open Go.ChangeShapes Go.WideShapes Go.ChangeAt Go.RowKit
open Go.ChangeMaps (open_string shut_string)
set_option linter.unusedVariables false
set_option linter.unusedSimpArgs false

theorem own : ownKnob Try.prog.godebug = none := by kernel_rfl
theorem laidOut : laidOutB Try.prog = true := by kernel_rfl

set_option maxRecDepth 20000 in
set_option maxHeartbeats 8000000 in
/-- The walk: the law returns true, and writes nothing that was there. -/
theorem walk (v0 : Value) (n0 : Nat) (E0 : Nat → Nat → Int) (N0 : Nat → List Int) (w : World) (w0 : ExprsI w v0 n0 E0 N0) (b0 : n0 ≤ 9223372036854775807) (c0 : ∀ i, (N0 i).length ≤ 9223372036854775807) (z0 : ∀ i, n0 ≤ i → N0 i = []) :
    Calls Try.prog 3 #[.agg #[v0]] w fun e w' => e = .returned (.bool true) ∧ Below w.heap.size w w' := by
  have H : Hid (ExprsI w v0 n0 E0 N0) := w0
  have ZZ : Hid (∀ i, n0 ≤ i → N0 i = []) := z0
  obtain ⟨a, c, rfl, _⟩ := w0
  go_enter Try.func3, Try.ntmps3
  go_wp2_with fail
  have hbx := box1_new w (.slice a n0 c) 24
  have hb : Below w.heap.size w (w.alloc (.cells #[.slice a n0 c] 24)) := one_below
  generalize w.alloc (.cells #[.slice a n0 c] 24) = w1 at *
  have SZ1 : Hid (w.heap.size ≤ w1.heap.size) := hb.size
  have HT1 : Hid (Below w.heap.size w w1) := hb
  have A_1 : Hid (Box1 w1 w.heap.size (.slice a n0 c) 24) := hbx
  have LA : Hid (w.heap.size < w1.heap.size) := hbx.lt
  clear hb hbx
  refine (szTree_at (H.out.keep HT1.out) c0 b0).mono ?_
  rintro r w2 ⟨x, rfl, _, hx, hb⟩
  have SZ2 : Hid (w1.heap.size ≤ w2.heap.size) := hb.size
  have HT2 : Hid (Below w.heap.size w w2) := bTrans HT1.out hb
  have A_2 : Hid (Box1 w2 w.heap.size (.slice a n0 c) 24) := A_1.out.keep hb
  clear A_1
  clear hb
  by_cases h0 : x < 0
  · clear hx
    go_wp2
    go_ret
    exact ⟨rfl, HT2.out⟩
  have BN : Hid (n0 ≤ 1048576) := (hx (by omega)).1
  have BL : Hid (∀ i, (N0 i).length ≤ 1048576) := fun i => by
    by_cases hi : i < n0
    · exact (hx (by omega)).2 i hi
    · rw [ZZ.out i (by omega)]; simp
  clear hx c0 b0 z0 ZZ
  obtain ⟨V, hV⟩ : ∃ V, V = treeB n0 E0 N0 := ⟨_, rfl⟩
  obtain ⟨m, hm⟩ : ∃ m, m = if treeB n0 E0 N0 = true then n0 else 0 := ⟨_, rfl⟩
  obtain ⟨E, hE⟩ : ∃ E, E = insE E0 := ⟨_, rfl⟩
  obtain ⟨N, hN⟩ : ∃ N, N = insN E0 N0 := ⟨_, rfl⟩
  have SP : Hid (∀ (W : World) (u : Value), ExprsI W u n0 E0 N0 → Calls Try.prog 5 #[.agg #[u]] W fun r w' => ∃ u, r = .returned (.tuple #[u, .bool V]) ∧ InsW W.heap.size w'.heap.size w' u m E N ∧ Below W.heap.size W w') := fun W u hu => by rw [hV, hm, hE, hN]; exact compile_spec hu BL.out BN.out
  have IM : Hid (∀ (W : World) (u : Value), ExprsI W u n0 E0 N0 → Calls Try.prog 7 #[.agg #[u]] W fun r w' => ∃ u, r = .returned (.tuple #[u, .bool V]) ∧ OwnVInsI W.heap.size w'.heap.size w' u m E N ∧ Below W.heap.size W w') := fun W u hu => by rw [hV, hm, hE, hN]; exact compile_impl hu BL.out BN.out
  have LN : Hid (∀ i, (N i).length ≤ 1048576) := fun i => by rw [hN]; exact numsOf_len (BL.out i)
  have LM : Hid (m ≤ 1048576) := by show _ ≤ _; rw [hm]; split; exact BN.out; omega
  have LT : Hid (totN 5 N m ≤ 1073741824) := by
    show _ ≤ _
    rw [hm, hN]
    split
    · rename_i hc
      obtain ⟨n60, hk⟩ := treeB_kind hc
      have : ∀ j, j ≤ n0 → totN 5 (insN E0 N0) j ≤ j * 305 := fun j => by
        induction j with
        | zero => intro _; simp [totN]
        | succ j ih =>
          intro hj
          have q := ih (by omega)
          have r : (insN E0 N0 j).length ≤ 300 := numsOf_len (hk j (by omega)).2
          rw [totN]
          omega
      have := this n0 (Nat.le_refl _)
      omega
    · simp [totN]
  clear hV hm hE hN
  have hneV : (V != V) = false := by simp
  have pA := A_2.out.c0
  go_wp2_with fail
  refine (toTree_own (H.out.keep HT2.out) BL.out BN.out).mono ?_
  rintro r w3 ⟨oT, rfl, hoT, hO, hb⟩
  clear pA
  have SZ3 : Hid (w2.heap.size ≤ w3.heap.size) := hb.size
  have HT3 : Hid (Below w.heap.size w w3) := bTrans HT2.out hb
  have A_3 : Hid (Box1 w3 w.heap.size (.slice a n0 c) 24) := A_2.out.keep hb
  clear A_2
  have T_3 : Hid (OwnExprsI oT w3.heap.size n0 n0 w3 E0 N0) := hO
  have LOT : Hid (w2.heap.size ≤ oT ∧ oT < w3.heap.size) := ⟨hoT, hO.lthi.1⟩
  clear hO hb hoT
  have pA := A_3.out.c0
  go_wp2_with fail
  refine (SP.out _ _ T_3.out.list).mono ?_
  rintro r w4 ⟨uW, rfl, hN, hb⟩
  clear pA
  have SZ4 : Hid (w3.heap.size ≤ w4.heap.size) := hb.size
  have HT4 : Hid (Below w.heap.size w w4) := bTrans HT3.out hb
  have A_4 : Hid (Box1 w4 w.heap.size (.slice a n0 c) 24) := A_3.out.keep hb
  have T_4 : Hid (OwnExprsI oT w3.heap.size n0 n0 w4 E0 N0) := T_3.out.keep hb
  clear A_3
  clear T_3
  have W_4 : Hid (InsW w3.heap.size w4.heap.size w4 uW m E N) := hN
  clear hN hb
  clear T_4
  have pA := A_4.out.c0
  go_wp2_with fail
  refine (toTree_own (H.out.keep HT4.out) BL.out BN.out).mono ?_
  rintro r w5 ⟨oX, rfl, hoX, hO, hb⟩
  clear pA
  have SZ5 : Hid (w4.heap.size ≤ w5.heap.size) := hb.size
  have HT5 : Hid (Below w.heap.size w w5) := bTrans HT4.out hb
  have A_5 : Hid (Box1 w5 w.heap.size (.slice a n0 c) 24) := A_4.out.keep hb
  have W_5 : Hid (InsW w3.heap.size w4.heap.size w5 uW m E N) := W_4.out.keep hb
  clear A_4
  clear W_4
  have X_5 : Hid (OwnExprsI oX w5.heap.size n0 n0 w5 E0 N0) := hO
  have LOX : Hid (w4.heap.size ≤ oX ∧ oX < w5.heap.size) := ⟨hoX, hO.lthi.1⟩
  clear hO hb hoX
  go_wp2_with fail
  have hbx := box1_new w5 (.slice (some ⟨oX, 0, none⟩) n0 n0) 31
  have hb : Below w5.heap.size w5 (w5.alloc (.cells #[.slice (some ⟨oX, 0, none⟩) n0 n0] 31)) := one_below
  generalize w5.alloc (.cells #[.slice (some ⟨oX, 0, none⟩) n0 n0] 31) = w6 at *
  have SZ6 : Hid (w5.heap.size ≤ w6.heap.size) := hb.size
  have HT6 : Hid (Below w.heap.size w w6) := bTrans HT5.out hb
  have A_6 : Hid (Box1 w6 w.heap.size (.slice a n0 c) 24) := A_5.out.keep hb
  have W_6 : Hid (InsW w3.heap.size w4.heap.size w6 uW m E N) := W_5.out.keep hb
  have X_6 : Hid (OwnExprsI oX w5.heap.size n0 n0 w6 E0 N0) := X_5.out.keep hb
  clear A_5
  clear W_5
  clear X_5
  have Q_6 : Hid (Box1 w6 w5.heap.size (.slice (some ⟨oX, 0, none⟩) n0 n0) 31) := hbx
  have LQ : Hid (w5.heap.size < w6.heap.size) := hbx.lt
  clear hb hbx
  refine (IM.out _ _ X_6.out.list).mono ?_
  rintro r w7 ⟨uG, rfl, hN, hb⟩
  have SZ7 : Hid (w6.heap.size ≤ w7.heap.size) := hb.size
  have HT7 : Hid (Below w.heap.size w w7) := bTrans HT6.out hb
  have A_7 : Hid (Box1 w7 w.heap.size (.slice a n0 c) 24) := A_6.out.keep hb
  have W_7 : Hid (InsW w3.heap.size w4.heap.size w7 uW m E N) := W_6.out.keep hb
  have X_7 : Hid (OwnExprsI oX w5.heap.size n0 n0 w7 E0 N0) := X_6.out.keep hb
  have Q_7 : Hid (Box1 w7 w5.heap.size (.slice (some ⟨oX, 0, none⟩) n0 n0) 31) := Q_6.out.keep hb
  clear A_6
  clear W_6
  clear X_6
  clear Q_6
  have G_7 : Hid (OwnVInsI w6.heap.size w7.heap.size w7 uG m E N) := hN
  clear hN hb
  have pA := A_7.out.c0
  have pQ := Q_7.out.c0
  go_wp2_with fail
  refine (eqInstrS_same G_7.out.list W_7.out.list LN.out LM.out).mono ?_
  rintro r w8 ⟨rfl, hb⟩
  clear pA
  clear pQ
  have SZ8 : Hid (w7.heap.size ≤ w8.heap.size) := hb.size
  have HT8 : Hid (Below w.heap.size w w8) := bTrans HT7.out hb
  have A_8 : Hid (Box1 w8 w.heap.size (.slice a n0 c) 24) := A_7.out.keep hb
  have W_8 : Hid (InsW w3.heap.size w4.heap.size w8 uW m E N) := W_7.out.keep hb
  have X_8 : Hid (OwnExprsI oX w5.heap.size n0 n0 w8 E0 N0) := X_7.out.keep hb
  have Q_8 : Hid (Box1 w8 w5.heap.size (.slice (some ⟨oX, 0, none⟩) n0 n0) 31) := Q_7.out.keep hb
  have G_8 : Hid (OwnVInsI w6.heap.size w7.heap.size w8 uG m E N) := G_7.out.keep hb
  clear A_7
  clear W_7
  clear X_7
  clear Q_7
  clear G_7
  clear hb
  have SK : Hid (∀ W, Below w8.heap.size w8 W → W.cell? ⟨w.heap.size, 0, none⟩ = some (.slice a n0 c) ∧ W.cell? ⟨w5.heap.size, 0, none⟩ = some (.slice (some ⟨oX, 0, none⟩) n0 n0)) := fun W hb => ⟨(A_8.out.keep hb).c0, (Q_8.out.keep hb).c0⟩
  go_wp2_with fail
  go_region_held3 (fun w' => w'.cell? ⟨w.heap.size, 0, none⟩ = some (.slice a n0 c) ∧ w'.cell? ⟨w5.heap.size, 0, none⟩ = some (.slice (some ⟨oX, 0, none⟩) n0 n0))
    ((refine SK.out _ ?_; (repeat first | with_reducible exact HBb.out | with_reducible exact HBa.out | with_reducible exact Below.refl _ _ | with_reducible refine Below.drew ?_)))
    (first
      | (go_at_call 6; refine (toTree_at (H.out.keep (bTrans HT8.out ((Below.refl w8.heap.size w8).drew))) BL.out BN.out).mono ?_; rintro r wa ⟨a3, k3, rfl, hu, hb⟩; have U3 : Hid (ExprsI wa (.slice a3 n0 k3) n0 E0 N0) := hu; have HBa : Hid (Below w8.heap.size w8 wa) := bTrans ((Below.refl w8.heap.size w8).drew) hb; clear hu hb)
      | (go_at_call 9; refine (eqTree_same ((X_8.out.keep HBa.out).list) U3.out BL.out BN.out).mono ?_; rintro r w9 ⟨rfl, hb⟩; have HBb : Hid (Below w8.heap.size w8 w9) := bTrans HBa.out hb; clear hb))
  all_goals
    clear SK U3 HBa
    have hb := HBb.out
    clear HBb
    have SZ9 : Hid (w8.heap.size ≤ w9.heap.size) := hb.size
    have HT9 : Hid (Below w.heap.size w w9) := bTrans HT8.out hb
    have A_9 : Hid (Box1 w9 w.heap.size (.slice a n0 c) 24) := A_8.out.keep hb
    have W_9 : Hid (InsW w3.heap.size w4.heap.size w9 uW m E N) := W_8.out.keep hb
    have X_9 : Hid (OwnExprsI oX w5.heap.size n0 n0 w9 E0 N0) := X_8.out.keep hb
    have Q_9 : Hid (Box1 w9 w5.heap.size (.slice (some ⟨oX, 0, none⟩) n0 n0) 31) := Q_8.out.keep hb
    have G_9 : Hid (OwnVInsI w6.heap.size w7.heap.size w9 uG m E N) := G_8.out.keep hb
    clear A_8
    clear W_8
    clear X_8
    clear Q_8
    clear G_8
    clear hb
    have pA := A_9.out.c0
    have pQ := Q_9.out.c0
    go_wp2_with fail
    refine (markTree_at X_9.out BL.out BN.out 1 (by decide) (by decide)).mono ?_
    rintro r w10 ⟨rfl, hw⟩
    clear pA
    clear pQ
    have SZ10 : Hid (w9.heap.size ≤ w10.heap.size) := hw.size
    have HT10 : Hid (Below w.heap.size w w10) := HT9.out.trans (hw.below (by have := SZ1.out; have := LA.out; have := SZ2.out; have := SZ3.out; have := LOT.out; have := SZ4.out; have := SZ5.out; have := LOX.out; have := SZ6.out; have := LQ.out; have := SZ7.out; have := SZ8.out; have := SZ9.out; omega) HT9.out.size)
    have A_10 : Hid (Box1 w10 w.heap.size (.slice a n0 c) 24) := A_9.out.win hw (by have := SZ1.out; have := LA.out; have := SZ2.out; have := SZ3.out; have := LOT.out; have := SZ4.out; have := SZ5.out; have := LOX.out; have := SZ6.out; have := LQ.out; have := SZ7.out; have := SZ8.out; have := SZ9.out; omega)
    have W_10 : Hid (InsW w3.heap.size w4.heap.size w10 uW m E N) := W_9.out.win hw (by have := SZ1.out; have := LA.out; have := SZ2.out; have := SZ3.out; have := LOT.out; have := SZ4.out; have := SZ5.out; have := LOX.out; have := SZ6.out; have := LQ.out; have := SZ7.out; have := SZ8.out; have := SZ9.out; omega)
    have Q_10 : Hid (Box1 w10 w5.heap.size (.slice (some ⟨oX, 0, none⟩) n0 n0) 31) := Q_9.out.win hw (by have := SZ1.out; have := LA.out; have := SZ2.out; have := SZ3.out; have := LOT.out; have := SZ4.out; have := SZ5.out; have := LOX.out; have := SZ6.out; have := LQ.out; have := SZ7.out; have := SZ8.out; have := SZ9.out; omega)
    have G_10 : Hid (OwnVInsI w6.heap.size w7.heap.size w10 uG m E N) := G_9.out.win hw (by have := SZ1.out; have := LA.out; have := SZ2.out; have := SZ3.out; have := LOT.out; have := SZ4.out; have := SZ5.out; have := LOX.out; have := SZ6.out; have := LQ.out; have := SZ7.out; have := SZ8.out; have := SZ9.out; omega)
    clear A_9
    clear W_9
    clear X_9
    clear Q_9
    clear G_9
    clear hw
    have kn : ¬ (1 + (totN 6 N0 n0 : Int) < 0) := by omega
    generalize (1 + (totN 6 N0 n0 : Int)) = KK at *
    have pA := A_10.out.c0
    have pQ := Q_10.out.c0
    go_wp2_with fail
    refine (eqInstrS_same G_10.out.list W_10.out.list LN.out LM.out).mono ?_
    rintro r w11 ⟨rfl, hb⟩
    clear pA
    clear pQ
    have SZ11 : Hid (w10.heap.size ≤ w11.heap.size) := hb.size
    have HT11 : Hid (Below w.heap.size w w11) := bTrans HT10.out hb
    have A_11 : Hid (Box1 w11 w.heap.size (.slice a n0 c) 24) := A_10.out.keep hb
    have W_11 : Hid (InsW w3.heap.size w4.heap.size w11 uW m E N) := W_10.out.keep hb
    have Q_11 : Hid (Box1 w11 w5.heap.size (.slice (some ⟨oX, 0, none⟩) n0 n0) 31) := Q_10.out.keep hb
    have G_11 : Hid (OwnVInsI w6.heap.size w7.heap.size w11 uG m E N) := G_10.out.keep hb
    clear A_10
    clear W_10
    clear Q_10
    clear G_10
    clear hb
    have pA := A_11.out.c0
    have pQ := Q_11.out.c0
    go_wp2_with fail
    refine (G_11.out.mark LN.out LM.out 1 (by decide) (by decide)).mono ?_
    rintro r w12 ⟨rfl, ⟨E9, N9, hG, hM⟩, hw⟩
    clear pA
    clear pQ
    have SZ12 : Hid (w11.heap.size ≤ w12.heap.size) := hw.size
    have HT12 : Hid (Below w.heap.size w w12) := HT11.out.trans (hw.below (by have := SZ1.out; have := LA.out; have := SZ2.out; have := SZ3.out; have := LOT.out; have := SZ4.out; have := SZ5.out; have := LOX.out; have := SZ6.out; have := LQ.out; have := SZ7.out; have := SZ8.out; have := SZ9.out; have := SZ10.out; have := SZ11.out; omega) HT11.out.size)
    have A_12 : Hid (Box1 w12 w.heap.size (.slice a n0 c) 24) := A_11.out.win hw (by have := SZ1.out; have := LA.out; have := SZ2.out; have := SZ3.out; have := LOT.out; have := SZ4.out; have := SZ5.out; have := LOX.out; have := SZ6.out; have := LQ.out; have := SZ7.out; have := SZ8.out; have := SZ9.out; have := SZ10.out; have := SZ11.out; omega)
    have W_12 : Hid (InsW w3.heap.size w4.heap.size w12 uW m E N) := W_11.out.win hw (by have := SZ1.out; have := LA.out; have := SZ2.out; have := SZ3.out; have := LOT.out; have := SZ4.out; have := SZ5.out; have := LOX.out; have := SZ6.out; have := LQ.out; have := SZ7.out; have := SZ8.out; have := SZ9.out; have := SZ10.out; have := SZ11.out; omega)
    have Q_12 : Hid (Box1 w12 w5.heap.size (.slice (some ⟨oX, 0, none⟩) n0 n0) 31) := Q_11.out.win hw (by have := SZ1.out; have := LA.out; have := SZ2.out; have := SZ3.out; have := LOT.out; have := SZ4.out; have := SZ5.out; have := LOX.out; have := SZ6.out; have := LQ.out; have := SZ7.out; have := SZ8.out; have := SZ9.out; have := SZ10.out; have := SZ11.out; omega)
    clear A_11
    clear W_11
    clear Q_11
    clear G_11
    have G_12 : Hid (OwnVInsI w6.heap.size w7.heap.size w12 uG m E9 N9) := hG
    have MK : Hid (MkdInsI 1 N m E9 N9) := hM
    clear hG hw hM
    have qn : ¬ (1 + (totN 5 N m : Int) < 0) := by omega
    have qm : ((1 + (totN 5 N m : Int)) != (1 + (totN 5 N m : Int))) = false := by simp
    have pA := A_12.out.c0
    have pQ := Q_12.out.c0
    go_wp2_with fail
    refine (G_12.out.held 1 MK.out LN.out LM.out LT.out (by decide) (by decide)).mono ?_
    rintro r wz ⟨rfl, hz⟩
    subst wz
    clear pA
    clear pQ
    have pA := A_12.out.c0
    have pQ := Q_12.out.c0
    go_wp2_with fail
    refine (toTree_own (H.out.keep HT12.out) BL.out BN.out).mono ?_
    rintro r w13 ⟨oZ, rfl, hoZ, hO, hb⟩
    clear pA
    clear pQ
    have SZ13 : Hid (w12.heap.size ≤ w13.heap.size) := hb.size
    have HT13 : Hid (Below w.heap.size w w13) := bTrans HT12.out hb
    have A_13 : Hid (Box1 w13 w.heap.size (.slice a n0 c) 24) := A_12.out.keep hb
    have W_13 : Hid (InsW w3.heap.size w4.heap.size w13 uW m E N) := W_12.out.keep hb
    have Q_13 : Hid (Box1 w13 w5.heap.size (.slice (some ⟨oX, 0, none⟩) n0 n0) 31) := Q_12.out.keep hb
    have G_13 : Hid (OwnVInsI w6.heap.size w7.heap.size w13 uG m E9 N9) := G_12.out.keep hb
    clear A_12
    clear W_12
    clear Q_12
    clear G_12
    have Z_13 : Hid (OwnExprsI oZ w13.heap.size n0 n0 w13 E0 N0) := hO
    have LOZ : Hid (w12.heap.size ≤ oZ ∧ oZ < w13.heap.size) := ⟨hoZ, hO.lthi.1⟩
    clear hO hb hoZ
    have pA := A_13.out.c0
    have pQ := Q_13.out.c0
    go_wp2_with fail
    refine (IM.out _ _ Z_13.out.list).mono ?_
    rintro r w14 ⟨uJ, rfl, hN, hb⟩
    clear pA
    clear pQ
    have SZ14 : Hid (w13.heap.size ≤ w14.heap.size) := hb.size
    have HT14 : Hid (Below w.heap.size w w14) := bTrans HT13.out hb
    have A_14 : Hid (Box1 w14 w.heap.size (.slice a n0 c) 24) := A_13.out.keep hb
    have W_14 : Hid (InsW w3.heap.size w4.heap.size w14 uW m E N) := W_13.out.keep hb
    have Q_14 : Hid (Box1 w14 w5.heap.size (.slice (some ⟨oX, 0, none⟩) n0 n0) 31) := Q_13.out.keep hb
    have G_14 : Hid (OwnVInsI w6.heap.size w7.heap.size w14 uG m E9 N9) := G_13.out.keep hb
    have Z_14 : Hid (OwnExprsI oZ w13.heap.size n0 n0 w14 E0 N0) := Z_13.out.keep hb
    clear A_13
    clear W_13
    clear Q_13
    clear G_13
    clear Z_13
    have J_14 : Hid (OwnVInsI w13.heap.size w14.heap.size w14 uJ m E N) := hN
    clear hN hb
    have pA := A_14.out.c0
    have pQ := Q_14.out.c0
    go_wp2_with fail
    refine (eqInstrS_same J_14.out.list W_14.out.list LN.out LM.out).mono ?_
    rintro r w15 ⟨rfl, hb⟩
    clear pA
    clear pQ
    have SZ15 : Hid (w14.heap.size ≤ w15.heap.size) := hb.size
    have HT15 : Hid (Below w.heap.size w w15) := bTrans HT14.out hb
    have A_15 : Hid (Box1 w15 w.heap.size (.slice a n0 c) 24) := A_14.out.keep hb
    have W_15 : Hid (InsW w3.heap.size w4.heap.size w15 uW m E N) := W_14.out.keep hb
    have Q_15 : Hid (Box1 w15 w5.heap.size (.slice (some ⟨oX, 0, none⟩) n0 n0) 31) := Q_14.out.keep hb
    have G_15 : Hid (OwnVInsI w6.heap.size w7.heap.size w15 uG m E9 N9) := G_14.out.keep hb
    have Z_15 : Hid (OwnExprsI oZ w13.heap.size n0 n0 w15 E0 N0) := Z_14.out.keep hb
    have J_15 : Hid (OwnVInsI w13.heap.size w14.heap.size w15 uJ m E N) := J_14.out.keep hb
    clear A_14
    clear W_14
    clear Q_14
    clear G_14
    clear Z_14
    clear J_14
    clear hb
    have pA := A_15.out.c0
    have pQ := Q_15.out.c0
    go_wp2_with fail
    refine (G_15.out.held 1 MK.out LN.out LM.out LT.out (by decide) (by decide)).mono ?_
    rintro r wz ⟨rfl, hz⟩
    subst wz
    clear pA
    clear pQ
    have pA := A_15.out.c0
    have pQ := Q_15.out.c0
    go_wp2
    go_ret
    exact ⟨rfl, HT15.out⟩

set_option maxRecDepth 100000 in
theorem lifted (os : Os) (started : os.Started) (H : Type) (enc : TypeId × Value → H) :
    ReturnsInHanded {} Try.checked os 3 .any (Rows.fnExactCompileSpec.pre6 enc Try.prog Try.f3 Rows.fnExactCompileRow.domain false) (Rows.fnExactCompileSpec.post enc Try.prog Try.f3 false true false false) := by
  refine returnsInHanded_of_change (C := Try.checked) own started (by kernel_rfl) Try.func3
    (ChangeSpec.witness6 (enc := enc) (C := Try.checked) false ⟨#[], #[.agg #[.slice none 0 0]], []⟩ 8 (by kernel_rfl) (by kernel_rfl) (by kernel_rfl) (by kernel_rfl)) ?_
  intro W base args ds gs before hval0 hW hcnd _
  have hval : ∀ (j : Nat) t v, Try.f3.params[j]? = some t → args[j]? = some v → Value.okWide Try.prog W .any base t v := hval0
  have hW' := hW
  obtain ⟨p, q, hA0, hV, rfl, hfz, hnd⟩ := hW
  have hA : DataW.TrodAll enc Try.prog W 0 (fun _ => true) true Try.f3.params.toList args.toList ds p := hA0
  rw [Try.params3] at hA hval
  obtain ⟨v0, vs0, e0, es0, p0, q0, hargs, rfl, rfl, h0, r0⟩ := trodAll_cons hA
  obtain ⟨rfl, rfl, rfl⟩ := trodAll_nil r0
  obtain rfl : args = #[v0] := by cases args; simp_all
  obtain ⟨rfl, rfl⟩ := trodVars_none hV
  have k0 := h0
  have lt0 : ∀ x ∈ p0, x.block < W.heap.size := by obtain ⟨m, hm⟩ := k0; exact DataW.trod_lt m _ _ _ hm
  obtain ⟨x0, y0, m0, rfl, rfl, rfl, hf0⟩ := open_agg1 Try.underlying24 (by kernel_rfl) (by kernel_rfl) (hval 0 24 v0 rfl rfl) h0
  obtain ⟨n0, E0, N0, w0, b0, c0, z0⟩ := cell_exprs hf0
  clear hA0 hval0
  refine (walk _ n0 E0 N0 W w0 b0 c0 z0).mono fun e W' ⟨he, bel⟩ => ?_
  subst he
  exact ⟨_, rfl, _, _, _, [], _, [], hW', trodAll_mk1 (shut_bool Try.underlying4 _), (trodAll_cons_mk (Below.trod laidOut (by kernel_rfl) (of_decide_eq_true (by kernel_rfl)) k0 bel lt0) trodAll_mk0), rfl, bel.frame _, fun h => by cases h⟩

theorem over : Rows.fnExactCompileRow.holds Try.pinned (OpenSpec.ofChange Rows.fnExactCompileSpec) :=
  OpenClaim.holds_of_wide 3 Try.f3 rfl rfl rfl rfl rfl rfl rfl ⟨rfl, rfl, rfl, rfl, rfl⟩ rfl rfl rfl rfl rfl (by kernel_rfl) Try.func3 (by kernel_rfl)
    (of_decide_eq_true (by kernel_rfl)) (by unfold Func.isWrapper; first | (rw [if_pos (by decide +kernel)]; kernel_rfl) | (rw [if_neg (by decide +kernel)]; exact ⟨rfl, rfl⟩))
    (fun os started H enc _ => lifted os started H enc)

/-- The statement. -/
theorem proved : Rows.FnExactCompileSaid := over
end Go.Proofs.Ytpmcipnookjmgaa.fnExactCompile
namespace Go.Proofs.Ytpmcipnookjmgaa
theorem fnExactCompile_holds : Rows.FnExactCompileSaid := fnExactCompile.proved
#print axioms fnExactCompile_holds
end Go.Proofs.Ytpmcipnookjmgaa
