/-
  Proved: whatever tokens it is given, the law FnExactParse returns true (the program's Parse answers as the specification's, every field, writes into no argument, and its answer owns its memory), and the tokens read as before. The one listed variable holds what the program's text lays in it, as the tied card says.
-/
import Derived.Test.YtnebjnglcfebeaaDoorRows
import Derived.WalkKit
import Derived.ProofKit
import Derived.OpenShut
import Derived.ShutString
import Derived.ChangeOld
import Derived.Below
import Derived.Deep.Cut
import Derived.Test.YtnebjnglcfebeaaDoorTie
import Derived.Test.YtnebjnglcfebeaaDoorCards
import Derived.LaidLaws
import Derived.LaidHandle
import Derived.OpenVars
import Derived.ChangeVars
import Derived.Lib.LaidTab
import Derived.Lib.LaidIn
import Derived.SevenTiedAt
import Derived.Test.YtnebjnglcfebeaaDoorFrame
import Derived.Test.YtnebjnglcfebeaaDoorZ1
import Derived.Test.YtnebjnglcfebeaaDoorTokT
namespace Go.Proofs.YtnebjnglcfebeaaDoor.fnExactParse
open Go.ChangeShapes Go.WideShapes Go.ChangeAt Go.RowKit
open Go.ChangeMaps (open_string shut_string)
set_option linter.unusedVariables false
set_option linter.unusedSimpArgs false

theorem own : ownKnob Tryd.prog.godebug = none := by kernel_rfl
theorem laidOut : laidOutB Tryd.prog = true := by kernel_rfl

set_option maxRecDepth 20000 in
set_option maxHeartbeats 8000000 in
/-- The walk: the law returns true, and writes nothing that was there. -/
theorem walk (v0 : Value) (n0 : Nat) (E0 : Nat → Spn) (w : World) (ht : ErrX w) (w0 : TsI w v0 n0 E0) (b0 : n0 ≤ 9223372036854775807) :
    Calls Tryd.prog 3 #[v0] w fun e w' => e = .returned (.bool true) ∧ Below w.heap.size w w' := by
  obtain ⟨a, c, rfl, hac, hA⟩ := w0
  have HS : Hid (SsA w a n0 E0) := hA
  have HE : Hid (ErrX w) := ht
  clear hA ht
  by_cases hbig : n0 ≤ 1048576
  · have CZ : Hid (Calls Tryd.prog 5 #[.slice a n0 c, .int .i64 1048576] w fun e w' => e = .returned (.int .i64 (1048576 - (n0 : Int))) ∧ w' = w) := by
      have h := szTokenS_at a n0 c 1048576 w (by omega) (by omega) b0
      have e : szV n0 1048576 = 1048576 - (n0 : Int) := by unfold szV; rw [if_neg (by omega)]
      rw [e] at h
      exact h
    have hl : ¬ (1048576 - (n0 : Int)) < 0 := by omega
    have PS := parC_small n0 E0
    obtain ⟨V, hV⟩ : ∃ V, V = (parC n0 E0).1 := ⟨_, rfl⟩
    obtain ⟨m, hm⟩ : ∃ m, m = (parC n0 E0).2.length := ⟨_, rfl⟩
    obtain ⟨E, hE⟩ : ∃ E, E = ndE (parC n0 E0).2 := ⟨_, rfl⟩
    obtain ⟨N, hN⟩ : ∃ N, N = ndN (parC n0 E0).2 := ⟨_, rfl⟩
    have SP : Hid (∀ (W : World) (a' : Option Addr) (c' : Nat), SsA W a' n0 E0 → Calls Tryd.prog 6 #[.slice a' n0 c'] W fun r w' => ∃ u, r = .returned (.tuple #[.agg #[u], .int .i64 V]) ∧ ExW W.heap.size w'.heap.size w' u m E N ∧ Below W.heap.size W w') := fun W a' c' hu => by rw [hV, hm, hE, hN]; exact parse_specW hu hbig
    have IM : Hid (∀ (W : World) (a' : Option Addr) (c' : Nat), SsA W a' n0 E0 → Below w.heap.size w W → Calls Tryd.prog 8 #[.slice a' n0 c'] W fun r w' => ∃ u, r = .returned (.tuple #[.agg #[u], .int .i64 V]) ∧ OwnVT W.heap.size w'.heap.size w' u m E N ∧ Below W.heap.size W w') := fun W a' c' hu hb => by rw [hV, hm, hE, hN]; exact parse_implX hu hbig (HE.out.on hb)
    have L300 : ∀ i, (N i).length ≤ 300 := fun i => by rw [hN]; exact ndN_small PS.2 i
    have LN : Hid (∀ i, (N i).length ≤ 1048576) := fun i => by have := L300 i; omega
    have LM : Hid (m ≤ 1048576) := by show _ ≤ _; have := PS.1; omega
    have LT : Hid (totN 6 N m ≤ 1073741824) := by show _ ≤ _; have := totN_small L300 m; have := PS.1; omega
    have hneV : (V != V) = false := by simp
    clear hV hm hE hN PS L300
    go_enter Tryd.func3, Tryd.ntmps3
    go_wp2_with fail
    refine CZ.out.mono ?_
    rintro r w' ⟨rfl, hw⟩
    subst w'
    clear CZ
    go_wp2_with fail
    refine (toTokenS_own ⟨a, c, rfl, hac, HS.out⟩ hbig).mono ?_
    rintro r w1 ⟨gT, rfl, hgT, hC, hb⟩
    have SZ1 : Hid (w.heap.size ≤ w1.heap.size) := hb.size
    have HT1 : Hid (Below w.heap.size w w1) := hb
    have T_1 : Hid (SBlk w1 gT n0 E0) := hC
    have LOT : Hid (w.heap.size ≤ gT ∧ gT < w1.heap.size) := ⟨hgT, hC.lt⟩
    clear hC hb hgT
    go_wp2_with fail
    refine (SP.out _ _ _ T_1.out.ssA).mono ?_
    rintro r w2 ⟨uW, rfl, hN, hb⟩
    have SZ2 : Hid (w1.heap.size ≤ w2.heap.size) := hb.size
    have HT2 : Hid (Below w.heap.size w w2) := bTrans HT1.out hb
    have T_2 : Hid (SBlk w2 gT n0 E0) := T_1.out.keep hb
    clear T_1
    have W_2 : Hid (ExW w1.heap.size w2.heap.size w2 uW m E N) := hN
    clear hN hb
    obtain ⟨aW, cW, eW⟩ : ∃ a c, uW = .slice a m c := by obtain ⟨a, c, e, _⟩ := W_2.out.list; exact ⟨a, c, e⟩
    subst eW
    clear T_2
    go_wp2_with fail
    have hbx := box1_new w2 (.slice aW m cW) 26
    have hb : Below w2.heap.size w2 (w2.alloc (.cells #[.slice aW m cW] 26)) := one_below
    generalize w2.alloc (.cells #[.slice aW m cW] 26) = w3 at *
    have SZ3 : Hid (w2.heap.size ≤ w3.heap.size) := hb.size
    have HT3 : Hid (Below w.heap.size w w3) := bTrans HT2.out hb
    have W_3 : Hid (ExW w1.heap.size w2.heap.size w3 (.slice aW m cW) m E N) := W_2.out.keep hb
    clear W_2
    have BW_3 : Hid (Box1 w3 w2.heap.size (.slice aW m cW) 26) := hbx
    have LBW : Hid (w2.heap.size < w3.heap.size) := hbx.lt
    clear hb hbx
    refine (toTokenS_own ⟨a, c, rfl, hac, HS.out.keep HT3.out⟩ hbig).mono ?_
    rintro r w4 ⟨gX, rfl, hgX, hC, hb⟩
    have SZ4 : Hid (w3.heap.size ≤ w4.heap.size) := hb.size
    have HT4 : Hid (Below w.heap.size w w4) := bTrans HT3.out hb
    have W_4 : Hid (ExW w1.heap.size w2.heap.size w4 (.slice aW m cW) m E N) := W_3.out.keep hb
    have BW_4 : Hid (Box1 w4 w2.heap.size (.slice aW m cW) 26) := BW_3.out.keep hb
    clear W_3
    clear BW_3
    have X_4 : Hid (SBlk w4 gX n0 E0) := hC
    have LOX : Hid (w3.heap.size ≤ gX ∧ gX < w4.heap.size) := ⟨hgX, hC.lt⟩
    clear hC hb hgX
    have pBW := BW_4.out.c0
    go_wp2_with fail
    refine (IM.out _ _ _ X_4.out.ssA HT4.out).mono ?_
    rintro r w5 ⟨uG, rfl, hN, hb⟩
    clear pBW
    have SZ5 : Hid (w4.heap.size ≤ w5.heap.size) := hb.size
    have HT5 : Hid (Below w.heap.size w w5) := bTrans HT4.out hb
    have W_5 : Hid (ExW w1.heap.size w2.heap.size w5 (.slice aW m cW) m E N) := W_4.out.keep hb
    have BW_5 : Hid (Box1 w5 w2.heap.size (.slice aW m cW) 26) := BW_4.out.keep hb
    have X_5 : Hid (SBlk w5 gX n0 E0) := X_4.out.keep hb
    clear W_4
    clear BW_4
    clear X_4
    have G_5 : Hid (OwnVT w4.heap.size w5.heap.size w5 uG m E N) := hN
    clear hN hb
    obtain ⟨aG, cG, eG⟩ : ∃ a c, uG = .slice a m c := by exact G_5.out.slice
    subst eG
    have pBW := BW_5.out.c0
    have oBW : ∀ O : Obj, _ := fun O => (BW_5.out.keep (bAlloc (Below.refl _ _) O)).c0
    go_wp2_with fail
    clear pBW
    clear oBW
    have hbx := box1_new w5 (.slice aG m cG) 26
    have hb : Below w5.heap.size w5 (w5.alloc (.cells #[.slice aG m cG] 26)) := one_below
    generalize w5.alloc (.cells #[.slice aG m cG] 26) = w6 at *
    have SZ6 : Hid (w5.heap.size ≤ w6.heap.size) := hb.size
    have HT6 : Hid (Below w.heap.size w w6) := bTrans HT5.out hb
    have W_6 : Hid (ExW w1.heap.size w2.heap.size w6 (.slice aW m cW) m E N) := W_5.out.keep hb
    have BW_6 : Hid (Box1 w6 w2.heap.size (.slice aW m cW) 26) := BW_5.out.keep hb
    have X_6 : Hid (SBlk w6 gX n0 E0) := X_5.out.keep hb
    have G_6 : Hid (OwnVT w4.heap.size w5.heap.size w6 (.slice aG m cG) m E N) := G_5.out.keep hb
    clear W_5
    clear BW_5
    clear X_5
    clear G_5
    have BG_6 : Hid (Box1 w6 w5.heap.size (.slice aG m cG) 26) := hbx
    have LBG : Hid (w5.heap.size < w6.heap.size) := hbx.lt
    clear hb hbx
    have pBW := BW_6.out.c0
    have pBG := BG_6.out.c0
    go_wp2_with fail
    refine (eqTree_same G_6.out.list W_6.out.list LN.out LM.out).mono ?_
    rintro r w7 ⟨rfl, hb⟩
    clear pBW
    clear pBG
    have SZ7 : Hid (w6.heap.size ≤ w7.heap.size) := hb.size
    have HT7 : Hid (Below w.heap.size w w7) := bTrans HT6.out hb
    have W_7 : Hid (ExW w1.heap.size w2.heap.size w7 (.slice aW m cW) m E N) := W_6.out.keep hb
    have BW_7 : Hid (Box1 w7 w2.heap.size (.slice aW m cW) 26) := BW_6.out.keep hb
    have X_7 : Hid (SBlk w7 gX n0 E0) := X_6.out.keep hb
    have G_7 : Hid (OwnVT w4.heap.size w5.heap.size w7 (.slice aG m cG) m E N) := G_6.out.keep hb
    have BG_7 : Hid (Box1 w7 w5.heap.size (.slice aG m cG) 26) := BG_6.out.keep hb
    clear W_6
    clear BW_6
    clear X_6
    clear G_6
    clear BG_6
    clear hb
    have pBW := BW_7.out.c0
    have pBG := BG_7.out.c0
    go_wp2_with fail
    refine (toTokenS_own ⟨a, c, rfl, hac, HS.out.keep HT7.out⟩ hbig).mono ?_
    rintro r w8 ⟨gZ, rfl, hgZ, hC, hb⟩
    clear pBW
    clear pBG
    have SZ8 : Hid (w7.heap.size ≤ w8.heap.size) := hb.size
    have HT8 : Hid (Below w.heap.size w w8) := bTrans HT7.out hb
    have W_8 : Hid (ExW w1.heap.size w2.heap.size w8 (.slice aW m cW) m E N) := W_7.out.keep hb
    have BW_8 : Hid (Box1 w8 w2.heap.size (.slice aW m cW) 26) := BW_7.out.keep hb
    have X_8 : Hid (SBlk w8 gX n0 E0) := X_7.out.keep hb
    have G_8 : Hid (OwnVT w4.heap.size w5.heap.size w8 (.slice aG m cG) m E N) := G_7.out.keep hb
    have BG_8 : Hid (Box1 w8 w5.heap.size (.slice aG m cG) 26) := BG_7.out.keep hb
    clear W_7
    clear BW_7
    clear X_7
    clear G_7
    clear BG_7
    have Z_8 : Hid (SBlk w8 gZ n0 E0) := hC
    have LOZ : Hid (w7.heap.size ≤ gZ ∧ gZ < w8.heap.size) := ⟨hgZ, hC.lt⟩
    clear hC hb hgZ
    have pBW := BW_8.out.c0
    have pBG := BG_8.out.c0
    go_wp2_with fail
    refine (eqTokenS_same X_8.out.ssA Z_8.out.ssA hbig).mono ?_
    rintro r w9 ⟨rfl, hb⟩
    clear pBW
    clear pBG
    have SZ9 : Hid (w8.heap.size ≤ w9.heap.size) := hb.size
    have HT9 : Hid (Below w.heap.size w w9) := bTrans HT8.out hb
    have W_9 : Hid (ExW w1.heap.size w2.heap.size w9 (.slice aW m cW) m E N) := W_8.out.keep hb
    have BW_9 : Hid (Box1 w9 w2.heap.size (.slice aW m cW) 26) := BW_8.out.keep hb
    have X_9 : Hid (SBlk w9 gX n0 E0) := X_8.out.keep hb
    have G_9 : Hid (OwnVT w4.heap.size w5.heap.size w9 (.slice aG m cG) m E N) := G_8.out.keep hb
    have BG_9 : Hid (Box1 w9 w5.heap.size (.slice aG m cG) 26) := BG_8.out.keep hb
    have Z_9 : Hid (SBlk w9 gZ n0 E0) := Z_8.out.keep hb
    clear W_8
    clear BW_8
    clear X_8
    clear G_8
    clear BG_8
    clear Z_8
    clear hb
    clear Z_9
    have pBW := BW_9.out.c0
    have pBG := BG_9.out.c0
    go_wp2_with fail
    refine (markTokenS_blk X_9.out hbig 1 (by decide) (by decide)).mono ?_
    rintro r w10 ⟨rfl, _, hw⟩
    clear pBW
    clear pBG
    have SZ10 : Hid (w9.heap.size ≤ w10.heap.size) := hw.size
    have HT10 : Hid (Below w.heap.size w w10) := HT9.out.trans (hw.below (by have := SZ1.out; have := LOT.out; have := SZ2.out; have := SZ3.out; have := LBW.out; have := SZ4.out; have := LOX.out; have := SZ5.out; have := SZ6.out; have := LBG.out; have := SZ7.out; have := SZ8.out; have := LOZ.out; have := SZ9.out; omega) HT9.out.size)
    have W_10 : Hid (ExW w1.heap.size w2.heap.size w10 (.slice aW m cW) m E N) := W_9.out.win hw (by have := SZ1.out; have := LOT.out; have := SZ2.out; have := SZ3.out; have := LBW.out; have := SZ4.out; have := LOX.out; have := SZ5.out; have := SZ6.out; have := LBG.out; have := SZ7.out; have := SZ8.out; have := LOZ.out; have := SZ9.out; omega)
    have BW_10 : Hid (Box1 w10 w2.heap.size (.slice aW m cW) 26) := BW_9.out.win hw (by have := SZ1.out; have := LOT.out; have := SZ2.out; have := SZ3.out; have := LBW.out; have := SZ4.out; have := LOX.out; have := SZ5.out; have := SZ6.out; have := LBG.out; have := SZ7.out; have := SZ8.out; have := LOZ.out; have := SZ9.out; omega)
    have G_10 : Hid (OwnVT w4.heap.size w5.heap.size w10 (.slice aG m cG) m E N) := G_9.out.win hw (by have := SZ1.out; have := LOT.out; have := SZ2.out; have := SZ3.out; have := LBW.out; have := SZ4.out; have := LOX.out; have := SZ5.out; have := SZ6.out; have := LBG.out; have := SZ7.out; have := SZ8.out; have := LOZ.out; have := SZ9.out; omega)
    have BG_10 : Hid (Box1 w10 w5.heap.size (.slice aG m cG) 26) := BG_9.out.win hw (by have := SZ1.out; have := LOT.out; have := SZ2.out; have := SZ3.out; have := LBW.out; have := SZ4.out; have := LOX.out; have := SZ5.out; have := SZ6.out; have := LBG.out; have := SZ7.out; have := SZ8.out; have := LOZ.out; have := SZ9.out; omega)
    clear W_9
    clear BW_9
    clear X_9
    clear G_9
    clear BG_9
    clear hw
    have kn : ¬ ((1 : Int) + 2 * (n0 : Int) < 0) := by omega
    generalize ((1 : Int) + 2 * (n0 : Int)) = KK at *
    have pBW := BW_10.out.c0
    have pBG := BG_10.out.c0
    go_wp2_with fail
    refine (eqTree_same G_10.out.list W_10.out.list LN.out LM.out).mono ?_
    rintro r w11 ⟨rfl, hb⟩
    clear pBW
    clear pBG
    have SZ11 : Hid (w10.heap.size ≤ w11.heap.size) := hb.size
    have HT11 : Hid (Below w.heap.size w w11) := bTrans HT10.out hb
    have W_11 : Hid (ExW w1.heap.size w2.heap.size w11 (.slice aW m cW) m E N) := W_10.out.keep hb
    have BW_11 : Hid (Box1 w11 w2.heap.size (.slice aW m cW) 26) := BW_10.out.keep hb
    have G_11 : Hid (OwnVT w4.heap.size w5.heap.size w11 (.slice aG m cG) m E N) := G_10.out.keep hb
    have BG_11 : Hid (Box1 w11 w5.heap.size (.slice aG m cG) 26) := BG_10.out.keep hb
    clear W_10
    clear BW_10
    clear G_10
    clear BG_10
    clear hb
    have pBW := BW_11.out.c0
    have pBG := BG_11.out.c0
    go_wp2_with fail
    refine (markTreeV G_11.out LN.out LM.out 1 (by decide) (by decide) (by have := SZ1.out; have := LOT.out; have := SZ2.out; have := SZ3.out; have := LBW.out; have := SZ4.out; have := LOX.out; have := SZ5.out; have := SZ6.out; have := LBG.out; have := SZ7.out; have := SZ8.out; have := LOZ.out; have := SZ9.out; have := SZ10.out; have := SZ11.out; omega)).mono ?_
    rintro r w12 ⟨rfl, ⟨E9, N9, hG, hM⟩, hw⟩
    clear pBW
    clear pBG
    have SZ12 : Hid (w11.heap.size ≤ w12.heap.size) := hw.size
    have HT12 : Hid (Below w.heap.size w w12) := HT11.out.trans (hw.below (by have := SZ1.out; have := LOT.out; have := SZ2.out; have := SZ3.out; have := LBW.out; have := SZ4.out; have := LOX.out; have := SZ5.out; have := SZ6.out; have := LBG.out; have := SZ7.out; have := SZ8.out; have := LOZ.out; have := SZ9.out; have := SZ10.out; have := SZ11.out; omega) HT11.out.size)
    have W_12 : Hid (ExW w1.heap.size w2.heap.size w12 (.slice aW m cW) m E N) := W_11.out.win hw (by have := SZ1.out; have := LOT.out; have := SZ2.out; have := SZ3.out; have := LBW.out; have := SZ4.out; have := LOX.out; have := SZ5.out; have := SZ6.out; have := LBG.out; have := SZ7.out; have := SZ8.out; have := LOZ.out; have := SZ9.out; have := SZ10.out; have := SZ11.out; omega)
    have BW_12 : Hid (Box1 w12 w2.heap.size (.slice aW m cW) 26) := BW_11.out.win hw (by have := SZ1.out; have := LOT.out; have := SZ2.out; have := SZ3.out; have := LBW.out; have := SZ4.out; have := LOX.out; have := SZ5.out; have := SZ6.out; have := LBG.out; have := SZ7.out; have := SZ8.out; have := LOZ.out; have := SZ9.out; have := SZ10.out; have := SZ11.out; omega)
    have BG_12 : Hid (Box1 w12 w5.heap.size (.slice aG m cG) 26) := BG_11.out.win hw (by have := SZ1.out; have := LOT.out; have := SZ2.out; have := SZ3.out; have := LBW.out; have := SZ4.out; have := LOX.out; have := SZ5.out; have := SZ6.out; have := LBG.out; have := SZ7.out; have := SZ8.out; have := LOZ.out; have := SZ9.out; have := SZ10.out; have := SZ11.out; omega)
    clear W_11
    clear BW_11
    clear G_11
    clear BG_11
    have G_12 : Hid (OwnVT w4.heap.size w5.heap.size w12 (.slice aG m cG) m E9 N9) := hG
    have MK : Hid (MkdExprsI 1 N m E9 N9) := hM
    clear hG hw hM
    have qn : ¬ (1 + (totN 6 N m : Int) < 0) := by omega
    have qm : ((1 + (totN 6 N m : Int)) != (1 + (totN 6 N m : Int))) = false := by simp
    have pBW := BW_12.out.c0
    have pBG := BG_12.out.c0
    go_wp2_with fail
    refine (heldTreeV G_12.out 1 MK.out LN.out LM.out LT.out (by decide) (by decide)).mono ?_
    rintro r w13 ⟨rfl, hb⟩
    clear pBW
    clear pBG
    have SZ13 : Hid (w12.heap.size ≤ w13.heap.size) := hb.size
    have HT13 : Hid (Below w.heap.size w w13) := bTrans HT12.out hb
    have W_13 : Hid (ExW w1.heap.size w2.heap.size w13 (.slice aW m cW) m E N) := W_12.out.keep hb
    have BW_13 : Hid (Box1 w13 w2.heap.size (.slice aW m cW) 26) := BW_12.out.keep hb
    have BG_13 : Hid (Box1 w13 w5.heap.size (.slice aG m cG) 26) := BG_12.out.keep hb
    have G_13 : Hid (OwnVT w4.heap.size w5.heap.size w13 (.slice aG m cG) m E9 N9) := G_12.out.keep hb
    clear W_12
    clear BW_12
    clear BG_12
    clear G_12
    clear hb
    have pBW := BW_13.out.c0
    have pBG := BG_13.out.c0
    go_wp2_with fail
    refine (toTokenS_own ⟨a, c, rfl, hac, HS.out.keep HT13.out⟩ hbig).mono ?_
    rintro r w14 ⟨gY, rfl, hgY, hC, hb⟩
    clear pBW
    clear pBG
    have SZ14 : Hid (w13.heap.size ≤ w14.heap.size) := hb.size
    have HT14 : Hid (Below w.heap.size w w14) := bTrans HT13.out hb
    have W_14 : Hid (ExW w1.heap.size w2.heap.size w14 (.slice aW m cW) m E N) := W_13.out.keep hb
    have BW_14 : Hid (Box1 w14 w2.heap.size (.slice aW m cW) 26) := BW_13.out.keep hb
    have BG_14 : Hid (Box1 w14 w5.heap.size (.slice aG m cG) 26) := BG_13.out.keep hb
    have G_14 : Hid (OwnVT w4.heap.size w5.heap.size w14 (.slice aG m cG) m E9 N9) := G_13.out.keep hb
    clear W_13
    clear BW_13
    clear BG_13
    clear G_13
    have Y_14 : Hid (SBlk w14 gY n0 E0) := hC
    have LOY : Hid (w13.heap.size ≤ gY ∧ gY < w14.heap.size) := ⟨hgY, hC.lt⟩
    clear hC hb hgY
    have pBW := BW_14.out.c0
    have pBG := BG_14.out.c0
    go_wp2_with fail
    refine (IM.out _ _ _ Y_14.out.ssA HT14.out).mono ?_
    rintro r w15 ⟨uJ, rfl, hN, hb⟩
    clear pBW
    clear pBG
    have SZ15 : Hid (w14.heap.size ≤ w15.heap.size) := hb.size
    have HT15 : Hid (Below w.heap.size w w15) := bTrans HT14.out hb
    have W_15 : Hid (ExW w1.heap.size w2.heap.size w15 (.slice aW m cW) m E N) := W_14.out.keep hb
    have BW_15 : Hid (Box1 w15 w2.heap.size (.slice aW m cW) 26) := BW_14.out.keep hb
    have BG_15 : Hid (Box1 w15 w5.heap.size (.slice aG m cG) 26) := BG_14.out.keep hb
    have G_15 : Hid (OwnVT w4.heap.size w5.heap.size w15 (.slice aG m cG) m E9 N9) := G_14.out.keep hb
    have Y_15 : Hid (SBlk w15 gY n0 E0) := Y_14.out.keep hb
    clear W_14
    clear BW_14
    clear BG_14
    clear G_14
    clear Y_14
    have J_15 : Hid (OwnVT w14.heap.size w15.heap.size w15 uJ m E N) := hN
    clear hN hb
    obtain ⟨aJ, cJ, eJ⟩ : ∃ a c, uJ = .slice a m c := by exact J_15.out.slice
    subst eJ
    clear Y_15
    have pBW := BW_15.out.c0
    have pBG := BG_15.out.c0
    have oBW : ∀ O : Obj, _ := fun O => (BW_15.out.keep (bAlloc (Below.refl _ _) O)).c0
    have oBG : ∀ O : Obj, _ := fun O => (BG_15.out.keep (bAlloc (Below.refl _ _) O)).c0
    go_wp2_with fail
    clear pBW
    clear pBG
    clear oBW
    clear oBG
    have hbx := box1_new w15 (.slice aJ m cJ) 26
    have hb : Below w15.heap.size w15 (w15.alloc (.cells #[.slice aJ m cJ] 26)) := one_below
    generalize w15.alloc (.cells #[.slice aJ m cJ] 26) = w16 at *
    have SZ16 : Hid (w15.heap.size ≤ w16.heap.size) := hb.size
    have HT16 : Hid (Below w.heap.size w w16) := bTrans HT15.out hb
    have W_16 : Hid (ExW w1.heap.size w2.heap.size w16 (.slice aW m cW) m E N) := W_15.out.keep hb
    have BW_16 : Hid (Box1 w16 w2.heap.size (.slice aW m cW) 26) := BW_15.out.keep hb
    have BG_16 : Hid (Box1 w16 w5.heap.size (.slice aG m cG) 26) := BG_15.out.keep hb
    have G_16 : Hid (OwnVT w4.heap.size w5.heap.size w16 (.slice aG m cG) m E9 N9) := G_15.out.keep hb
    have J_16 : Hid (OwnVT w14.heap.size w15.heap.size w16 (.slice aJ m cJ) m E N) := J_15.out.keep hb
    clear W_15
    clear BW_15
    clear BG_15
    clear G_15
    clear J_15
    have BJ_16 : Hid (Box1 w16 w15.heap.size (.slice aJ m cJ) 26) := hbx
    have LBJ : Hid (w15.heap.size < w16.heap.size) := hbx.lt
    clear hb hbx
    have pBW := BW_16.out.c0
    have pBG := BG_16.out.c0
    have pBJ := BJ_16.out.c0
    go_wp2_with fail
    refine (eqTree_same J_16.out.list W_16.out.list LN.out LM.out).mono ?_
    rintro r w17 ⟨rfl, hb⟩
    clear pBW
    clear pBG
    clear pBJ
    have SZ17 : Hid (w16.heap.size ≤ w17.heap.size) := hb.size
    have HT17 : Hid (Below w.heap.size w w17) := bTrans HT16.out hb
    have W_17 : Hid (ExW w1.heap.size w2.heap.size w17 (.slice aW m cW) m E N) := W_16.out.keep hb
    have BW_17 : Hid (Box1 w17 w2.heap.size (.slice aW m cW) 26) := BW_16.out.keep hb
    have BG_17 : Hid (Box1 w17 w5.heap.size (.slice aG m cG) 26) := BG_16.out.keep hb
    have G_17 : Hid (OwnVT w4.heap.size w5.heap.size w17 (.slice aG m cG) m E9 N9) := G_16.out.keep hb
    have J_17 : Hid (OwnVT w14.heap.size w15.heap.size w17 (.slice aJ m cJ) m E N) := J_16.out.keep hb
    have BJ_17 : Hid (Box1 w17 w15.heap.size (.slice aJ m cJ) 26) := BJ_16.out.keep hb
    clear W_16
    clear BW_16
    clear BG_16
    clear G_16
    clear J_16
    clear BJ_16
    clear hb
    have pBW := BW_17.out.c0
    have pBG := BG_17.out.c0
    have pBJ := BJ_17.out.c0
    go_wp2_with fail
    refine (heldTreeV G_17.out 1 MK.out LN.out LM.out LT.out (by decide) (by decide)).mono ?_
    rintro r w18 ⟨rfl, hb⟩
    clear pBW
    clear pBG
    clear pBJ
    have SZ18 : Hid (w17.heap.size ≤ w18.heap.size) := hb.size
    have HT18 : Hid (Below w.heap.size w w18) := bTrans HT17.out hb
    have W_18 : Hid (ExW w1.heap.size w2.heap.size w18 (.slice aW m cW) m E N) := W_17.out.keep hb
    have BW_18 : Hid (Box1 w18 w2.heap.size (.slice aW m cW) 26) := BW_17.out.keep hb
    have BG_18 : Hid (Box1 w18 w5.heap.size (.slice aG m cG) 26) := BG_17.out.keep hb
    have G_18 : Hid (OwnVT w4.heap.size w5.heap.size w18 (.slice aG m cG) m E9 N9) := G_17.out.keep hb
    have J_18 : Hid (OwnVT w14.heap.size w15.heap.size w18 (.slice aJ m cJ) m E N) := J_17.out.keep hb
    have BJ_18 : Hid (Box1 w18 w15.heap.size (.slice aJ m cJ) 26) := BJ_17.out.keep hb
    clear W_17
    clear BW_17
    clear BG_17
    clear G_17
    clear J_17
    clear BJ_17
    clear hb
    have pBW := BW_18.out.c0
    have pBG := BG_18.out.c0
    have pBJ := BJ_18.out.c0
    go_wp2
    go_ret
    exact ⟨rfl, HT18.out⟩
  · have CZ : Hid (Calls Tryd.prog 5 #[.slice a n0 c, .int .i64 1048576] w fun e w' => e = .returned (.int .i64 (-1)) ∧ w' = w) := by
      have h := szTokenS_at a n0 c 1048576 w (by omega) (by omega) b0
      have e : szV n0 1048576 = -1 := by unfold szV; rw [if_pos (by omega)]
      rw [e] at h
      exact h
    go_enter Tryd.func3, Tryd.ntmps3
    go_wp2_with fail
    refine CZ.out.mono ?_
    rintro r w' ⟨rfl, hw⟩
    subst w'
    clear CZ
    go_wp2
    go_ret
    exact ⟨rfl, Below.refl _ _⟩

set_option maxRecDepth 100000 in
theorem er_name : Tryd.prog.globalNamed "loop.example/g00182/impl.errNoLine" = some 0 := by kernel_rfl
theorem er_type : (Tryd.prog.globals[0]?).map (·.type) = some 96 := by kernel_rfl
set_option maxRecDepth 100000 in
theorem tab_laid {W : World} (h : laidMetH Tryd.prog Rows.fnExactParseRow.laid W) : ErrX W := by
  have h2 : laidMet Tryd.prog [("loop.example/g00182/impl.errNoLine", Rows.laid_loop_example_g00182_impl_errNoLine)] W := h
  obtain ⟨ps, ⟨g, t, cs, fuel, p, q, e1, e2, e3, e4, _, rfl⟩, _, _⟩ := h2
  obtain rfl := Option.some.inj (er_name.symm.trans e1)
  obtain rfl := Option.some.inj (er_type.symm.trans e2)
  obtain ⟨_, u, v, hcs, _, _⟩ := iface_of_trod Tryd.underlying96 e4
  have hc := World.var?_cell er_name e3 0
  rw [Array.eq_one_of_toList hcs] at hc
  exact ⟨u, v, by simpa [ErrN] using hc⟩
/-- A world that meets the condition: the settled one, the tables laid. -/
noncomputable def laidWorld (os : Os) : World :=
  let N := (World.settled Tryd.prog os).heap.size
  let w0 := World.holding Tryd.prog os ⟨#[.cells #[.string ⟨#[116, 104, 101, 115, 101, 32, 116, 111, 107, 101, 110, 115, 32, 97, 114, 101, 32, 110, 111, 32, 108, 105, 110, 101]⟩] 136], #[], []⟩
  { w0 with heap := w0.heap.modify 0 fun | .cells _ t frozen => .cells #[.iface 118 (.pointer (some ⟨N, 0, none⟩))] t frozen | o => o }
theorem laid_met (os : Os) (args : Array Value) : laidMetH Tryd.prog Rows.fnExactParseRow.laid ((laidWorld os).forCall (fun _ _ => 0) ⟨#[], args, []⟩).memory :=
  (show laidMet Tryd.prog Rows.fnExactParseRow.laid _ from (LaidIn.of_run [0, (World.settled Tryd.prog os).heap.size] 8 (by kernel_rfl) (by kernel_rfl) (by kernel_rfl) (by kernel_rfl)).met)
set_option maxRecDepth 100000 in
theorem lifted (os : Os) (started : os.Started) (H : Type) (enc : TypeId × Value → H) :
    ReturnsInHanded {} Tryd.checked os 3 .any (fun w args => (Rows.fnExactParseSpec.pre enc Tryd.prog Tryd.f3 Rows.fnExactParseRow.domain false w args ∧ laidMetH Tryd.prog Rows.fnExactParseRow.laid w) ∧ sizedMet enc Tryd.prog Tryd.f3 (OpenSpec.ofChange Rows.fnExactParseSpec) false w args) (Rows.fnExactParseSpec.post enc Tryd.prog Tryd.f3 false true false false) := by
  refine returnsInHanded_of_change_and (C := Tryd.checked) (X := fun w _ => laidMetH Tryd.prog Rows.fnExactParseRow.laid w) (fun _ _ _ hh h => h.of_heap hh) own started (by kernel_rfl) Tryd.func3
    (by
      have hok : Input.okWideB Tryd.checked.prog ((laidWorld os).forCall (fun _ _ => 0) ⟨#[], #[.slice none 0 0], []⟩) 3 ⟨#[], #[.slice none 0 0], []⟩ = true := by kernel_rfl
      exact ⟨laidWorld os, fun _ _ => 0, ⟨#[], #[.slice none 0 0], []⟩, rfl, World.shaped_of_RefB (by kernel_rfl) (by kernel_rfl), (Input.okWide_of_okWideB (base := 0) hok).1, (Input.okWide_of_okWideB hok).2, ⟨⟨ChangeSpec.pre_of_preB (fuel := 8) (by kernel_rfl), laid_met os _⟩, sizedMet_of_sizedB (fuel := 8) (by kernel_rfl)⟩, by simp only [Assume.holds]; exact ⟨by simp, by simp, fun _ => Modest.zero, by simp, by simp⟩⟩) ?_
  intro W base args ds gs before hval0 hW hcnd _ hL _
  have htb := tab_laid hL
  have hval : ∀ (j : Nat) t v, Tryd.f3.params[j]? = some t → args[j]? = some v → Value.okWide Tryd.prog W .any base t v := hval0
  have hW' := hW
  obtain ⟨p, q, hA0, hV, rfl, hfz, hnd⟩ := hW
  have hA : DataW.TrodAll enc Tryd.prog W 0 (fun _ => true) true Tryd.f3.params.toList args.toList ds p := hA0
  rw [Tryd.params3] at hA hval
  obtain ⟨v0, vs0, e0, es0, p0, q0, hargs, rfl, rfl, h0, r0⟩ := trodAll_cons hA
  obtain ⟨rfl, rfl, rfl⟩ := trodAll_nil r0
  obtain rfl : args = #[v0] := by cases args; simp_all
  have hV0 := hV
  obtain ⟨gv, tv, cv, fv, dv, pv, rfl, hgv, htv, hvv, hdv, rfl⟩ := trodVars_one hV
  have k0 := h0
  have lt0 : ∀ x ∈ p0, x.block < W.heap.size := by obtain ⟨m, hm⟩ := k0; exact DataW.trod_lt m _ _ _ hm
  obtain ⟨x0, len0, cap0, rfl⟩ := okWide_slice Tryd.underlying22 (hval 0 22 v0 rfl rfl)
  obtain ⟨n0, E0, w0, b0⟩ := (by obtain ⟨fuel, hf⟩ := h0; exact cell_toks hf : ∃ (n : Nat) (E : Nat → Spn), TsI W (.slice x0 len0 cap0) n E ∧ n ≤ 9223372036854775807)
  clear hA0 hval0
  refine (walk _ n0 E0 W htb w0 b0).mono fun e W' ⟨he, bel⟩ => ?_
  subst he
  exact ⟨_, rfl, _, _, _, [], _, _, hW', trodAll_mk1 (shut_bool Tryd.underlying4 _), (trodAll_cons_mk (Below.trod laidOut (by kernel_rfl) (of_decide_eq_true (by kernel_rfl)) k0 bel lt0) trodAll_mk0), Below.trodVars laidOut bel (by kernel_rfl) hV0, bel.frame _, fun h => by cases h⟩

theorem over : Rows.fnExactParseRow.holds Tryd.pinned (OpenSpec.ofChange Rows.fnExactParseSpec) :=
  OpenClaim.holds_of_wide 3 Tryd.f3 rfl rfl rfl rfl rfl rfl rfl ⟨rfl, rfl, rfl, rfl, rfl⟩ rfl rfl rfl rfl rfl (by kernel_rfl) Tryd.func3 (by kernel_rfl)
    (of_decide_eq_true (by kernel_rfl)) (by unfold Func.isWrapper; first | (rw [if_pos (by decide +kernel)]; kernel_rfl) | (rw [if_neg (by decide +kernel)]; exact ⟨rfl, rfl⟩))
    (fun os started H enc _ => lifted os started H enc)

/-- The tied card. -/
theorem proved : Rows.FnExactParseCardSaid :=
  Claim7.holds_tied_plain_at .later [] [.sentinel] true (true, "ba52a35fda4d0298d403bde8cb89450381edba48c3b4b74344ba820a2ad892cb") false
    over (fun _ h => by cases h) (by kernel_rfl) (fun _ h => by cases h) fnExactParse_row_tie rfl ⟨rfl, rfl⟩ (by kernel_rfl) rfl
    (fun f fn hf hfn => by
      obtain rfl : f = 3 := Option.some.inj ((show Tryd.prog.funcNamed "loop.example/g00182/laws.FnExactParse" = some 3 by kernel_rfl).symm.trans hf) |>.symm
      obtain rfl : fn = Tryd.f3 := (Option.some.inj (Tryd.func3.symm.trans hfn)).symm
      exact ⟨by kernel_rfl, fun j t ht => by
        rw [Tryd.params3] at ht
        have hm : t ∈ [22] := List.mem_of_getElem? (by simpa using ht)
        simp only [List.mem_cons, List.not_mem_nil, or_false] at hm
        have hz : ∀ x ∈ [22], Tryd.prog.wantsStandIn x = false := by
          intro x hx
          simp only [List.mem_cons, List.not_mem_nil, or_false] at hx
          first
            | (subst hx; kernel_rfl)
            | (rcases hx with rfl | rfl <;> kernel_rfl)
            | (rcases hx with rfl | rfl | rfl <;> kernel_rfl)
        exact hz t (by simpa using hm)⟩)
    (by kernel_rfl)
end Go.Proofs.YtnebjnglcfebeaaDoor.fnExactParse
namespace Go.Proofs.YtnebjnglcfebeaaDoor
theorem fnExactParse_holds : Rows.FnExactParseCardSaid := fnExactParse.proved
#print axioms fnExactParse_holds
end Go.Proofs.YtnebjnglcfebeaaDoor
