/-
  Proved: whatever code it is given, the law FnTwice returns true: an array that is put into the drawn heap and dropped again leaves the arrays and the words in use that it had.
-/
import Derived.Test.YtmmjidhpmbcoiaaRows
import Derived.WalkKit
import Derived.ProofKit
import Derived.OpenShut
import Derived.ShutString
import Derived.ChangeOld
import Derived.Below
import Derived.Test.YtmmjidhpmbcoiaaZ3
import Derived.Test.YtmmjidhpmbcoiaaLaw3
namespace Go.Proofs.Ytmmjidhpmbcoiaa.fnTwice
open Go.ChangeShapes Go.WideShapes Go.ChangeAt Go.RowKit
open Go.ChangeMaps (open_string shut_string)
set_option linter.unusedVariables false
set_option linter.unusedSimpArgs false
set_option linter.unusedVariables false

theorem own : ownKnob Try.prog.godebug = none := by kernel_rfl
theorem laidOut : laidOutB Try.prog = true := by kernel_rfl

/-! ### STEP 1: THE WALK: the Go text returns true, AND WRITES NOTHING THAT WAS THERE: 'Below w.heap.size w w'' (Derived/Below.lean: '.refl', '.alloc', '.drew', '.setCell' at a new block, '.trans'). Open each 'IsRow' by 'rcases' AHEAD of 'go_enter'; part every test ahead of the walk. -/
set_option maxRecDepth 20000 in
set_option maxHeartbeats 8000000 in
theorem walk (a0 : Option Addr) (len0 cap0 : Nat) (z0 : List Int) (w : World) (w0 : IsRow .u8 w a0 len0 cap0 z0) :
    Calls Try.prog 4 #[.slice a0 len0 cap0] w fun e w' => e = .returned (.bool true) ∧ Below w.heap.size w w' := by
  have HS : Hid (Src w.heap.size w a0 len0) := src_of_row w0
  clear w0
  by_cases hbig : (1048576 : Int) < (len0 : Int)
  · go_enter Try.func4, Try.ntmps4
    go_wp2_with (go_at_call 9; refine (big_laws _ _ _ _).mono ?_; rintro e w' ⟨rfl, hw⟩; subst w')
    go_ret
    exact ⟨rfl, Below.refl _ _⟩
  have hb20 : len0 ≤ 1048576 := by omega
  go_enter Try.func4, Try.ntmps4
  go_wp2_with (go_at_call 9; refine (big_laws _ _ _ _).mono ?_; rintro e w' ⟨rfl, hw⟩; subst w')
  refine (drawPut_spec HS.out hb20).mono ?_
  rintro r w1 ⟨vH, vA, W, t, n, E, s, d, rfl, hG, hV, hA, hsl, hdl, hb⟩
  obtain ⟨aH, bH, cH, dH, rfl⟩ := hG.form
  obtain ⟨aA, bA, cA, dA, rfl⟩ := hA.form
  have HT_1 : Hid (Below w.heap.size w w1) := hb
  have GH_1 : Hid (HI w1 (.agg #[.slice aH W.length bH, .int .i64 t, .slice cH n dH]) W t n E) := hG
  have GA_1 : Hid (ArrI w1 (.agg #[.slice aA s.length bA, .slice cA d.length dA]) s d) := hA
  have HV : Hid (HpV W t n E) := hV
  have HD : Hid (d.length ≤ 301) := hdl
  clear hb hG hA hV hsl hdl HS hbig hb20
  by_cases hB : outB W t n E s d = true
  · skip
    have FT := twice_facts HV.out hB
    have PF := put_facts HV.out hB
    obtain ⟨OI, hOI⟩ : ∃ y, y = outI W t n E s d := ⟨_, rfl⟩
    obtain ⟨OW, hOW⟩ : ∃ y, y = outW W t n E s d := ⟨_, rfl⟩
    obtain ⟨OT, hOT⟩ : ∃ y, y = outT W t n E s d := ⟨_, rfl⟩
    obtain ⟨ON, hON⟩ : ∃ y, y = outN W t n E s d := ⟨_, rfl⟩
    obtain ⟨OE, hOE⟩ : ∃ y, y = outE W t n E s d := ⟨_, rfl⟩
    have CP : Hid (∀ (V : World) (v u : Value), HI V v W t n E → ArrI V u s d → Calls Try.prog 14 #[v, u] V fun e w' => ∃ v', e = .returned (.tuple #[v', .int .i64 OI, .bool true]) ∧ HI w' v' OW OT ON OE ∧ Below V.heap.size V w') := fun V v u h k => by
      have q := hputI HV.out h k HD.out
      rw [hB, ← hOI, ← hOW, ← hOT, ← hON, ← hOE] at q
      exact q
    have CS : Hid (∀ (V : World) (v u : Value), HI V v W t n E → ArrI V u s d → Calls Try.prog 18 #[v, u] V fun e w' => ∃ v', e = .returned (.tuple #[v', .int .i64 OI, .bool true]) ∧ HI w' v' OW OT ON OE ∧ Below V.heap.size V w') := fun V v u h k => by
      have q := hputS HV.out h k HD.out
      rw [hB, ← hOI, ← hOW, ← hOT, ← hON, ← hOE] at q
      exact q
    rw [← hOI, ← hOW, ← hOT, ← hON, ← hOE] at FT PF
    obtain ⟨DE, hDE⟩ : ∃ y, y = dropE ON OE OI := ⟨_, rfl⟩
    rw [← hDE] at FT
    obtain ⟨FD, FU, FG⟩ := FT
    obtain ⟨OKH, FO, FL, _⟩ := PF
    obtain ⟨UU, hUU⟩ : ∃ y, y = usedH W.length t n E := ⟨_, rfl⟩
    have CD : Hid (∀ (V : World) (v : Value), HI V v OW OT ON OE → Calls Try.prog 19 #[v, .int .i64 OI] V fun e w' => ∃ v', e = .returned (.tuple #[v', .bool true]) ∧ HI w' v' OW OT ON DE ∧ Below V.heap.size V w') := fun V v h => by
      have q := hdropI FO.v h OI
      rw [hOkB_true FO.1, FL, show drpW OW OT ON OE = OW from if_pos (hOkB_true FO.1), show drpT OW OT ON OE = OT from if_pos (hOkB_true FO.1), show drpN OW OT ON OE = ON from if_pos (hOkB_true FO.1), ← hDE] at q
      exact q
    have CU : Hid (∀ (V : World) (v : Value), HI V v W t n E → Calls Try.prog 15 #[v] V fun e w' => e = .returned (.int .i64 UU) ∧ Below V.heap.size V w') := fun V v h => by
      have q := husedI HV.out h
      rw [← hUU] at q
      exact q
    have CV : Hid (∀ (V : World) (v : Value), HI V v OW OT ON DE → Calls Try.prog 15 #[v] V fun e w' => e = .returned (.int .i64 UU) ∧ Below V.heap.size V w') := fun V v h => by
      have q := husedI FD.v h
      rw [used_ok FD.1, FU, ← used_ok OKH, ← hUU] at q
      exact q
    have CK : Hid (∀ (V : World) (v : Value), HI V v OW OT ON DE → Calls Try.prog 16 #[v] V fun e w' => e = .returned (.bool true) ∧ Below V.heap.size V w') := fun V v h => by
      have q := hokI FD.v h
      rw [hOkB_true FD.1] at q
      exact q
    have CG : Hid (∀ k : Nat, k < n → ∃ (gb : Bool) (gs gd : List Int), (gs.length ≤ 1048576 ∧ gd.length ≤ 1048576) ∧
        (∀ (V : World) (v : Value), HI V v W t n E → Calls Try.prog 20 #[v, .int .i64 (k : Int)] V fun e w' => ∃ v', e = .returned (.tuple #[v', .bool gb]) ∧ ArrI w' v' gs gd ∧ Below V.heap.size V w') ∧
        (∀ (V : World) (v : Value), HI V v OW OT ON DE → Calls Try.prog 21 #[v, .int .i64 (k : Int)] V fun e w' => ∃ v', e = .returned (.tuple #[v', .bool gb]) ∧ ArrI w' v' gs gd ∧ Below V.heap.size V w')) := fun k hk => by
      refine ⟨gB W t n E k, gS W t n E k, gD W t n E k, gs_len _ _ _ _ _ HV.out.2.1, fun V v h => hgetS HV.out h k, fun V v h => ?_⟩
      have q := hgetI FD.v h k
      obtain ⟨e1, e2, e3⟩ := get_eq (FG k hk)
      rw [e1, e2, e3] at q
      exact q
    have NB : Hid (n ≤ 201) := HV.out.2.2
    clear hOI hOW hOT hON hOE hDE FD FU FG OKH FO FL hUU hB
    go_wp2_with fail
    have hb : Below w1.heap.size w1 ((w1.alloc (.cells #[.slice aH W.length bH, .int .i64 t, .slice cH n dH] 28)).alloc (.cells #[.slice aA s.length bA, .slice cA d.length dA] 32)) := bAlloc (bAlloc (Below.refl _ _) _) _
    have hbx : Box3 ((w1.alloc (.cells #[.slice aH W.length bH, .int .i64 t, .slice cH n dH] 28)).alloc (.cells #[.slice aA s.length bA, .slice cA d.length dA] 32)) w1.heap.size (.slice aH W.length bH) (.int .i64 t) (.slice cH n dH) 28 := (box3_new _ _ _ _ _).alloc _
    have hby : Box ((w1.alloc (.cells #[.slice aH W.length bH, .int .i64 t, .slice cH n dH] 28)).alloc (.cells #[.slice aA s.length bA, .slice cA d.length dA] 32)) (w1.heap.size + 1) (.slice aA s.length bA) (.slice cA d.length dA) 32 := by
      have := box_new (w1.alloc (.cells #[.slice aH W.length bH, .int .i64 t, .slice cH n dH] 28)) (.slice aA s.length bA) (.slice cA d.length dA) 32
      simpa using this
    generalize (w1.alloc (.cells #[.slice aH W.length bH, .int .i64 t, .slice cH n dH] 28)).alloc (.cells #[.slice aA s.length bA, .slice cA d.length dA] 32) = w2 at *
    have HT_2 : Hid (Below w.heap.size w w2) := bTrans HT_1.out hb
    have GH_2 : Hid (HI w2 (.agg #[.slice aH W.length bH, .int .i64 t, .slice cH n dH]) W t n E) := GH_1.out.keep hb
    have GA_2 : Hid (ArrI w2 (.agg #[.slice aA s.length bA, .slice cA d.length dA]) s d) := GA_1.out.keep hb
    have QH_2 : Hid (Box3 w2 w1.heap.size (.slice aH W.length bH) (.int .i64 t) (.slice cH n dH) 28) := hbx
    have QA_2 : Hid (Box w2 (w1.heap.size + 1) (.slice aA s.length bA) (.slice cA d.length dA) 32) := hby
    clear hb hbx hby HT_1 GH_1 GA_1
    refine (CP.out _ _ _ GH_2.out GA_2.out).mono ?_
    rintro r w3 ⟨vP, rfl, hO, hb⟩
    obtain ⟨aP, bP, cP, dP, rfl⟩ := hO.form
    have HT_3 : Hid (Below w.heap.size w w3) := bTrans HT_2.out hb
    have GH_3 : Hid (HI w3 (.agg #[.slice aH W.length bH, .int .i64 t, .slice cH n dH]) W t n E) := GH_2.out.keep hb
    have GA_3 : Hid (ArrI w3 (.agg #[.slice aA s.length bA, .slice cA d.length dA]) s d) := GA_2.out.keep hb
    have QH_3 : Hid (Box3 w3 w1.heap.size (.slice aH W.length bH) (.int .i64 t) (.slice cH n dH) 28) := QH_2.out.keep hb
    have QA_3 : Hid (Box w3 (w1.heap.size + 1) (.slice aA s.length bA) (.slice cA d.length dA) 32) := QA_2.out.keep hb
    have GP_3 : Hid (HI w3 (.agg #[.slice aP OW.length bP, .int .i64 OT, .slice cP ON dP]) OW OT ON OE) := hO
    clear hb hO HT_2 GH_2 GA_2 QH_2 QA_2
    have pQH0 := QH_3.out.c0
    have dQH0 : ∀ ob : Obj, (w3.alloc ob).cell? ⟨w1.heap.size, 0, none⟩ = some (.slice aH W.length bH) := fun ob => (QH_3.out.keep (bAlloc (Below.refl _ _) ob)).c0
    have pQH1 := QH_3.out.c1
    have dQH1 : ∀ ob : Obj, (w3.alloc ob).cell? ⟨w1.heap.size, 1, none⟩ = some (.int .i64 t) := fun ob => (QH_3.out.keep (bAlloc (Below.refl _ _) ob)).c1
    have pQH2 := QH_3.out.c2
    have dQH2 : ∀ ob : Obj, (w3.alloc ob).cell? ⟨w1.heap.size, 2, none⟩ = some (.slice cH n dH) := fun ob => (QH_3.out.keep (bAlloc (Below.refl _ _) ob)).c2
    have pQA0 := QA_3.out.c0
    have dQA0 : ∀ ob : Obj, (w3.alloc ob).cell? ⟨w1.heap.size + 1, 0, none⟩ = some (.slice aA s.length bA) := fun ob => (QA_3.out.keep (bAlloc (Below.refl _ _) ob)).c0
    have pQA1 := QA_3.out.c1
    have dQA1 : ∀ ob : Obj, (w3.alloc ob).cell? ⟨w1.heap.size + 1, 1, none⟩ = some (.slice cA d.length dA) := fun ob => (QA_3.out.keep (bAlloc (Below.refl _ _) ob)).c1
    go_wp2_with fail
    clear pQH0 dQH0 pQH1 dQH1 pQH2 dQH2 pQA0 dQA0 pQA1 dQA1
    have hb : Below w3.heap.size w3 (w3.alloc (.cells #[.slice aP OW.length bP, .int .i64 OT, .slice cP ON dP] 28)) := bAlloc (Below.refl _ _) _
    have hbx : Box3 (w3.alloc (.cells #[.slice aP OW.length bP, .int .i64 OT, .slice cP ON dP] 28)) w3.heap.size (.slice aP OW.length bP) (.int .i64 OT) (.slice cP ON dP) 28 := heap_alloc_new _ _
    generalize w3.alloc (.cells #[.slice aP OW.length bP, .int .i64 OT, .slice cP ON dP] 28) = w4 at *
    have HT_4 : Hid (Below w.heap.size w w4) := bTrans HT_3.out hb
    have GH_4 : Hid (HI w4 (.agg #[.slice aH W.length bH, .int .i64 t, .slice cH n dH]) W t n E) := GH_3.out.keep hb
    have GA_4 : Hid (ArrI w4 (.agg #[.slice aA s.length bA, .slice cA d.length dA]) s d) := GA_3.out.keep hb
    have QH_4 : Hid (Box3 w4 w1.heap.size (.slice aH W.length bH) (.int .i64 t) (.slice cH n dH) 28) := QH_3.out.keep hb
    have QA_4 : Hid (Box w4 (w1.heap.size + 1) (.slice aA s.length bA) (.slice cA d.length dA) 32) := QA_3.out.keep hb
    have GP_4 : Hid (HI w4 (.agg #[.slice aP OW.length bP, .int .i64 OT, .slice cP ON dP]) OW OT ON OE) := GP_3.out.keep hb
    have QP_4 : Hid (Box3 w4 w3.heap.size (.slice aP OW.length bP) (.int .i64 OT) (.slice cP ON dP) 28) := hbx
    clear hb hbx HT_3 GH_3 GA_3 QH_3 QA_3 GP_3
    refine (CS.out _ _ _ GH_4.out GA_4.out).mono ?_
    rintro r w5 ⟨vS, rfl, hO, hb⟩
    obtain ⟨aS, bS, cS, dS, rfl⟩ := hO.form
    have HT_5 : Hid (Below w.heap.size w w5) := bTrans HT_4.out hb
    have GH_5 : Hid (HI w5 (.agg #[.slice aH W.length bH, .int .i64 t, .slice cH n dH]) W t n E) := GH_4.out.keep hb
    have GA_5 : Hid (ArrI w5 (.agg #[.slice aA s.length bA, .slice cA d.length dA]) s d) := GA_4.out.keep hb
    have QH_5 : Hid (Box3 w5 w1.heap.size (.slice aH W.length bH) (.int .i64 t) (.slice cH n dH) 28) := QH_4.out.keep hb
    have QA_5 : Hid (Box w5 (w1.heap.size + 1) (.slice aA s.length bA) (.slice cA d.length dA) 32) := QA_4.out.keep hb
    have GP_5 : Hid (HI w5 (.agg #[.slice aP OW.length bP, .int .i64 OT, .slice cP ON dP]) OW OT ON OE) := GP_4.out.keep hb
    have QP_5 : Hid (Box3 w5 w3.heap.size (.slice aP OW.length bP) (.int .i64 OT) (.slice cP ON dP) 28) := QP_4.out.keep hb
    clear hb hO HT_4 GH_4 GA_4 QH_4 QA_4 GP_4 QP_4
    have pQH0 := QH_5.out.c0
    have dQH0 : ∀ ob : Obj, (w5.alloc ob).cell? ⟨w1.heap.size, 0, none⟩ = some (.slice aH W.length bH) := fun ob => (QH_5.out.keep (bAlloc (Below.refl _ _) ob)).c0
    have pQH1 := QH_5.out.c1
    have dQH1 : ∀ ob : Obj, (w5.alloc ob).cell? ⟨w1.heap.size, 1, none⟩ = some (.int .i64 t) := fun ob => (QH_5.out.keep (bAlloc (Below.refl _ _) ob)).c1
    have pQH2 := QH_5.out.c2
    have dQH2 : ∀ ob : Obj, (w5.alloc ob).cell? ⟨w1.heap.size, 2, none⟩ = some (.slice cH n dH) := fun ob => (QH_5.out.keep (bAlloc (Below.refl _ _) ob)).c2
    have pQA0 := QA_5.out.c0
    have dQA0 : ∀ ob : Obj, (w5.alloc ob).cell? ⟨w1.heap.size + 1, 0, none⟩ = some (.slice aA s.length bA) := fun ob => (QA_5.out.keep (bAlloc (Below.refl _ _) ob)).c0
    have pQA1 := QA_5.out.c1
    have dQA1 : ∀ ob : Obj, (w5.alloc ob).cell? ⟨w1.heap.size + 1, 1, none⟩ = some (.slice cA d.length dA) := fun ob => (QA_5.out.keep (bAlloc (Below.refl _ _) ob)).c1
    have pQP0 := QP_5.out.c0
    have dQP0 : ∀ ob : Obj, (w5.alloc ob).cell? ⟨w3.heap.size, 0, none⟩ = some (.slice aP OW.length bP) := fun ob => (QP_5.out.keep (bAlloc (Below.refl _ _) ob)).c0
    have pQP1 := QP_5.out.c1
    have dQP1 : ∀ ob : Obj, (w5.alloc ob).cell? ⟨w3.heap.size, 1, none⟩ = some (.int .i64 OT) := fun ob => (QP_5.out.keep (bAlloc (Below.refl _ _) ob)).c1
    have pQP2 := QP_5.out.c2
    have dQP2 : ∀ ob : Obj, (w5.alloc ob).cell? ⟨w3.heap.size, 2, none⟩ = some (.slice cP ON dP) := fun ob => (QP_5.out.keep (bAlloc (Below.refl _ _) ob)).c2
    go_wp2_with fail
    clear pQH0 dQH0 pQH1 dQH1 pQH2 dQH2 pQA0 dQA0 pQA1 dQA1 pQP0 dQP0 pQP1 dQP1 pQP2 dQP2
    have hb : Below w5.heap.size w5 (w5.alloc (.cells #[.slice aS OW.length bS, .int .i64 OT, .slice cS ON dS] 28)) := bAlloc (Below.refl _ _) _
    generalize w5.alloc (.cells #[.slice aS OW.length bS, .int .i64 OT, .slice cS ON dS] 28) = w6 at *
    have HT_6 : Hid (Below w.heap.size w w6) := bTrans HT_5.out hb
    have GH_6 : Hid (HI w6 (.agg #[.slice aH W.length bH, .int .i64 t, .slice cH n dH]) W t n E) := GH_5.out.keep hb
    have GA_6 : Hid (ArrI w6 (.agg #[.slice aA s.length bA, .slice cA d.length dA]) s d) := GA_5.out.keep hb
    have QH_6 : Hid (Box3 w6 w1.heap.size (.slice aH W.length bH) (.int .i64 t) (.slice cH n dH) 28) := QH_5.out.keep hb
    have QA_6 : Hid (Box w6 (w1.heap.size + 1) (.slice aA s.length bA) (.slice cA d.length dA) 32) := QA_5.out.keep hb
    have GP_6 : Hid (HI w6 (.agg #[.slice aP OW.length bP, .int .i64 OT, .slice cP ON dP]) OW OT ON OE) := GP_5.out.keep hb
    have QP_6 : Hid (Box3 w6 w3.heap.size (.slice aP OW.length bP) (.int .i64 OT) (.slice cP ON dP) 28) := QP_5.out.keep hb
    clear hb  HT_5 GH_5 GA_5 QH_5 QA_5 GP_5 QP_5
    refine (CD.out _ _ GP_6.out).mono ?_
    rintro r w7 ⟨vD, rfl, hO, hb⟩
    obtain ⟨aD, bD, cD, dD, rfl⟩ := hO.form
    have HT_7 : Hid (Below w.heap.size w w7) := bTrans HT_6.out hb
    have GH_7 : Hid (HI w7 (.agg #[.slice aH W.length bH, .int .i64 t, .slice cH n dH]) W t n E) := GH_6.out.keep hb
    have GA_7 : Hid (ArrI w7 (.agg #[.slice aA s.length bA, .slice cA d.length dA]) s d) := GA_6.out.keep hb
    have QH_7 : Hid (Box3 w7 w1.heap.size (.slice aH W.length bH) (.int .i64 t) (.slice cH n dH) 28) := QH_6.out.keep hb
    have QA_7 : Hid (Box w7 (w1.heap.size + 1) (.slice aA s.length bA) (.slice cA d.length dA) 32) := QA_6.out.keep hb
    have GP_7 : Hid (HI w7 (.agg #[.slice aP OW.length bP, .int .i64 OT, .slice cP ON dP]) OW OT ON OE) := GP_6.out.keep hb
    have QP_7 : Hid (Box3 w7 w3.heap.size (.slice aP OW.length bP) (.int .i64 OT) (.slice cP ON dP) 28) := QP_6.out.keep hb
    have GD_7 : Hid (HI w7 (.agg #[.slice aD OW.length bD, .int .i64 OT, .slice cD ON dD]) OW OT ON DE) := hO
    clear hb hO HT_6 GH_6 GA_6 QH_6 QA_6 GP_6 QP_6
    have pQH0 := QH_7.out.c0
    have dQH0 : ∀ ob : Obj, (w7.alloc ob).cell? ⟨w1.heap.size, 0, none⟩ = some (.slice aH W.length bH) := fun ob => (QH_7.out.keep (bAlloc (Below.refl _ _) ob)).c0
    have pQH1 := QH_7.out.c1
    have dQH1 : ∀ ob : Obj, (w7.alloc ob).cell? ⟨w1.heap.size, 1, none⟩ = some (.int .i64 t) := fun ob => (QH_7.out.keep (bAlloc (Below.refl _ _) ob)).c1
    have pQH2 := QH_7.out.c2
    have dQH2 : ∀ ob : Obj, (w7.alloc ob).cell? ⟨w1.heap.size, 2, none⟩ = some (.slice cH n dH) := fun ob => (QH_7.out.keep (bAlloc (Below.refl _ _) ob)).c2
    go_wp2_with fail
    clear pQH0 dQH0 pQH1 dQH1 pQH2 dQH2
    have hb : Below w7.heap.size w7 (w7.alloc (.cells #[.slice aD OW.length bD, .int .i64 OT, .slice cD ON dD] 28)) := bAlloc (Below.refl _ _) _
    have hbx : Box3 (w7.alloc (.cells #[.slice aD OW.length bD, .int .i64 OT, .slice cD ON dD] 28)) w7.heap.size (.slice aD OW.length bD) (.int .i64 OT) (.slice cD ON dD) 28 := heap_alloc_new _ _
    generalize w7.alloc (.cells #[.slice aD OW.length bD, .int .i64 OT, .slice cD ON dD] 28) = w8 at *
    have HT_8 : Hid (Below w.heap.size w w8) := bTrans HT_7.out hb
    have GH_8 : Hid (HI w8 (.agg #[.slice aH W.length bH, .int .i64 t, .slice cH n dH]) W t n E) := GH_7.out.keep hb
    have GA_8 : Hid (ArrI w8 (.agg #[.slice aA s.length bA, .slice cA d.length dA]) s d) := GA_7.out.keep hb
    have QH_8 : Hid (Box3 w8 w1.heap.size (.slice aH W.length bH) (.int .i64 t) (.slice cH n dH) 28) := QH_7.out.keep hb
    have QA_8 : Hid (Box w8 (w1.heap.size + 1) (.slice aA s.length bA) (.slice cA d.length dA) 32) := QA_7.out.keep hb
    have GP_8 : Hid (HI w8 (.agg #[.slice aP OW.length bP, .int .i64 OT, .slice cP ON dP]) OW OT ON OE) := GP_7.out.keep hb
    have QP_8 : Hid (Box3 w8 w3.heap.size (.slice aP OW.length bP) (.int .i64 OT) (.slice cP ON dP) 28) := QP_7.out.keep hb
    have GD_8 : Hid (HI w8 (.agg #[.slice aD OW.length bD, .int .i64 OT, .slice cD ON dD]) OW OT ON DE) := GD_7.out.keep hb
    have QD_8 : Hid (Box3 w8 w7.heap.size (.slice aD OW.length bD) (.int .i64 OT) (.slice cD ON dD) 28) := hbx
    clear hb hbx HT_7 GH_7 GA_7 QH_7 QA_7 GP_7 QP_7 GD_7
    have pQH0 := QH_8.out.c0
    have pQH1 := QH_8.out.c1
    have pQH2 := QH_8.out.c2
    have pQD0 := QD_8.out.c0
    have pQD1 := QD_8.out.c1
    have pQD2 := QD_8.out.c2
    have KB : Hid (∀ V, Below w8.heap.size w8 V → HI V (.agg #[.slice aH W.length bH, .int .i64 t, .slice cH n dH]) W t n E ∧ HI V (.agg #[.slice aD OW.length bD, .int .i64 OT, .slice cD ON dD]) OW OT ON DE ∧ (V.cell? ⟨w1.heap.size, 0, none⟩ = some (.slice aH W.length bH) ∧ V.cell? ⟨w1.heap.size, 1, none⟩ = some (.int .i64 t) ∧ V.cell? ⟨w1.heap.size, 2, none⟩ = some (.slice cH n dH) ∧ V.cell? ⟨w7.heap.size, 0, none⟩ = some (.slice aD OW.length bD) ∧ V.cell? ⟨w7.heap.size, 1, none⟩ = some (.int .i64 OT) ∧ V.cell? ⟨w7.heap.size, 2, none⟩ = some (.slice cD ON dD))) := fun V hb => ⟨GH_8.out.keep hb, GD_8.out.keep hb, (QH_8.out.keep hb).c0, (QH_8.out.keep hb).c1, (QH_8.out.keep hb).c2, (QD_8.out.keep hb).c0, (QD_8.out.keep hb).c1, (QD_8.out.keep hb).c2⟩
    go_region_held3 (fun w' => w'.cell? ⟨w1.heap.size, 0, none⟩ = some (.slice aH W.length bH) ∧ w'.cell? ⟨w1.heap.size, 1, none⟩ = some (.int .i64 t) ∧ w'.cell? ⟨w1.heap.size, 2, none⟩ = some (.slice cH n dH) ∧ w'.cell? ⟨w7.heap.size, 0, none⟩ = some (.slice aD OW.length bD) ∧ w'.cell? ⟨w7.heap.size, 1, none⟩ = some (.int .i64 OT) ∧ w'.cell? ⟨w7.heap.size, 2, none⟩ = some (.slice cD ON dD))
      (first | (refine (KB.out _ ?_).2.2; (repeat first | with_reducible exact Below.refl _ _ | with_reducible exact B3.out | with_reducible exact B2.out | with_reducible exact B1.out | with_reducible refine bAlloc ?_ _ | with_reducible refine Below.drew ?_); done) | go_keep)
      (first
        | (go_at_call_of 15 (Value.slice aD OW.length bD); refine (CV.out _ _ (KB.out _ (by repeat first | with_reducible exact Below.refl _ _ | with_reducible refine bAlloc ?_ _ | with_reducible refine Below.drew ?_)).2.1).mono ?_; rintro r x1 ⟨rfl, hb1⟩; have B1 : Hid (Below w8.heap.size w8 x1) := bTrans (show Below w8.heap.size w8 _ from (by repeat first | with_reducible exact Below.refl _ _ | with_reducible refine bAlloc ?_ _ | with_reducible refine Below.drew ?_)) hb1; clear hb1)
        | (go_at_call_of 15 (Value.slice aH W.length bH); refine (CU.out _ _ (KB.out _ (by repeat first | with_reducible exact Below.refl _ _ | with_reducible exact B1.out | with_reducible refine bAlloc ?_ _ | with_reducible refine Below.drew ?_)).1).mono ?_; rintro r x2 ⟨rfl, hb2⟩; have B2 : Hid (Below w8.heap.size w8 x2) := bTrans (show Below w8.heap.size w8 _ from (by repeat first | with_reducible exact Below.refl _ _ | with_reducible exact B1.out | with_reducible refine bAlloc ?_ _ | with_reducible refine Below.drew ?_)) hb2; clear hb2)
        | (go_at_call 16; refine (CK.out _ _ (KB.out _ (by repeat first | with_reducible exact Below.refl _ _ | with_reducible exact B2.out | with_reducible refine bAlloc ?_ _ | with_reducible refine Below.drew ?_)).2.1).mono ?_; rintro r x3 ⟨rfl, hb3⟩; have B3 : Hid (Below w8.heap.size w8 x3) := bTrans (show Below w8.heap.size w8 _ from (by repeat first | with_reducible exact Below.refl _ _ | with_reducible exact B2.out | with_reducible refine bAlloc ?_ _ | with_reducible refine Below.drew ?_)) hb3; clear hb3))
    all_goals
      clear pQH0 pQH1 pQH2 pQD0 pQD1 pQD2
      have BX : Hid (Below w8.heap.size w8 x3) := B3.out
      clear B1 B2 B3
      go_wp2_with fail
      go_loopw [13] (fun i w' => ∃ k : Nat, k ≤ n ∧ i = .int .i64 (k : Int) ∧ Below w8.heap.size w8 w') (fun i _ => n - (intOf i).toNat)
      case atStart => exact ⟨0, by omega, rfl, BX.out⟩
      case round =>
        obtain ⟨k, hk, rfl, hr⟩ := hrel
        have BR : Hid (Below w8.heap.size w8 wr) := hr
        have ph0 := (KB.out wr hr).2.2.1
        have ph1 := (KB.out wr hr).2.2.2.1
        have ph2 := (KB.out wr hr).2.2.2.2.1
        clear hr BX
        have hnb := NB.out
        by_cases hlt : (k : Int) < (n : Int)
        · obtain ⟨gb, gs, gd, hle, cs, ci⟩ := CG.out k (by omega)
          have CGS : Hid (∀ (V : World) (v : Value), HI V v W t n E → Calls Try.prog 20 #[v, .int .i64 (k : Int)] V fun e w' => ∃ v', e = .returned (.tuple #[v', .bool gb]) ∧ ArrI w' v' gs gd ∧ Below V.heap.size V w') := cs
          have CGI : Hid (∀ (V : World) (v : Value), HI V v OW OT ON DE → Calls Try.prog 21 #[v, .int .i64 (k : Int)] V fun e w' => ∃ v', e = .returned (.tuple #[v', .bool gb]) ∧ ArrI w' v' gs gd ∧ Below V.heap.size V w') := ci
          have LE : Hid (gs.length ≤ 1048576 ∧ gd.length ≤ 1048576) := hle
          clear hle cs ci
          go_wp2_with fail
          refine (CGS.out _ _ (KB.out _ BR.out).1).mono ?_
          rintro r r1 ⟨vX, rfl, ha, hb⟩
          obtain ⟨aX, bX, cX, dX, rfl⟩ := ha.form
          have BR1 : Hid (Below w8.heap.size w8 r1) := bTrans BR.out hb
          have AX1 : Hid (ArrI r1 (.agg #[.slice aX gs.length bX, .slice cX gd.length dX]) gs gd) := ha
          clear ha hb ph0 ph1 ph2
          have ph0 := (KB.out _ BR1.out).2.2.2.2.2.1
          have ph1 := (KB.out _ BR1.out).2.2.2.2.2.2.1
          have ph2 := (KB.out _ BR1.out).2.2.2.2.2.2.2
          have pd0 := fun ob => (KB.out _ (bAlloc BR1.out ob)).2.2.2.2.2.1
          have pd1 := fun ob => (KB.out _ (bAlloc BR1.out ob)).2.2.2.2.2.2.1
          have pd2 := fun ob => (KB.out _ (bAlloc BR1.out ob)).2.2.2.2.2.2.2
          go_wp2_with fail
          clear ph0 ph1 ph2 pd0 pd1 pd2
          have hbx : Box (r1.alloc (.cells #[.slice aX gs.length bX, .slice cX gd.length dX] 32)) r1.heap.size (.slice aX gs.length bX) (.slice cX gd.length dX) 32 := heap_alloc_new _ _
          have hb : Below r1.heap.size r1 (r1.alloc (.cells #[.slice aX gs.length bX, .slice cX gd.length dX] 32)) := bAlloc (Below.refl _ _) _
          generalize r1.alloc (.cells #[.slice aX gs.length bX, .slice cX gd.length dX] 32) = r2 at *
          have BR2 : Hid (Below w8.heap.size w8 r2) := bTrans BR1.out hb
          have AX2 : Hid (ArrI r2 (.agg #[.slice aX gs.length bX, .slice cX gd.length dX]) gs gd) := AX1.out.keep hb
          have QX2 : Hid (Box r2 r1.heap.size (.slice aX gs.length bX) (.slice cX gd.length dX) 32) := hbx
          clear hb hbx AX1
          refine (CGI.out _ _ (KB.out _ BR2.out).2.1).mono ?_
          rintro r r3 ⟨vY, rfl, ha, hb⟩
          obtain ⟨aY, bY, cY, dY, rfl⟩ := ha.form
          have BR3 : Hid (Below w8.heap.size w8 r3) := bTrans BR2.out hb
          have AY3 : Hid (ArrI r3 (.agg #[.slice aY gs.length bY, .slice cY gd.length dY]) gs gd) := ha
          have AX3 : Hid (ArrI r3 (.agg #[.slice aX gs.length bX, .slice cX gd.length dX]) gs gd) := AX2.out.keep hb
          have QX3 : Hid (Box r3 r1.heap.size (.slice aX gs.length bX) (.slice cX gd.length dX) 32) := QX2.out.keep hb
          clear ha hb AX2 QX2
          have ph0 := QX3.out.c0
          have ph1 := QX3.out.c1
          have pd0 : ∀ ob : Obj, (r3.alloc ob).cell? ⟨r1.heap.size, 0, none⟩ = some (.slice aX gs.length bX) := fun ob => (QX3.out.keep (bAlloc (Below.refl _ _) ob)).c0
          have pd1 : ∀ ob : Obj, (r3.alloc ob).cell? ⟨r1.heap.size, 1, none⟩ = some (.slice cX gd.length dX) := fun ob => (QX3.out.keep (bAlloc (Below.refl _ _) ob)).c1
          cases gb
          · go_wp2
            go_roundw
            case rel => exact ⟨k + 1, by omega, by go_num, bAlloc BR3.out _⟩
            case measure => simp [intOf]; omega
          · go_wp2_with fail
            clear ph0 ph1 pd0 pd1
            have hb : Below r3.heap.size r3 (r3.alloc (.cells #[.slice aY gs.length bY, .slice cY gd.length dY] 32)) := bAlloc (Below.refl _ _) _
            generalize r3.alloc (.cells #[.slice aY gs.length bY, .slice cY gd.length dY] 32) = r4 at *
            have BR4 : Hid (Below w8.heap.size w8 r4) := bTrans BR3.out hb
            refine (hsame (AX3.out.keep hb) (AY3.out.keep hb) LE.out).mono ?_
            rintro r r5 ⟨rfl, hb5⟩
            have BR5 : Hid (Below w8.heap.size w8 r5) := bTrans BR4.out hb5
            clear hb hb5
            go_wp2
            go_roundw
            case rel => exact ⟨k + 1, by omega, by go_num, BR5.out⟩
            case measure => simp [intOf]; omega
        · go_wp2
          go_ret
          exact ⟨rfl, bTrans HT_8.out BR.out⟩
  · skip
    have hB0 : outB W t n E s d = false := by simpa using hB
    clear hB
    have hB := hB0
    clear hB0
    obtain ⟨OI, hOI⟩ : ∃ y, y = outI W t n E s d := ⟨_, rfl⟩
    obtain ⟨OW, hOW⟩ : ∃ y, y = outW W t n E s d := ⟨_, rfl⟩
    obtain ⟨OT, hOT⟩ : ∃ y, y = outT W t n E s d := ⟨_, rfl⟩
    obtain ⟨ON, hON⟩ : ∃ y, y = outN W t n E s d := ⟨_, rfl⟩
    obtain ⟨OE, hOE⟩ : ∃ y, y = outE W t n E s d := ⟨_, rfl⟩
    have CP : Hid (∀ (V : World) (v u : Value), HI V v W t n E → ArrI V u s d → Calls Try.prog 14 #[v, u] V fun e w' => ∃ v', e = .returned (.tuple #[v', .int .i64 OI, .bool false]) ∧ HI w' v' OW OT ON OE ∧ Below V.heap.size V w') := fun V v u h k => by
      have q := hputI HV.out h k HD.out
      rw [hB, ← hOI, ← hOW, ← hOT, ← hON, ← hOE] at q
      exact q
    have CS : Hid (∀ (V : World) (v u : Value), HI V v W t n E → ArrI V u s d → Calls Try.prog 18 #[v, u] V fun e w' => ∃ v', e = .returned (.tuple #[v', .int .i64 OI, .bool false]) ∧ HI w' v' OW OT ON OE ∧ Below V.heap.size V w') := fun V v u h k => by
      have q := hputS HV.out h k HD.out
      rw [hB, ← hOI, ← hOW, ← hOT, ← hON, ← hOE] at q
      exact q
    clear hOI hOW hOT hON hOE hB
    go_wp2_with fail
    have hb : Below w1.heap.size w1 ((w1.alloc (.cells #[.slice aH W.length bH, .int .i64 t, .slice cH n dH] 28)).alloc (.cells #[.slice aA s.length bA, .slice cA d.length dA] 32)) := bAlloc (bAlloc (Below.refl _ _) _) _
    have hbx : Box3 ((w1.alloc (.cells #[.slice aH W.length bH, .int .i64 t, .slice cH n dH] 28)).alloc (.cells #[.slice aA s.length bA, .slice cA d.length dA] 32)) w1.heap.size (.slice aH W.length bH) (.int .i64 t) (.slice cH n dH) 28 := (box3_new _ _ _ _ _).alloc _
    have hby : Box ((w1.alloc (.cells #[.slice aH W.length bH, .int .i64 t, .slice cH n dH] 28)).alloc (.cells #[.slice aA s.length bA, .slice cA d.length dA] 32)) (w1.heap.size + 1) (.slice aA s.length bA) (.slice cA d.length dA) 32 := by
      have := box_new (w1.alloc (.cells #[.slice aH W.length bH, .int .i64 t, .slice cH n dH] 28)) (.slice aA s.length bA) (.slice cA d.length dA) 32
      simpa using this
    generalize (w1.alloc (.cells #[.slice aH W.length bH, .int .i64 t, .slice cH n dH] 28)).alloc (.cells #[.slice aA s.length bA, .slice cA d.length dA] 32) = w2 at *
    have HT_2 : Hid (Below w.heap.size w w2) := bTrans HT_1.out hb
    have GH_2 : Hid (HI w2 (.agg #[.slice aH W.length bH, .int .i64 t, .slice cH n dH]) W t n E) := GH_1.out.keep hb
    have GA_2 : Hid (ArrI w2 (.agg #[.slice aA s.length bA, .slice cA d.length dA]) s d) := GA_1.out.keep hb
    have QH_2 : Hid (Box3 w2 w1.heap.size (.slice aH W.length bH) (.int .i64 t) (.slice cH n dH) 28) := hbx
    have QA_2 : Hid (Box w2 (w1.heap.size + 1) (.slice aA s.length bA) (.slice cA d.length dA) 32) := hby
    clear hb hbx hby HT_1 GH_1 GA_1
    refine (CP.out _ _ _ GH_2.out GA_2.out).mono ?_
    rintro r w3 ⟨vP, rfl, hO, hb⟩
    obtain ⟨aP, bP, cP, dP, rfl⟩ := hO.form
    have HT_3 : Hid (Below w.heap.size w w3) := bTrans HT_2.out hb
    have GH_3 : Hid (HI w3 (.agg #[.slice aH W.length bH, .int .i64 t, .slice cH n dH]) W t n E) := GH_2.out.keep hb
    have GA_3 : Hid (ArrI w3 (.agg #[.slice aA s.length bA, .slice cA d.length dA]) s d) := GA_2.out.keep hb
    have QH_3 : Hid (Box3 w3 w1.heap.size (.slice aH W.length bH) (.int .i64 t) (.slice cH n dH) 28) := QH_2.out.keep hb
    have QA_3 : Hid (Box w3 (w1.heap.size + 1) (.slice aA s.length bA) (.slice cA d.length dA) 32) := QA_2.out.keep hb
    have GP_3 : Hid (HI w3 (.agg #[.slice aP OW.length bP, .int .i64 OT, .slice cP ON dP]) OW OT ON OE) := hO
    clear hb hO HT_2 GH_2 GA_2 QH_2 QA_2
    have pQH0 := QH_3.out.c0
    have dQH0 : ∀ ob : Obj, (w3.alloc ob).cell? ⟨w1.heap.size, 0, none⟩ = some (.slice aH W.length bH) := fun ob => (QH_3.out.keep (bAlloc (Below.refl _ _) ob)).c0
    have pQH1 := QH_3.out.c1
    have dQH1 : ∀ ob : Obj, (w3.alloc ob).cell? ⟨w1.heap.size, 1, none⟩ = some (.int .i64 t) := fun ob => (QH_3.out.keep (bAlloc (Below.refl _ _) ob)).c1
    have pQH2 := QH_3.out.c2
    have dQH2 : ∀ ob : Obj, (w3.alloc ob).cell? ⟨w1.heap.size, 2, none⟩ = some (.slice cH n dH) := fun ob => (QH_3.out.keep (bAlloc (Below.refl _ _) ob)).c2
    have pQA0 := QA_3.out.c0
    have dQA0 : ∀ ob : Obj, (w3.alloc ob).cell? ⟨w1.heap.size + 1, 0, none⟩ = some (.slice aA s.length bA) := fun ob => (QA_3.out.keep (bAlloc (Below.refl _ _) ob)).c0
    have pQA1 := QA_3.out.c1
    have dQA1 : ∀ ob : Obj, (w3.alloc ob).cell? ⟨w1.heap.size + 1, 1, none⟩ = some (.slice cA d.length dA) := fun ob => (QA_3.out.keep (bAlloc (Below.refl _ _) ob)).c1
    go_wp2_with fail
    clear pQH0 dQH0 pQH1 dQH1 pQH2 dQH2 pQA0 dQA0 pQA1 dQA1
    have hb : Below w3.heap.size w3 (w3.alloc (.cells #[.slice aP OW.length bP, .int .i64 OT, .slice cP ON dP] 28)) := bAlloc (Below.refl _ _) _
    have hbx : Box3 (w3.alloc (.cells #[.slice aP OW.length bP, .int .i64 OT, .slice cP ON dP] 28)) w3.heap.size (.slice aP OW.length bP) (.int .i64 OT) (.slice cP ON dP) 28 := heap_alloc_new _ _
    generalize w3.alloc (.cells #[.slice aP OW.length bP, .int .i64 OT, .slice cP ON dP] 28) = w4 at *
    have HT_4 : Hid (Below w.heap.size w w4) := bTrans HT_3.out hb
    have GH_4 : Hid (HI w4 (.agg #[.slice aH W.length bH, .int .i64 t, .slice cH n dH]) W t n E) := GH_3.out.keep hb
    have GA_4 : Hid (ArrI w4 (.agg #[.slice aA s.length bA, .slice cA d.length dA]) s d) := GA_3.out.keep hb
    have QH_4 : Hid (Box3 w4 w1.heap.size (.slice aH W.length bH) (.int .i64 t) (.slice cH n dH) 28) := QH_3.out.keep hb
    have QA_4 : Hid (Box w4 (w1.heap.size + 1) (.slice aA s.length bA) (.slice cA d.length dA) 32) := QA_3.out.keep hb
    have GP_4 : Hid (HI w4 (.agg #[.slice aP OW.length bP, .int .i64 OT, .slice cP ON dP]) OW OT ON OE) := GP_3.out.keep hb
    have QP_4 : Hid (Box3 w4 w3.heap.size (.slice aP OW.length bP) (.int .i64 OT) (.slice cP ON dP) 28) := hbx
    clear hb hbx HT_3 GH_3 GA_3 QH_3 QA_3 GP_3
    refine (CS.out _ _ _ GH_4.out GA_4.out).mono ?_
    rintro r w5 ⟨vS, rfl, hO, hb⟩
    obtain ⟨aS, bS, cS, dS, rfl⟩ := hO.form
    have HT_5 : Hid (Below w.heap.size w w5) := bTrans HT_4.out hb
    have GH_5 : Hid (HI w5 (.agg #[.slice aH W.length bH, .int .i64 t, .slice cH n dH]) W t n E) := GH_4.out.keep hb
    have GA_5 : Hid (ArrI w5 (.agg #[.slice aA s.length bA, .slice cA d.length dA]) s d) := GA_4.out.keep hb
    have QH_5 : Hid (Box3 w5 w1.heap.size (.slice aH W.length bH) (.int .i64 t) (.slice cH n dH) 28) := QH_4.out.keep hb
    have QA_5 : Hid (Box w5 (w1.heap.size + 1) (.slice aA s.length bA) (.slice cA d.length dA) 32) := QA_4.out.keep hb
    have GP_5 : Hid (HI w5 (.agg #[.slice aP OW.length bP, .int .i64 OT, .slice cP ON dP]) OW OT ON OE) := GP_4.out.keep hb
    have QP_5 : Hid (Box3 w5 w3.heap.size (.slice aP OW.length bP) (.int .i64 OT) (.slice cP ON dP) 28) := QP_4.out.keep hb
    clear hb hO HT_4 GH_4 GA_4 QH_4 QA_4 GP_4 QP_4
    go_wp2
    go_ret
    exact ⟨rfl, bAlloc HT_5.out _⟩

/-! ### THE ROW's STEP: WRITTEN OUT: LEAVE IT -/
set_option maxRecDepth 100000 in
theorem lifted (os : Os) (started : os.Started) (H : Type) (enc : TypeId × Value → H) :
    ReturnsInHanded {} Try.checked os 4 .any (Rows.fnTwiceSpec.pre6 enc Try.prog Try.f4 Rows.fnTwiceRow.domain false) (Rows.fnTwiceSpec.post enc Try.prog Try.f4 false true false false) := by
  refine returnsInHanded_of_change (C := Try.checked) own started (by kernel_rfl) Try.func4
    (ChangeSpec.witness6 (enc := enc) (C := Try.checked) false ⟨#[], #[.slice none 0 0], []⟩ 8 (by kernel_rfl) (by kernel_rfl) (by kernel_rfl) (by kernel_rfl)) ?_
  intro W base args ds gs before hval0 hW hcnd _
  have hval : ∀ (j : Nat) t v, Try.f4.params[j]? = some t → args[j]? = some v → Value.okWide Try.prog W .any base t v := hval0
  have hW' := hW
  obtain ⟨p, q, hA0, hV, rfl, hfz, hnd⟩ := hW
  have hA : DataW.TrodAll enc Try.prog W 0 (fun _ => true) true Try.f4.params.toList args.toList ds p := hA0
  rw [Try.params4] at hA hval
  obtain ⟨v0, vs0, d0, ds0, p0, q0, hargs, rfl, rfl, h0, r0⟩ := trodAll_cons hA
  obtain ⟨rfl, rfl, rfl⟩ := trodAll_nil r0
  obtain rfl : args = #[v0] := by cases args; simp_all
  obtain ⟨rfl, rfl⟩ := trodVars_none hV
  obtain ⟨a0, len0, cap0, rfl⟩ := okWide_slice Try.underlying22 (hval 0 22 v0 rfl rfl)
  have k0 := h0
  have lt0 : ∀ x ∈ p0, x.block < W.heap.size := by obtain ⟨m, hm⟩ := k0; exact DataW.trod_lt m _ _ _ hm
  obtain ⟨z0, w0⟩ : ∃ zs, IsRow .u8 W a0 len0 cap0 zs := by
    obtain ⟨fuel, hf⟩ := h0
    rcases open_ints Try.underlying22 Try.underlying5 (by kernel_rfl) hf with ⟨hcs, _⟩ | ⟨x, l, c, zs, hcs, _, hl, hm, hz, _, hcell, hwz⟩
    · simp [Value.cells] at hcs
      obtain ⟨rfl, rfl, rfl⟩ := hcs
      exact ⟨[], .inl ⟨rfl, rfl, rfl, rfl⟩⟩
    · simp [Value.cells] at hcs
      obtain ⟨rfl, rfl, rfl⟩ := hcs
      exact ⟨zs, .inr ⟨_, rfl, hl, hm, by simpa using hz, hcell, hwz⟩⟩
  clear hA0 hval0
  refine (walk a0 len0 cap0 z0 W w0).mono fun e W' ⟨he, bel⟩ => ?_
  subst he
  exact ⟨_, rfl, _, _, _, [], _, [], hW', trodAll_mk1 (shut_bool Try.underlying4 _), (trodAll_cons_mk (Below.trod laidOut (by kernel_rfl) (of_decide_eq_true (by kernel_rfl)) k0 bel lt0) trodAll_mk0), rfl, bel.frame _, fun h => by cases h⟩

theorem over : Rows.fnTwiceRow.holds Try.pinned (OpenSpec.ofChange Rows.fnTwiceSpec) :=
  OpenClaim.holds_of_wide 4 Try.f4 rfl rfl rfl rfl rfl rfl rfl ⟨rfl, rfl, rfl, rfl, rfl⟩ rfl rfl rfl rfl rfl (by kernel_rfl) Try.func4 (by kernel_rfl)
    (of_decide_eq_true (by kernel_rfl)) (by unfold Func.isWrapper; first | (rw [if_pos (by decide +kernel)]; kernel_rfl) | (rw [if_neg (by decide +kernel)]; exact ⟨rfl, rfl⟩))
    (fun os started H enc _ => lifted os started H enc)

/-- ████ THE STATEMENT ████ -/
theorem proved : Rows.FnTwiceSaid := over
end Go.Proofs.Ytmmjidhpmbcoiaa.fnTwice
namespace Go.Proofs.Ytmmjidhpmbcoiaa
theorem fnTwice_holds : Rows.FnTwiceSaid := fnTwice.proved
#print axioms fnTwice_holds
end Go.Proofs.Ytmmjidhpmbcoiaa
