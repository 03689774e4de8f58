/-
  Proved: whatever code it is given, the law FnHeap returns true: an array that is put into the drawn heap is got by its handle, and all others by theirs, packed too; so many words more are in use; what is not put leaves the heap as it was.
-/
import Derived.Test.YtmmjidhpmbcoiaaRows
import Derived.WalkKit
import Derived.ProofKit
import Derived.OpenShut
import Derived.ShutString
import Derived.ChangeOld
import Derived.Below
import Derived.Test.YtmmjidhpmbcoiaaZ3
import Derived.Test.YtmmjidhpmbcoiaaLaw3
namespace Go.Proofs.Ytmmjidhpmbcoiaa.fnHeap
open Go.ChangeShapes Go.WideShapes Go.ChangeAt Go.RowKit
open Go.ChangeMaps (open_string shut_string)
set_option linter.unusedVariables false
set_option linter.unusedSimpArgs false
set_option linter.unusedVariables false

theorem own : ownKnob Try.prog.godebug = none := by kernel_rfl
theorem laidOut : laidOutB Try.prog = true := by kernel_rfl

/-! ### STEP 1: THE WALK: the Go text returns true, AND WRITES NOTHING THAT WAS THERE: 'Below w.heap.size w w'' (Derived/Below.lean: '.refl', '.alloc', '.drew', '.setCell' at a new block, '.trans'). Open each 'IsRow' by 'rcases' AHEAD of 'go_enter'; part every test ahead of the walk. -/
set_option maxRecDepth 20000 in
set_option maxHeartbeats 8000000 in
theorem walk (a0 : Option Addr) (len0 cap0 : Nat) (z0 : List Int) (w : World) (w0 : IsRow .u8 w a0 len0 cap0 z0) :
    Calls Try.prog 6 #[.slice a0 len0 cap0] w fun e w' => e = .returned (.bool true) ∧ Below w.heap.size w w' := by
  have HS : Hid (Src w.heap.size w a0 len0) := src_of_row w0
  clear w0
  by_cases hbig : (1048576 : Int) < (len0 : Int)
  · go_enter Try.func6, Try.ntmps6
    go_wp2_with (go_at_call 9; refine (big_laws _ _ _ _).mono ?_; rintro e w' ⟨rfl, hw⟩; subst w')
    go_ret
    exact ⟨rfl, Below.refl _ _⟩
  have hb20 : len0 ≤ 1048576 := by omega
  go_enter Try.func6, Try.ntmps6
  go_wp2_with (go_at_call 9; refine (big_laws _ _ _ _).mono ?_; rintro e w' ⟨rfl, hw⟩; subst w')
  refine (drawPut_spec HS.out hb20).mono ?_
  rintro r w1 ⟨vH, vA, W, t, n, E, s, d, rfl, hG, hV, hA, hsl, hdl, hb⟩
  obtain ⟨aH, bH, cH, dH, rfl⟩ := hG.form
  obtain ⟨aA, bA, cA, dA, rfl⟩ := hA.form
  have HT_1 : Hid (Below w.heap.size w w1) := hb
  have GH_1 : Hid (HI w1 (.agg #[.slice aH W.length bH, .int .i64 t, .slice cH n dH]) W t n E) := hG
  have GA_1 : Hid (ArrI w1 (.agg #[.slice aA s.length bA, .slice cA d.length dA]) s d) := hA
  have HV : Hid (HpV W t n E) := hV
  have HD : Hid (d.length ≤ 301) := hdl
  have HS4 : Hid (s.length ≤ 4) := hsl
  clear hb hG hA hV hsl hdl HS hbig hb20
  obtain ⟨UU, hUU⟩ : ∃ y, y = usedH W.length t n E := ⟨_, rfl⟩
  obtain ⟨HK, hHK⟩ : ∃ y, y = hOkB W.length t n E := ⟨_, rfl⟩
  have CKI : Hid (∀ (V : World) (v : Value), HI V v W t n E → Calls Try.prog 16 #[v] V fun e w' => e = .returned (.bool HK) ∧ Below V.heap.size V w') := fun V v h => by
    have q := hokI HV.out h
    rw [← hHK] at q
    exact q
  have CKS : Hid (∀ (V : World) (v : Value), HI V v W t n E → Calls Try.prog 25 #[v] V fun e w' => e = .returned (.bool HK) ∧ Below V.heap.size V w') := fun V v h => by
    have q := hokS HV.out h
    rw [← hHK] at q
    exact q
  clear hHK
  by_cases hB : outB W t n E s d = true
  · skip
    have HF := heap_facts HV.out hB
    have PF := put_facts HV.out hB
    obtain ⟨OI, hOI⟩ : ∃ y, y = outI W t n E s d := ⟨_, rfl⟩
    obtain ⟨OW, hOW⟩ : ∃ y, y = outW W t n E s d := ⟨_, rfl⟩
    obtain ⟨OT, hOT⟩ : ∃ y, y = outT W t n E s d := ⟨_, rfl⟩
    obtain ⟨ON, hON⟩ : ∃ y, y = outN W t n E s d := ⟨_, rfl⟩
    obtain ⟨OE, hOE⟩ : ∃ y, y = outE W t n E s d := ⟨_, rfl⟩
    have CP : Hid (∀ (V : World) (v u : Value), HI V v W t n E → ArrI V u s d → Calls Try.prog 14 #[v, u] V fun e w' => ∃ v', e = .returned (.tuple #[v', .int .i64 OI, .bool true]) ∧ HI w' v' OW OT ON OE ∧ Below V.heap.size V w') := fun V v u h k => by
      have q := hputI HV.out h k HD.out
      rw [hB, ← hOI, ← hOW, ← hOT, ← hON, ← hOE] at q
      exact q
    have CS : Hid (∀ (V : World) (v u : Value), HI V v W t n E → ArrI V u s d → Calls Try.prog 18 #[v, u] V fun e w' => ∃ v', e = .returned (.tuple #[v', .int .i64 OI, .bool true]) ∧ HI w' v' OW OT ON OE ∧ Below V.heap.size V w') := fun V v u h k => by
      have q := hputS HV.out h k HD.out
      rw [hB, ← hOI, ← hOW, ← hOT, ← hON, ← hOE] at q
      exact q
    rw [← hOI, ← hOW, ← hOT, ← hON, ← hOE] at PF
    rw [← hOW, ← hOT, ← hON, ← hOE, ← hUU] at HF
    obtain ⟨HU, HG⟩ := HF
    obtain ⟨OKH, FO, FL, GT, _⟩ := PF
    obtain ⟨FP, e1, _, _, _, _, _, e7, _⟩ := pack_facts FO.v FO.1
    obtain ⟨PW, hPW⟩ : ∃ y, y = packW OW OT ON OE := ⟨_, rfl⟩
    obtain ⟨PT, hPT⟩ : ∃ y, y = packT OW OT ON OE := ⟨_, rfl⟩
    obtain ⟨PE, hPE⟩ : ∃ y, y = packE OE ON := ⟨_, rfl⟩
    rw [← hPW, ← hPT, ← hPE] at FP e7
    obtain ⟨t1, t2, t3⟩ := gO_some GT
    have hub := used_le OKH n (Nat.le_refl _)
    have hn0 := OKH.2.2.2.1
    rw [← used_ok OKH, ← hUU] at hub
    have CGT : Hid (∀ (V : World) (v : Value), HI V v OW OT ON OE → Calls Try.prog 21 #[v, .int .i64 OI] V fun e w' => ∃ v', e = .returned (.tuple #[v', .bool true]) ∧ ArrI w' v' s d ∧ Below V.heap.size V w') := fun V v h => by
      have q := hgetI FO.v h OI
      rw [t1, t2, t3] at q
      exact q
    have CPK : Hid (∀ (V : World) (v : Value), HI V v OW OT ON OE → Calls Try.prog 26 #[v] V fun e w' => ∃ v', e = .returned (.tuple #[v', .bool true]) ∧ HI w' v' PW PT ON PE ∧ Below V.heap.size V w') := fun V v h => by
      have q := hpackI FO.v h
      rw [hOkB_true FO.1, e1, ← hPW, ← hPT, ← hPE] at q
      exact q
    have CK : Hid (∀ (V : World) (v : Value), HI V v OW OT ON OE → Calls Try.prog 16 #[v] V fun e w' => e = .returned (.bool true) ∧ Below V.heap.size V w') := fun V v h => by
      have q := hokI FO.v h
      rw [hOkB_true FO.1] at q
      exact q
    have CUH : Hid (∀ (V : World) (v : Value), HI V v W t n E → Calls Try.prog 15 #[v] V fun e w' => e = .returned (.int .i64 UU) ∧ Below V.heap.size V w') := fun V v h => by
      have q := husedI HV.out h
      rw [← hUU] at q
      exact q
    have CUN : Hid (∀ (V : World) (v : Value), HI V v OW OT ON OE → Calls Try.prog 15 #[v] V fun e w' => e = .returned (.int .i64 (UU + 1 + s.length + d.length)) ∧ Below V.heap.size V w') := fun V v h => by
      have q := husedI FO.v h
      rw [HU] at q
      exact q
    have CG : Hid (∀ k : Nat, k < n → ∃ (gb : Bool) (gs gd : List Int) (gb' : Bool) (gs' gd' : List Int), (gs.length ≤ 1048576 ∧ gd.length ≤ 1048576) ∧ (gb = true → gb' = true ∧ gs' = gs ∧ gd' = gd) ∧
        (∀ (V : World) (v : Value), HI V v W t n E → Calls Try.prog 20 #[v, .int .i64 (k : Int)] V fun e w' => ∃ v', e = .returned (.tuple #[v', .bool gb]) ∧ ArrI w' v' gs gd ∧ Below V.heap.size V w') ∧
        (∀ (V : World) (v : Value), HI V v OW OT ON OE → Calls Try.prog 21 #[v, .int .i64 (k : Int)] V fun e w' => ∃ v', e = .returned (.tuple #[v', .bool gb']) ∧ ArrI w' v' gs' gd' ∧ Below V.heap.size V w') ∧
        (∀ (V : World) (v : Value), HI V v PW PT ON PE → Calls Try.prog 21 #[v, .int .i64 (k : Int)] V fun e w' => ∃ v', e = .returned (.tuple #[v', .bool gb']) ∧ ArrI w' v' gs' gd' ∧ Below V.heap.size V w')) := fun k hk => by
      refine ⟨gB W t n E k, gS W t n E k, gD W t n E k, gB OW OT ON OE k, gS OW OT ON OE k, gD OW OT ON OE k, gs_len _ _ _ _ _ HV.out.2.1, HG k hk, fun V v h => hgetS HV.out h k, fun V v h => hgetI FO.v h k, fun V v h => ?_⟩
      have q := hgetI FP.v h k
      obtain ⟨x1, x2, x3⟩ := get_eq (e7 k)
      rw [x1, x2, x3] at q
      exact q
    have NB : Hid (n ≤ 201 ∧ (s.length ≤ 1048576 ∧ d.length ≤ 1048576) ∧ 0 ≤ UU ∧ UU ≤ 1200000) := ⟨HV.out.2.2, ⟨by have := HS4.out; omega, by have := HD.out; omega⟩, hub.1, by omega⟩
    clear hOI hOW hOT hON hOE hPW hPT hPE HU HG OKH FO FL GT FP e1 e7 t1 t2 t3 hub hn0 hUU hB
    go_wp2_with fail
    have hb : Below w1.heap.size w1 ((w1.alloc (.cells #[.slice aH W.length bH, .int .i64 t, .slice cH n dH] 28)).alloc (.cells #[.slice aA s.length bA, .slice cA d.length dA] 32)) := bAlloc (bAlloc (Below.refl _ _) _) _
    have hbx : Box3 ((w1.alloc (.cells #[.slice aH W.length bH, .int .i64 t, .slice cH n dH] 28)).alloc (.cells #[.slice aA s.length bA, .slice cA d.length dA] 32)) w1.heap.size (.slice aH W.length bH) (.int .i64 t) (.slice cH n dH) 28 := (box3_new _ _ _ _ _).alloc _
    have hby : Box ((w1.alloc (.cells #[.slice aH W.length bH, .int .i64 t, .slice cH n dH] 28)).alloc (.cells #[.slice aA s.length bA, .slice cA d.length dA] 32)) (w1.heap.size + 1) (.slice aA s.length bA) (.slice cA d.length dA) 32 := by
      have := box_new (w1.alloc (.cells #[.slice aH W.length bH, .int .i64 t, .slice cH n dH] 28)) (.slice aA s.length bA) (.slice cA d.length dA) 32
      simpa using this
    generalize (w1.alloc (.cells #[.slice aH W.length bH, .int .i64 t, .slice cH n dH] 28)).alloc (.cells #[.slice aA s.length bA, .slice cA d.length dA] 32) = w2 at *
    have HT_2 : Hid (Below w.heap.size w w2) := bTrans HT_1.out hb
    have GH_2 : Hid (HI w2 (.agg #[.slice aH W.length bH, .int .i64 t, .slice cH n dH]) W t n E) := GH_1.out.keep hb
    have GA_2 : Hid (ArrI w2 (.agg #[.slice aA s.length bA, .slice cA d.length dA]) s d) := GA_1.out.keep hb
    have QH_2 : Hid (Box3 w2 w1.heap.size (.slice aH W.length bH) (.int .i64 t) (.slice cH n dH) 28) := hbx
    have QA_2 : Hid (Box w2 (w1.heap.size + 1) (.slice aA s.length bA) (.slice cA d.length dA) 32) := hby
    clear hb hbx hby HT_1 GH_1 GA_1
    refine (CP.out _ _ _ GH_2.out GA_2.out).mono ?_
    rintro r w3 ⟨vP, rfl, hO, hb⟩
    obtain ⟨aP, bP, cP, dP, rfl⟩ := hO.form
    have HT_3 : Hid (Below w.heap.size w w3) := bTrans HT_2.out hb
    have GH_3 : Hid (HI w3 (.agg #[.slice aH W.length bH, .int .i64 t, .slice cH n dH]) W t n E) := GH_2.out.keep hb
    have GA_3 : Hid (ArrI w3 (.agg #[.slice aA s.length bA, .slice cA d.length dA]) s d) := GA_2.out.keep hb
    have QH_3 : Hid (Box3 w3 w1.heap.size (.slice aH W.length bH) (.int .i64 t) (.slice cH n dH) 28) := QH_2.out.keep hb
    have QA_3 : Hid (Box w3 (w1.heap.size + 1) (.slice aA s.length bA) (.slice cA d.length dA) 32) := QA_2.out.keep hb
    have GP_3 : Hid (HI w3 (.agg #[.slice aP OW.length bP, .int .i64 OT, .slice cP ON dP]) OW OT ON OE) := hO
    clear hb hO HT_2 GH_2 GA_2 QH_2 QA_2
    have pQH0 := QH_3.out.c0
    have dQH0 : ∀ ob : Obj, (w3.alloc ob).cell? ⟨w1.heap.size, 0, none⟩ = some (.slice aH W.length bH) := fun ob => (QH_3.out.keep (bAlloc (Below.refl _ _) ob)).c0
    have pQH1 := QH_3.out.c1
    have dQH1 : ∀ ob : Obj, (w3.alloc ob).cell? ⟨w1.heap.size, 1, none⟩ = some (.int .i64 t) := fun ob => (QH_3.out.keep (bAlloc (Below.refl _ _) ob)).c1
    have pQH2 := QH_3.out.c2
    have dQH2 : ∀ ob : Obj, (w3.alloc ob).cell? ⟨w1.heap.size, 2, none⟩ = some (.slice cH n dH) := fun ob => (QH_3.out.keep (bAlloc (Below.refl _ _) ob)).c2
    have pQA0 := QA_3.out.c0
    have dQA0 : ∀ ob : Obj, (w3.alloc ob).cell? ⟨w1.heap.size + 1, 0, none⟩ = some (.slice aA s.length bA) := fun ob => (QA_3.out.keep (bAlloc (Below.refl _ _) ob)).c0
    have pQA1 := QA_3.out.c1
    have dQA1 : ∀ ob : Obj, (w3.alloc ob).cell? ⟨w1.heap.size + 1, 1, none⟩ = some (.slice cA d.length dA) := fun ob => (QA_3.out.keep (bAlloc (Below.refl _ _) ob)).c1
    go_wp2_with fail
    clear pQH0 dQH0 pQH1 dQH1 pQH2 dQH2 pQA0 dQA0 pQA1 dQA1
    have hb : Below w3.heap.size w3 (w3.alloc (.cells #[.slice aP OW.length bP, .int .i64 OT, .slice cP ON dP] 28)) := bAlloc (Below.refl _ _) _
    have hbx : Box3 (w3.alloc (.cells #[.slice aP OW.length bP, .int .i64 OT, .slice cP ON dP] 28)) w3.heap.size (.slice aP OW.length bP) (.int .i64 OT) (.slice cP ON dP) 28 := heap_alloc_new _ _
    generalize w3.alloc (.cells #[.slice aP OW.length bP, .int .i64 OT, .slice cP ON dP] 28) = w4 at *
    have HT_4 : Hid (Below w.heap.size w w4) := bTrans HT_3.out hb
    have GH_4 : Hid (HI w4 (.agg #[.slice aH W.length bH, .int .i64 t, .slice cH n dH]) W t n E) := GH_3.out.keep hb
    have GA_4 : Hid (ArrI w4 (.agg #[.slice aA s.length bA, .slice cA d.length dA]) s d) := GA_3.out.keep hb
    have QH_4 : Hid (Box3 w4 w1.heap.size (.slice aH W.length bH) (.int .i64 t) (.slice cH n dH) 28) := QH_3.out.keep hb
    have QA_4 : Hid (Box w4 (w1.heap.size + 1) (.slice aA s.length bA) (.slice cA d.length dA) 32) := QA_3.out.keep hb
    have GP_4 : Hid (HI w4 (.agg #[.slice aP OW.length bP, .int .i64 OT, .slice cP ON dP]) OW OT ON OE) := GP_3.out.keep hb
    have QP_4 : Hid (Box3 w4 w3.heap.size (.slice aP OW.length bP) (.int .i64 OT) (.slice cP ON dP) 28) := hbx
    clear hb hbx HT_3 GH_3 GA_3 QH_3 QA_3 GP_3
    refine (CS.out _ _ _ GH_4.out GA_4.out).mono ?_
    rintro r w5 ⟨vS, rfl, hO, hb⟩
    obtain ⟨aS, bS, cS, dS, rfl⟩ := hO.form
    have HT_5 : Hid (Below w.heap.size w w5) := bTrans HT_4.out hb
    have GH_5 : Hid (HI w5 (.agg #[.slice aH W.length bH, .int .i64 t, .slice cH n dH]) W t n E) := GH_4.out.keep hb
    have GA_5 : Hid (ArrI w5 (.agg #[.slice aA s.length bA, .slice cA d.length dA]) s d) := GA_4.out.keep hb
    have QH_5 : Hid (Box3 w5 w1.heap.size (.slice aH W.length bH) (.int .i64 t) (.slice cH n dH) 28) := QH_4.out.keep hb
    have QA_5 : Hid (Box w5 (w1.heap.size + 1) (.slice aA s.length bA) (.slice cA d.length dA) 32) := QA_4.out.keep hb
    have GP_5 : Hid (HI w5 (.agg #[.slice aP OW.length bP, .int .i64 OT, .slice cP ON dP]) OW OT ON OE) := GP_4.out.keep hb
    have QP_5 : Hid (Box3 w5 w3.heap.size (.slice aP OW.length bP) (.int .i64 OT) (.slice cP ON dP) 28) := QP_4.out.keep hb
    clear hb hO HT_4 GH_4 GA_4 QH_4 QA_4 GP_4 QP_4
    have pQH0 := QH_5.out.c0
    have dQH0 : ∀ ob : Obj, (w5.alloc ob).cell? ⟨w1.heap.size, 0, none⟩ = some (.slice aH W.length bH) := fun ob => (QH_5.out.keep (bAlloc (Below.refl _ _) ob)).c0
    have pQH1 := QH_5.out.c1
    have dQH1 : ∀ ob : Obj, (w5.alloc ob).cell? ⟨w1.heap.size, 1, none⟩ = some (.int .i64 t) := fun ob => (QH_5.out.keep (bAlloc (Below.refl _ _) ob)).c1
    have pQH2 := QH_5.out.c2
    have dQH2 : ∀ ob : Obj, (w5.alloc ob).cell? ⟨w1.heap.size, 2, none⟩ = some (.slice cH n dH) := fun ob => (QH_5.out.keep (bAlloc (Below.refl _ _) ob)).c2
    have pQA0 := QA_5.out.c0
    have dQA0 : ∀ ob : Obj, (w5.alloc ob).cell? ⟨w1.heap.size + 1, 0, none⟩ = some (.slice aA s.length bA) := fun ob => (QA_5.out.keep (bAlloc (Below.refl _ _) ob)).c0
    have pQA1 := QA_5.out.c1
    have dQA1 : ∀ ob : Obj, (w5.alloc ob).cell? ⟨w1.heap.size + 1, 1, none⟩ = some (.slice cA d.length dA) := fun ob => (QA_5.out.keep (bAlloc (Below.refl _ _) ob)).c1
    have pQP0 := QP_5.out.c0
    have dQP0 : ∀ ob : Obj, (w5.alloc ob).cell? ⟨w3.heap.size, 0, none⟩ = some (.slice aP OW.length bP) := fun ob => (QP_5.out.keep (bAlloc (Below.refl _ _) ob)).c0
    have pQP1 := QP_5.out.c1
    have dQP1 : ∀ ob : Obj, (w5.alloc ob).cell? ⟨w3.heap.size, 1, none⟩ = some (.int .i64 OT) := fun ob => (QP_5.out.keep (bAlloc (Below.refl _ _) ob)).c1
    have pQP2 := QP_5.out.c2
    have dQP2 : ∀ ob : Obj, (w5.alloc ob).cell? ⟨w3.heap.size, 2, none⟩ = some (.slice cP ON dP) := fun ob => (QP_5.out.keep (bAlloc (Below.refl _ _) ob)).c2
    go_wp2_with fail
    clear pQH0 dQH0 pQH1 dQH1 pQH2 dQH2 pQA0 dQA0 pQA1 dQA1 pQP0 dQP0 pQP1 dQP1 pQP2 dQP2
    have hb : Below w5.heap.size w5 (w5.alloc (.cells #[.slice aS OW.length bS, .int .i64 OT, .slice cS ON dS] 28)) := bAlloc (Below.refl _ _) _
    generalize w5.alloc (.cells #[.slice aS OW.length bS, .int .i64 OT, .slice cS ON dS] 28) = w6 at *
    have HT_6 : Hid (Below w.heap.size w w6) := bTrans HT_5.out hb
    have GH_6 : Hid (HI w6 (.agg #[.slice aH W.length bH, .int .i64 t, .slice cH n dH]) W t n E) := GH_5.out.keep hb
    have GA_6 : Hid (ArrI w6 (.agg #[.slice aA s.length bA, .slice cA d.length dA]) s d) := GA_5.out.keep hb
    have QH_6 : Hid (Box3 w6 w1.heap.size (.slice aH W.length bH) (.int .i64 t) (.slice cH n dH) 28) := QH_5.out.keep hb
    have QA_6 : Hid (Box w6 (w1.heap.size + 1) (.slice aA s.length bA) (.slice cA d.length dA) 32) := QA_5.out.keep hb
    have GP_6 : Hid (HI w6 (.agg #[.slice aP OW.length bP, .int .i64 OT, .slice cP ON dP]) OW OT ON OE) := GP_5.out.keep hb
    have QP_6 : Hid (Box3 w6 w3.heap.size (.slice aP OW.length bP) (.int .i64 OT) (.slice cP ON dP) 28) := QP_5.out.keep hb
    clear hb  HT_5 GH_5 GA_5 QH_5 QA_5 GP_5 QP_5
    have pQH0 := QH_6.out.c0
    have pQH1 := QH_6.out.c1
    have pQH2 := QH_6.out.c2
    have hxx : (HK != HK) = false := by simp
    have hoo : (OI != OI) = false := by simp
    have KA : Hid (∀ V, Below w6.heap.size w6 V → HI V (.agg #[.slice aH W.length bH, .int .i64 t, .slice cH n dH]) W t n E ∧ (V.cell? ⟨w1.heap.size, 0, none⟩ = some (.slice aH W.length bH) ∧ V.cell? ⟨w1.heap.size, 1, none⟩ = some (.int .i64 t) ∧ V.cell? ⟨w1.heap.size, 2, none⟩ = some (.slice cH n dH))) := fun V hb => ⟨GH_6.out.keep hb, (QH_6.out.keep hb).c0, (QH_6.out.keep hb).c1, (QH_6.out.keep hb).c2⟩
    go_region_held3 (fun w' => w'.cell? ⟨w1.heap.size, 0, none⟩ = some (.slice aH W.length bH) ∧ w'.cell? ⟨w1.heap.size, 1, none⟩ = some (.int .i64 t) ∧ w'.cell? ⟨w1.heap.size, 2, none⟩ = some (.slice cH n dH))
      (first | (refine (KA.out _ ?_).2; (repeat first | with_reducible exact Below.refl _ _ | with_reducible exact B2.out | with_reducible exact B1.out | with_reducible refine bAlloc ?_ _ | with_reducible refine Below.drew ?_); done) | go_keep)
      (first
        | (go_at_call 16; refine (CKI.out _ _ (KA.out _ (by repeat first | with_reducible exact Below.refl _ _ | with_reducible refine bAlloc ?_ _ | with_reducible refine Below.drew ?_)).1).mono ?_; rintro r x1 ⟨rfl, hb1⟩; have B1 : Hid (Below w6.heap.size w6 x1) := bTrans (show Below w6.heap.size w6 _ from (by repeat first | with_reducible exact Below.refl _ _ | with_reducible refine bAlloc ?_ _ | with_reducible refine Below.drew ?_)) hb1; clear hb1)
        | (go_at_call 25; refine (CKS.out _ _ (KA.out _ (by repeat first | with_reducible exact Below.refl _ _ | with_reducible exact B1.out | with_reducible refine bAlloc ?_ _ | with_reducible refine Below.drew ?_)).1).mono ?_; rintro r x2 ⟨rfl, hb2⟩; have B2 : Hid (Below w6.heap.size w6 x2) := bTrans (show Below w6.heap.size w6 _ from (by repeat first | with_reducible exact Below.refl _ _ | with_reducible exact B1.out | with_reducible refine bAlloc ?_ _ | with_reducible refine Below.drew ?_)) hb2; clear hb2))
    all_goals
      clear pQH0 pQH1 pQH2
      have hb := B2.out
      have HT_7 : Hid (Below w.heap.size w x2) := bTrans HT_6.out hb
      have GH_7 : Hid (HI x2 (.agg #[.slice aH W.length bH, .int .i64 t, .slice cH n dH]) W t n E) := GH_6.out.keep hb
      have GA_7 : Hid (ArrI x2 (.agg #[.slice aA s.length bA, .slice cA d.length dA]) s d) := GA_6.out.keep hb
      have QH_7 : Hid (Box3 x2 w1.heap.size (.slice aH W.length bH) (.int .i64 t) (.slice cH n dH) 28) := QH_6.out.keep hb
      have QA_7 : Hid (Box x2 (w1.heap.size + 1) (.slice aA s.length bA) (.slice cA d.length dA) 32) := QA_6.out.keep hb
      have GP_7 : Hid (HI x2 (.agg #[.slice aP OW.length bP, .int .i64 OT, .slice cP ON dP]) OW OT ON OE) := GP_6.out.keep hb
      have QP_7 : Hid (Box3 x2 w3.heap.size (.slice aP OW.length bP) (.int .i64 OT) (.slice cP ON dP) 28) := QP_6.out.keep hb
      clear hb B1 B2 KA hxx HT_6 GH_6 GA_6 QH_6 QA_6 GP_6 QP_6
      obtain ⟨w7, hwx⟩ : ∃ y, y = x2 := ⟨_, rfl⟩
      subst hwx
      have pQP0 := QP_7.out.c0
      have dQP0 : ∀ ob : Obj, (w7.alloc ob).cell? ⟨w3.heap.size, 0, none⟩ = some (.slice aP OW.length bP) := fun ob => (QP_7.out.keep (bAlloc (Below.refl _ _) ob)).c0
      have pQP1 := QP_7.out.c1
      have dQP1 : ∀ ob : Obj, (w7.alloc ob).cell? ⟨w3.heap.size, 1, none⟩ = some (.int .i64 OT) := fun ob => (QP_7.out.keep (bAlloc (Below.refl _ _) ob)).c1
      have pQP2 := QP_7.out.c2
      have dQP2 : ∀ ob : Obj, (w7.alloc ob).cell? ⟨w3.heap.size, 2, none⟩ = some (.slice cP ON dP) := fun ob => (QP_7.out.keep (bAlloc (Below.refl _ _) ob)).c2
      go_wp2_with fail
      clear pQP0 dQP0 pQP1 dQP1 pQP2 dQP2
      refine (CGT.out _ _ GP_7.out).mono ?_
      rintro r w8 ⟨vG, rfl, ha, hb⟩
      obtain ⟨aG, bG, cG, dG, rfl⟩ := ha.form
      have HT_8 : Hid (Below w.heap.size w w8) := bTrans HT_7.out hb
      have GH_8 : Hid (HI w8 (.agg #[.slice aH W.length bH, .int .i64 t, .slice cH n dH]) W t n E) := GH_7.out.keep hb
      have GA_8 : Hid (ArrI w8 (.agg #[.slice aA s.length bA, .slice cA d.length dA]) s d) := GA_7.out.keep hb
      have QH_8 : Hid (Box3 w8 w1.heap.size (.slice aH W.length bH) (.int .i64 t) (.slice cH n dH) 28) := QH_7.out.keep hb
      have QA_8 : Hid (Box w8 (w1.heap.size + 1) (.slice aA s.length bA) (.slice cA d.length dA) 32) := QA_7.out.keep hb
      have GP_8 : Hid (HI w8 (.agg #[.slice aP OW.length bP, .int .i64 OT, .slice cP ON dP]) OW OT ON OE) := GP_7.out.keep hb
      have QP_8 : Hid (Box3 w8 w3.heap.size (.slice aP OW.length bP) (.int .i64 OT) (.slice cP ON dP) 28) := QP_7.out.keep hb
      have GG_8 : Hid (ArrI w8 (.agg #[.slice aG s.length bG, .slice cG d.length dG]) s d) := ha
      clear hb ha HT_7 GH_7 GA_7 QH_7 QA_7 GP_7 QP_7
      have pQP0 := QP_8.out.c0
      have dQP0 : ∀ ob : Obj, (w8.alloc ob).cell? ⟨w3.heap.size, 0, none⟩ = some (.slice aP OW.length bP) := fun ob => (QP_8.out.keep (bAlloc (Below.refl _ _) ob)).c0
      have pQP1 := QP_8.out.c1
      have dQP1 : ∀ ob : Obj, (w8.alloc ob).cell? ⟨w3.heap.size, 1, none⟩ = some (.int .i64 OT) := fun ob => (QP_8.out.keep (bAlloc (Below.refl _ _) ob)).c1
      have pQP2 := QP_8.out.c2
      have dQP2 : ∀ ob : Obj, (w8.alloc ob).cell? ⟨w3.heap.size, 2, none⟩ = some (.slice cP ON dP) := fun ob => (QP_8.out.keep (bAlloc (Below.refl _ _) ob)).c2
      go_wp2_with fail
      clear pQP0 dQP0 pQP1 dQP1 pQP2 dQP2
      have hb : Below w8.heap.size w8 (w8.alloc (.cells #[.slice aG s.length bG, .slice cG d.length dG] 32)) := bAlloc (Below.refl _ _) _
      have hbx : Box (w8.alloc (.cells #[.slice aG s.length bG, .slice cG d.length dG] 32)) w8.heap.size (.slice aG s.length bG) (.slice cG d.length dG) 32 := heap_alloc_new _ _
      generalize w8.alloc (.cells #[.slice aG s.length bG, .slice cG d.length dG] 32) = w9 at *
      have HT_9 : Hid (Below w.heap.size w w9) := bTrans HT_8.out hb
      have GH_9 : Hid (HI w9 (.agg #[.slice aH W.length bH, .int .i64 t, .slice cH n dH]) W t n E) := GH_8.out.keep hb
      have GA_9 : Hid (ArrI w9 (.agg #[.slice aA s.length bA, .slice cA d.length dA]) s d) := GA_8.out.keep hb
      have QH_9 : Hid (Box3 w9 w1.heap.size (.slice aH W.length bH) (.int .i64 t) (.slice cH n dH) 28) := QH_8.out.keep hb
      have QA_9 : Hid (Box w9 (w1.heap.size + 1) (.slice aA s.length bA) (.slice cA d.length dA) 32) := QA_8.out.keep hb
      have GP_9 : Hid (HI w9 (.agg #[.slice aP OW.length bP, .int .i64 OT, .slice cP ON dP]) OW OT ON OE) := GP_8.out.keep hb
      have QP_9 : Hid (Box3 w9 w3.heap.size (.slice aP OW.length bP) (.int .i64 OT) (.slice cP ON dP) 28) := QP_8.out.keep hb
      have GG_9 : Hid (ArrI w9 (.agg #[.slice aG s.length bG, .slice cG d.length dG]) s d) := GG_8.out.keep hb
      have QG_9 : Hid (Box w9 w8.heap.size (.slice aG s.length bG) (.slice cG d.length dG) 32) := hbx
      clear hb hbx HT_8 GH_8 GA_8 QH_8 QA_8 GP_8 QP_8 GG_8
      refine (CPK.out _ _ GP_9.out).mono ?_
      rintro r w10 ⟨vQ, rfl, hO, hb⟩
      obtain ⟨aQ, bQ, cQ, dQ, rfl⟩ := hO.form
      have HT_10 : Hid (Below w.heap.size w w10) := bTrans HT_9.out hb
      have GH_10 : Hid (HI w10 (.agg #[.slice aH W.length bH, .int .i64 t, .slice cH n dH]) W t n E) := GH_9.out.keep hb
      have GA_10 : Hid (ArrI w10 (.agg #[.slice aA s.length bA, .slice cA d.length dA]) s d) := GA_9.out.keep hb
      have QH_10 : Hid (Box3 w10 w1.heap.size (.slice aH W.length bH) (.int .i64 t) (.slice cH n dH) 28) := QH_9.out.keep hb
      have QA_10 : Hid (Box w10 (w1.heap.size + 1) (.slice aA s.length bA) (.slice cA d.length dA) 32) := QA_9.out.keep hb
      have GP_10 : Hid (HI w10 (.agg #[.slice aP OW.length bP, .int .i64 OT, .slice cP ON dP]) OW OT ON OE) := GP_9.out.keep hb
      have QP_10 : Hid (Box3 w10 w3.heap.size (.slice aP OW.length bP) (.int .i64 OT) (.slice cP ON dP) 28) := QP_9.out.keep hb
      have GG_10 : Hid (ArrI w10 (.agg #[.slice aG s.length bG, .slice cG d.length dG]) s d) := GG_9.out.keep hb
      have QG_10 : Hid (Box w10 w8.heap.size (.slice aG s.length bG) (.slice cG d.length dG) 32) := QG_9.out.keep hb
      have GQ_10 : Hid (HI w10 (.agg #[.slice aQ PW.length bQ, .int .i64 PT, .slice cQ ON dQ]) PW PT ON PE) := hO
      clear hb hO HT_9 GH_9 GA_9 QH_9 QA_9 GP_9 QP_9 GG_9 QG_9
      go_wp2_with fail
      have hb : Below w10.heap.size w10 (w10.alloc (.cells #[.slice aQ PW.length bQ, .int .i64 PT, .slice cQ ON dQ] 28)) := bAlloc (Below.refl _ _) _
      have hbx : Box3 (w10.alloc (.cells #[.slice aQ PW.length bQ, .int .i64 PT, .slice cQ ON dQ] 28)) w10.heap.size (.slice aQ PW.length bQ) (.int .i64 PT) (.slice cQ ON dQ) 28 := heap_alloc_new _ _
      generalize w10.alloc (.cells #[.slice aQ PW.length bQ, .int .i64 PT, .slice cQ ON dQ] 28) = w11 at *
      have HT_11 : Hid (Below w.heap.size w w11) := bTrans HT_10.out hb
      have GH_11 : Hid (HI w11 (.agg #[.slice aH W.length bH, .int .i64 t, .slice cH n dH]) W t n E) := GH_10.out.keep hb
      have GA_11 : Hid (ArrI w11 (.agg #[.slice aA s.length bA, .slice cA d.length dA]) s d) := GA_10.out.keep hb
      have QH_11 : Hid (Box3 w11 w1.heap.size (.slice aH W.length bH) (.int .i64 t) (.slice cH n dH) 28) := QH_10.out.keep hb
      have QA_11 : Hid (Box w11 (w1.heap.size + 1) (.slice aA s.length bA) (.slice cA d.length dA) 32) := QA_10.out.keep hb
      have GP_11 : Hid (HI w11 (.agg #[.slice aP OW.length bP, .int .i64 OT, .slice cP ON dP]) OW OT ON OE) := GP_10.out.keep hb
      have QP_11 : Hid (Box3 w11 w3.heap.size (.slice aP OW.length bP) (.int .i64 OT) (.slice cP ON dP) 28) := QP_10.out.keep hb
      have GG_11 : Hid (ArrI w11 (.agg #[.slice aG s.length bG, .slice cG d.length dG]) s d) := GG_10.out.keep hb
      have QG_11 : Hid (Box w11 w8.heap.size (.slice aG s.length bG) (.slice cG d.length dG) 32) := QG_10.out.keep hb
      have GQ_11 : Hid (HI w11 (.agg #[.slice aQ PW.length bQ, .int .i64 PT, .slice cQ ON dQ]) PW PT ON PE) := GQ_10.out.keep hb
      have QQ_11 : Hid (Box3 w11 w10.heap.size (.slice aQ PW.length bQ) (.int .i64 PT) (.slice cQ ON dQ) 28) := hbx
      clear hb hbx HT_10 GH_10 GA_10 QH_10 QA_10 GP_10 QP_10 GG_10 QG_10 GQ_10
      have pQH0 := QH_11.out.c0
      have pQH1 := QH_11.out.c1
      have pQH2 := QH_11.out.c2
      have pQP0 := QP_11.out.c0
      have pQP1 := QP_11.out.c1
      have pQP2 := QP_11.out.c2
      have pQA0 := QA_11.out.c0
      have pQA1 := QA_11.out.c1
      have pQG0 := QG_11.out.c0
      have pQG1 := QG_11.out.c1
      have KB : Hid (∀ V, Below w11.heap.size w11 V → HI V (.agg #[.slice aH W.length bH, .int .i64 t, .slice cH n dH]) W t n E ∧ HI V (.agg #[.slice aP OW.length bP, .int .i64 OT, .slice cP ON dP]) OW OT ON OE ∧ HI V (.agg #[.slice aQ PW.length bQ, .int .i64 PT, .slice cQ ON dQ]) PW PT ON PE ∧ (ArrI V (.agg #[.slice aA s.length bA, .slice cA d.length dA]) s d ∧ ArrI V (.agg #[.slice aG s.length bG, .slice cG d.length dG]) s d) ∧ (V.cell? ⟨w10.heap.size, 0, none⟩ = some (.slice aQ PW.length bQ) ∧ V.cell? ⟨w10.heap.size, 1, none⟩ = some (.int .i64 PT) ∧ V.cell? ⟨w10.heap.size, 2, none⟩ = some (.slice cQ ON dQ)) ∧ (V.cell? ⟨w1.heap.size, 0, none⟩ = some (.slice aH W.length bH) ∧ V.cell? ⟨w1.heap.size, 1, none⟩ = some (.int .i64 t) ∧ V.cell? ⟨w1.heap.size, 2, none⟩ = some (.slice cH n dH) ∧ V.cell? ⟨w3.heap.size, 0, none⟩ = some (.slice aP OW.length bP) ∧ V.cell? ⟨w3.heap.size, 1, none⟩ = some (.int .i64 OT) ∧ V.cell? ⟨w3.heap.size, 2, none⟩ = some (.slice cP ON dP) ∧ V.cell? ⟨w1.heap.size + 1, 0, none⟩ = some (.slice aA s.length bA) ∧ V.cell? ⟨w1.heap.size + 1, 1, none⟩ = some (.slice cA d.length dA) ∧ V.cell? ⟨w8.heap.size, 0, none⟩ = some (.slice aG s.length bG) ∧ V.cell? ⟨w8.heap.size, 1, none⟩ = some (.slice cG d.length dG))) := fun V hb => ⟨GH_11.out.keep hb, GP_11.out.keep hb, GQ_11.out.keep hb, ⟨GA_11.out.keep hb, GG_11.out.keep hb⟩, ⟨(QQ_11.out.keep hb).c0, (QQ_11.out.keep hb).c1, (QQ_11.out.keep hb).c2⟩, (QH_11.out.keep hb).c0, (QH_11.out.keep hb).c1, (QH_11.out.keep hb).c2, (QP_11.out.keep hb).c0, (QP_11.out.keep hb).c1, (QP_11.out.keep hb).c2, (QA_11.out.keep hb).c0, (QA_11.out.keep hb).c1, (QG_11.out.keep hb).c0, (QG_11.out.keep hb).c1⟩
      have hu0 : IntKind.i64.wrap (UU + 1) = UU + 1 := by have := NB.out; rw [IntKind.wrap_i64]; omega
      have hu1 : IntKind.i64.wrap (UU + 1 + (s.length : Int)) = UU + 1 + (s.length : Int) := by have := NB.out; rw [IntKind.wrap_i64]; omega
      have hu2 : IntKind.i64.wrap (UU + 1 + (s.length : Int) + (d.length : Int)) = UU + 1 + (s.length : Int) + (d.length : Int) := by have := NB.out; rw [IntKind.wrap_i64]; omega
      go_region_held3 (fun w' => w'.cell? ⟨w1.heap.size, 0, none⟩ = some (.slice aH W.length bH) ∧ w'.cell? ⟨w1.heap.size, 1, none⟩ = some (.int .i64 t) ∧ w'.cell? ⟨w1.heap.size, 2, none⟩ = some (.slice cH n dH) ∧ w'.cell? ⟨w3.heap.size, 0, none⟩ = some (.slice aP OW.length bP) ∧ w'.cell? ⟨w3.heap.size, 1, none⟩ = some (.int .i64 OT) ∧ w'.cell? ⟨w3.heap.size, 2, none⟩ = some (.slice cP ON dP) ∧ w'.cell? ⟨w1.heap.size + 1, 0, none⟩ = some (.slice aA s.length bA) ∧ w'.cell? ⟨w1.heap.size + 1, 1, none⟩ = some (.slice cA d.length dA) ∧ w'.cell? ⟨w8.heap.size, 0, none⟩ = some (.slice aG s.length bG) ∧ w'.cell? ⟨w8.heap.size, 1, none⟩ = some (.slice cG d.length dG))
        (first | (refine (KB.out _ ?_).2.2.2.2.2; (repeat first | with_reducible exact Below.refl _ _ | with_reducible exact B4.out | with_reducible exact B3.out | with_reducible exact B2.out | with_reducible exact B1.out | with_reducible refine bAlloc ?_ _ | with_reducible refine Below.drew ?_); done) | go_keep)
        (first
          | (go_at_call 22; refine (hsame (KB.out _ (by repeat first | with_reducible exact Below.refl _ _ | with_reducible refine bAlloc ?_ _ | with_reducible refine Below.drew ?_)).2.2.2.1.2 (KB.out _ (by repeat first | with_reducible exact Below.refl _ _ | with_reducible refine bAlloc ?_ _ | with_reducible refine Below.drew ?_)).2.2.2.1.1 NB.out.2.1).mono ?_; rintro r x1 ⟨rfl, hb1⟩; have B1 : Hid (Below w11.heap.size w11 x1) := bTrans (show Below w11.heap.size w11 _ from (by repeat first | with_reducible exact Below.refl _ _ | with_reducible refine bAlloc ?_ _ | with_reducible refine Below.drew ?_)) hb1; clear hb1)
          | (go_at_call 16; refine (CK.out _ _ (KB.out _ (by repeat first | with_reducible exact Below.refl _ _ | with_reducible exact B1.out | with_reducible refine bAlloc ?_ _ | with_reducible refine Below.drew ?_)).2.1).mono ?_; rintro r x2 ⟨rfl, hb2⟩; have B2 : Hid (Below w11.heap.size w11 x2) := bTrans (show Below w11.heap.size w11 _ from (by repeat first | with_reducible exact Below.refl _ _ | with_reducible exact B1.out | with_reducible refine bAlloc ?_ _ | with_reducible refine Below.drew ?_)) hb2; clear hb2)
          | (go_at_call_of 15 (Value.slice aP OW.length bP); refine (CUN.out _ _ (KB.out _ (by repeat first | with_reducible exact Below.refl _ _ | with_reducible exact B2.out | with_reducible refine bAlloc ?_ _ | with_reducible refine Below.drew ?_)).2.1).mono ?_; rintro r x3 ⟨rfl, hb3⟩; have B3 : Hid (Below w11.heap.size w11 x3) := bTrans (show Below w11.heap.size w11 _ from (by repeat first | with_reducible exact Below.refl _ _ | with_reducible exact B2.out | with_reducible refine bAlloc ?_ _ | with_reducible refine Below.drew ?_)) hb3; clear hb3)
          | (go_at_call_of 15 (Value.slice aH W.length bH); refine (CUH.out _ _ (KB.out _ (by repeat first | with_reducible exact Below.refl _ _ | with_reducible exact B3.out | with_reducible refine bAlloc ?_ _ | with_reducible refine Below.drew ?_)).1).mono ?_; rintro r x4 ⟨rfl, hb4⟩; have B4 : Hid (Below w11.heap.size w11 x4) := bTrans (show Below w11.heap.size w11 _ from (by repeat first | with_reducible exact Below.refl _ _ | with_reducible exact B3.out | with_reducible refine bAlloc ?_ _ | with_reducible refine Below.drew ?_)) hb4; clear hb4))
      all_goals
        clear pQH0 pQH1 pQH2 pQP0 pQP1 pQP2 pQA0 pQA1 pQG0 pQG1 hu0 hu1 hu2
        have BX : Hid (Below w11.heap.size w11 x4) := B4.out
        clear B1 B2 B3 B4
        go_wp2_with fail
        go_loopw [15] (fun i w' => ∃ k : Nat, k ≤ n ∧ i = .int .i64 (k : Int) ∧ Below w11.heap.size w11 w') (fun i _ => n - (intOf i).toNat)
        case atStart => exact ⟨0, by omega, rfl, BX.out⟩
        case round =>
          obtain ⟨k, hk, rfl, hr⟩ := hrel
          have BR : Hid (Below w11.heap.size w11 wr) := hr
          have ph0 := (KB.out wr hr).2.2.2.2.2.1
          have ph1 := (KB.out wr hr).2.2.2.2.2.2.1
          have ph2 := (KB.out wr hr).2.2.2.2.2.2.2.1
          clear hr BX
          have hnb := NB.out.1
          by_cases hlt : (k : Int) < (n : Int)
          · obtain ⟨gb, gs, gd, gb', gs', gd', hle, heq, cs, ci, cj⟩ := CG.out k (by omega)
            have CGS : Hid (∀ (V : World) (v : Value), HI V v W t n E → Calls Try.prog 20 #[v, .int .i64 (k : Int)] V fun e w' => ∃ v', e = .returned (.tuple #[v', .bool gb]) ∧ ArrI w' v' gs gd ∧ Below V.heap.size V w') := cs
            have CGI : Hid (∀ (V : World) (v : Value), HI V v OW OT ON OE → Calls Try.prog 21 #[v, .int .i64 (k : Int)] V fun e w' => ∃ v', e = .returned (.tuple #[v', .bool gb']) ∧ ArrI w' v' gs' gd' ∧ Below V.heap.size V w') := ci
            have CGJ : Hid (∀ (V : World) (v : Value), HI V v PW PT ON PE → Calls Try.prog 21 #[v, .int .i64 (k : Int)] V fun e w' => ∃ v', e = .returned (.tuple #[v', .bool gb']) ∧ ArrI w' v' gs' gd' ∧ Below V.heap.size V w') := cj
            have LE : Hid (gs.length ≤ 1048576 ∧ gd.length ≤ 1048576) := hle
            have EQ : Hid (gb = true → gb' = true ∧ gs' = gs ∧ gd' = gd) := heq
            clear hle heq cs ci cj
            go_wp2_with fail
            refine (CGS.out _ _ (KB.out _ BR.out).1).mono ?_
            rintro r r1 ⟨vX, rfl, ha, hb⟩
            obtain ⟨aX, bX, cX, dX, rfl⟩ := ha.form
            have BR1 : Hid (Below w11.heap.size w11 r1) := bTrans BR.out hb
            have AX1 : Hid (ArrI r1 (.agg #[.slice aX gs.length bX, .slice cX gd.length dX]) gs gd) := ha
            clear ha hb ph0 ph1 ph2
            have ph0 := (KB.out _ BR1.out).2.2.2.2.2.2.2.2.1
            have ph1 := (KB.out _ BR1.out).2.2.2.2.2.2.2.2.2.1
            have ph2 := (KB.out _ BR1.out).2.2.2.2.2.2.2.2.2.2.1
            have pd0 := fun ob => (KB.out _ (bAlloc BR1.out ob)).2.2.2.2.2.2.2.2.1
            have pd1 := fun ob => (KB.out _ (bAlloc BR1.out ob)).2.2.2.2.2.2.2.2.2.1
            have pd2 := fun ob => (KB.out _ (bAlloc BR1.out ob)).2.2.2.2.2.2.2.2.2.2.1
            go_wp2_with fail
            clear ph0 ph1 ph2 pd0 pd1 pd2
            have hbx : Box (r1.alloc (.cells #[.slice aX gs.length bX, .slice cX gd.length dX] 32)) r1.heap.size (.slice aX gs.length bX) (.slice cX gd.length dX) 32 := heap_alloc_new _ _
            have hb : Below r1.heap.size r1 (r1.alloc (.cells #[.slice aX gs.length bX, .slice cX gd.length dX] 32)) := bAlloc (Below.refl _ _) _
            generalize r1.alloc (.cells #[.slice aX gs.length bX, .slice cX gd.length dX] 32) = r2 at *
            have BR2 : Hid (Below w11.heap.size w11 r2) := bTrans BR1.out hb
            have AX2 : Hid (ArrI r2 (.agg #[.slice aX gs.length bX, .slice cX gd.length dX]) gs gd) := AX1.out.keep hb
            have QX2 : Hid (Box r2 r1.heap.size (.slice aX gs.length bX) (.slice cX gd.length dX) 32) := hbx
            clear hb hbx AX1
            refine (CGI.out _ _ (KB.out _ BR2.out).2.1).mono ?_
            rintro r r3 ⟨vY, rfl, ha, hb⟩
            obtain ⟨aY, bY, cY, dY, rfl⟩ := ha.form
            have BR3 : Hid (Below w11.heap.size w11 r3) := bTrans BR2.out hb
            have AY3 : Hid (ArrI r3 (.agg #[.slice aY gs'.length bY, .slice cY gd'.length dY]) gs' gd') := ha
            have AX3 : Hid (ArrI r3 (.agg #[.slice aX gs.length bX, .slice cX gd.length dX]) gs gd) := AX2.out.keep hb
            have QX3 : Hid (Box r3 r1.heap.size (.slice aX gs.length bX) (.slice cX gd.length dX) 32) := QX2.out.keep hb
            clear ha hb AX2 QX2
            have ph0 := (KB.out _ BR3.out).2.2.2.2.1.1
            have ph1 := (KB.out _ BR3.out).2.2.2.2.1.2.1
            have ph2 := (KB.out _ BR3.out).2.2.2.2.1.2.2
            have pd0 := fun ob => (KB.out _ (bAlloc BR3.out ob)).2.2.2.2.1.1
            have pd1 := fun ob => (KB.out _ (bAlloc BR3.out ob)).2.2.2.2.1.2.1
            have pd2 := fun ob => (KB.out _ (bAlloc BR3.out ob)).2.2.2.2.1.2.2
            go_wp2_with fail
            clear ph0 ph1 ph2 pd0 pd1 pd2
            have hbx : Box (r3.alloc (.cells #[.slice aY gs'.length bY, .slice cY gd'.length dY] 32)) r3.heap.size (.slice aY gs'.length bY) (.slice cY gd'.length dY) 32 := heap_alloc_new _ _
            have hb : Below r3.heap.size r3 (r3.alloc (.cells #[.slice aY gs'.length bY, .slice cY gd'.length dY] 32)) := bAlloc (Below.refl _ _) _
            generalize r3.alloc (.cells #[.slice aY gs'.length bY, .slice cY gd'.length dY] 32) = r4 at *
            have BR4 : Hid (Below w11.heap.size w11 r4) := bTrans BR3.out hb
            have AX4 : Hid (ArrI r4 (.agg #[.slice aX gs.length bX, .slice cX gd.length dX]) gs gd) := AX3.out.keep hb
            have AY4 : Hid (ArrI r4 (.agg #[.slice aY gs'.length bY, .slice cY gd'.length dY]) gs' gd') := AY3.out.keep hb
            have QX4 : Hid (Box r4 r1.heap.size (.slice aX gs.length bX) (.slice cX gd.length dX) 32) := QX3.out.keep hb
            have QY4 : Hid (Box r4 r3.heap.size (.slice aY gs'.length bY) (.slice cY gd'.length dY) 32) := hbx
            clear hb hbx AX3 AY3 QX3
            refine (CGJ.out _ _ (KB.out _ BR4.out).2.2.1).mono ?_
            rintro r r5 ⟨vZ, rfl, ha, hb⟩
            obtain ⟨aZ, bZ, cZ, dZ, rfl⟩ := ha.form
            have BR5 : Hid (Below w11.heap.size w11 r5) := bTrans BR4.out hb
            have AZ5 : Hid (ArrI r5 (.agg #[.slice aZ gs'.length bZ, .slice cZ gd'.length dZ]) gs' gd') := ha
            have AX5 : Hid (ArrI r5 (.agg #[.slice aX gs.length bX, .slice cX gd.length dX]) gs gd) := AX4.out.keep hb
            have AY5 : Hid (ArrI r5 (.agg #[.slice aY gs'.length bY, .slice cY gd'.length dY]) gs' gd') := AY4.out.keep hb
            have QX5 : Hid (Box r5 r1.heap.size (.slice aX gs.length bX) (.slice cX gd.length dX) 32) := QX4.out.keep hb
            have QY5 : Hid (Box r5 r3.heap.size (.slice aY gs'.length bY) (.slice cY gd'.length dY) 32) := QY4.out.keep hb
            clear ha hb AX4 AY4 QX4 QY4
            cases gb
            · go_wp2
              go_roundw
              case rel => exact ⟨k + 1, by omega, by go_num, bAlloc BR5.out _⟩
              case measure => simp [intOf]; omega
            · obtain ⟨rfl, rfl, rfl⟩ := EQ.out rfl
              have ph0 := QX5.out.c0
              have ph1 := QX5.out.c1
              have pd0 : ∀ ob : Obj, (r5.alloc ob).cell? ⟨r1.heap.size, 0, none⟩ = some (.slice aX gs'.length bX) := fun ob => (QX5.out.keep (bAlloc (Below.refl _ _) ob)).c0
              have pd1 : ∀ ob : Obj, (r5.alloc ob).cell? ⟨r1.heap.size, 1, none⟩ = some (.slice cX gd'.length dX) := fun ob => (QX5.out.keep (bAlloc (Below.refl _ _) ob)).c1
              have py0 := QY5.out.c0
              have py1 := QY5.out.c1
              have pe0 : ∀ ob : Obj, (r5.alloc ob).cell? ⟨r3.heap.size, 0, none⟩ = some (.slice aY gs'.length bY) := fun ob => (QY5.out.keep (bAlloc (Below.refl _ _) ob)).c0
              have pe1 : ∀ ob : Obj, (r5.alloc ob).cell? ⟨r3.heap.size, 1, none⟩ = some (.slice cY gd'.length dY) := fun ob => (QY5.out.keep (bAlloc (Below.refl _ _) ob)).c1
              go_wp2_with fail
              clear ph0 ph1 pd0 pd1 py0 py1 pe0 pe1
              have hb : Below r5.heap.size r5 (r5.alloc (.cells #[.slice aZ gs'.length bZ, .slice cZ gd'.length dZ] 32)) := bAlloc (Below.refl _ _) _
              have hbz : Box (r5.alloc (.cells #[.slice aZ gs'.length bZ, .slice cZ gd'.length dZ] 32)) r5.heap.size (.slice aZ gs'.length bZ) (.slice cZ gd'.length dZ) 32 := heap_alloc_new _ _
              generalize r5.alloc (.cells #[.slice aZ gs'.length bZ, .slice cZ gd'.length dZ] 32) = r6 at *
              have BR6 : Hid (Below w11.heap.size w11 r6) := bTrans BR5.out hb
              have AX6 : Hid (ArrI r6 (.agg #[.slice aX gs'.length bX, .slice cX gd'.length dX]) gs' gd') := AX5.out.keep hb
              have AZ6 : Hid (ArrI r6 (.agg #[.slice aZ gs'.length bZ, .slice cZ gd'.length dZ]) gs' gd') := AZ5.out.keep hb
              have QX6 : Hid (Box r6 r1.heap.size (.slice aX gs'.length bX) (.slice cX gd'.length dX) 32) := QX5.out.keep hb
              have QZ6 : Hid (Box r6 r5.heap.size (.slice aZ gs'.length bZ) (.slice cZ gd'.length dZ) 32) := hbz
              refine (hsame AX6.out (AY5.out.keep hb) LE.out).mono ?_
              rintro r r7 ⟨rfl, hb7⟩
              have BR7 : Hid (Below w11.heap.size w11 r7) := bTrans BR6.out hb7
              have AX7 : Hid (ArrI r7 (.agg #[.slice aX gs'.length bX, .slice cX gd'.length dX]) gs' gd') := AX6.out.keep hb7
              have AZ7 : Hid (ArrI r7 (.agg #[.slice aZ gs'.length bZ, .slice cZ gd'.length dZ]) gs' gd') := AZ6.out.keep hb7
              have ph0 := (QX6.out.keep hb7).c0
              have ph1 := (QX6.out.keep hb7).c1
              have pz0 := (QZ6.out.keep hb7).c0
              have pz1 := (QZ6.out.keep hb7).c1
              clear hb hbz hb7
              go_wp2_with fail
              clear ph0 ph1 pz0 pz1
              refine (hsame AX7.out AZ7.out LE.out).mono ?_
              rintro r r8 ⟨rfl, hb8⟩
              have BR8 : Hid (Below w11.heap.size w11 r8) := bTrans BR7.out hb8
              clear hb8
              go_wp2
              go_roundw
              case rel => exact ⟨k + 1, by omega, by go_num, BR8.out⟩
              case measure => simp [intOf]; omega
          · go_wp2
            go_ret
            exact ⟨rfl, bTrans HT_11.out BR.out⟩
  · skip
    have hB0 : outB W t n E s d = false := by simpa using hB
    clear hB
    have hB := hB0
    clear hB0
    have PN := put_none hB
    obtain ⟨OI, hOI⟩ : ∃ y, y = outI W t n E s d := ⟨_, rfl⟩
    obtain ⟨OW, hOW⟩ : ∃ y, y = outW W t n E s d := ⟨_, rfl⟩
    obtain ⟨OT, hOT⟩ : ∃ y, y = outT W t n E s d := ⟨_, rfl⟩
    obtain ⟨ON, hON⟩ : ∃ y, y = outN W t n E s d := ⟨_, rfl⟩
    obtain ⟨OE, hOE⟩ : ∃ y, y = outE W t n E s d := ⟨_, rfl⟩
    have CP : Hid (∀ (V : World) (v u : Value), HI V v W t n E → ArrI V u s d → Calls Try.prog 14 #[v, u] V fun e w' => ∃ v', e = .returned (.tuple #[v', .int .i64 OI, .bool false]) ∧ HI w' v' OW OT ON OE ∧ Below V.heap.size V w') := fun V v u h k => by
      have q := hputI HV.out h k HD.out
      rw [hB, ← hOI, ← hOW, ← hOT, ← hON, ← hOE] at q
      exact q
    have CS : Hid (∀ (V : World) (v u : Value), HI V v W t n E → ArrI V u s d → Calls Try.prog 18 #[v, u] V fun e w' => ∃ v', e = .returned (.tuple #[v', .int .i64 OI, .bool false]) ∧ HI w' v' OW OT ON OE ∧ Below V.heap.size V w') := fun V v u h k => by
      have q := hputS HV.out h k HD.out
      rw [hB, ← hOI, ← hOW, ← hOT, ← hON, ← hOE] at q
      exact q
    rw [← hOI, ← hON, ← hOW] at PN
    have HN : Hid (OI = -1 ∧ (ON = n ∨ OW.length = 0)) := PN
    clear hOI hOW hOT hON hOE hB PN hUU
    go_wp2_with fail
    have hb : Below w1.heap.size w1 ((w1.alloc (.cells #[.slice aH W.length bH, .int .i64 t, .slice cH n dH] 28)).alloc (.cells #[.slice aA s.length bA, .slice cA d.length dA] 32)) := bAlloc (bAlloc (Below.refl _ _) _) _
    have hbx : Box3 ((w1.alloc (.cells #[.slice aH W.length bH, .int .i64 t, .slice cH n dH] 28)).alloc (.cells #[.slice aA s.length bA, .slice cA d.length dA] 32)) w1.heap.size (.slice aH W.length bH) (.int .i64 t) (.slice cH n dH) 28 := (box3_new _ _ _ _ _).alloc _
    have hby : Box ((w1.alloc (.cells #[.slice aH W.length bH, .int .i64 t, .slice cH n dH] 28)).alloc (.cells #[.slice aA s.length bA, .slice cA d.length dA] 32)) (w1.heap.size + 1) (.slice aA s.length bA) (.slice cA d.length dA) 32 := by
      have := box_new (w1.alloc (.cells #[.slice aH W.length bH, .int .i64 t, .slice cH n dH] 28)) (.slice aA s.length bA) (.slice cA d.length dA) 32
      simpa using this
    generalize (w1.alloc (.cells #[.slice aH W.length bH, .int .i64 t, .slice cH n dH] 28)).alloc (.cells #[.slice aA s.length bA, .slice cA d.length dA] 32) = w2 at *
    have HT_2 : Hid (Below w.heap.size w w2) := bTrans HT_1.out hb
    have GH_2 : Hid (HI w2 (.agg #[.slice aH W.length bH, .int .i64 t, .slice cH n dH]) W t n E) := GH_1.out.keep hb
    have GA_2 : Hid (ArrI w2 (.agg #[.slice aA s.length bA, .slice cA d.length dA]) s d) := GA_1.out.keep hb
    have QH_2 : Hid (Box3 w2 w1.heap.size (.slice aH W.length bH) (.int .i64 t) (.slice cH n dH) 28) := hbx
    have QA_2 : Hid (Box w2 (w1.heap.size + 1) (.slice aA s.length bA) (.slice cA d.length dA) 32) := hby
    clear hb hbx hby HT_1 GH_1 GA_1
    refine (CP.out _ _ _ GH_2.out GA_2.out).mono ?_
    rintro r w3 ⟨vP, rfl, hO, hb⟩
    obtain ⟨aP, bP, cP, dP, rfl⟩ := hO.form
    have HT_3 : Hid (Below w.heap.size w w3) := bTrans HT_2.out hb
    have GH_3 : Hid (HI w3 (.agg #[.slice aH W.length bH, .int .i64 t, .slice cH n dH]) W t n E) := GH_2.out.keep hb
    have GA_3 : Hid (ArrI w3 (.agg #[.slice aA s.length bA, .slice cA d.length dA]) s d) := GA_2.out.keep hb
    have QH_3 : Hid (Box3 w3 w1.heap.size (.slice aH W.length bH) (.int .i64 t) (.slice cH n dH) 28) := QH_2.out.keep hb
    have QA_3 : Hid (Box w3 (w1.heap.size + 1) (.slice aA s.length bA) (.slice cA d.length dA) 32) := QA_2.out.keep hb
    have GP_3 : Hid (HI w3 (.agg #[.slice aP OW.length bP, .int .i64 OT, .slice cP ON dP]) OW OT ON OE) := hO
    clear hb hO HT_2 GH_2 GA_2 QH_2 QA_2
    have pQH0 := QH_3.out.c0
    have dQH0 : ∀ ob : Obj, (w3.alloc ob).cell? ⟨w1.heap.size, 0, none⟩ = some (.slice aH W.length bH) := fun ob => (QH_3.out.keep (bAlloc (Below.refl _ _) ob)).c0
    have pQH1 := QH_3.out.c1
    have dQH1 : ∀ ob : Obj, (w3.alloc ob).cell? ⟨w1.heap.size, 1, none⟩ = some (.int .i64 t) := fun ob => (QH_3.out.keep (bAlloc (Below.refl _ _) ob)).c1
    have pQH2 := QH_3.out.c2
    have dQH2 : ∀ ob : Obj, (w3.alloc ob).cell? ⟨w1.heap.size, 2, none⟩ = some (.slice cH n dH) := fun ob => (QH_3.out.keep (bAlloc (Below.refl _ _) ob)).c2
    have pQA0 := QA_3.out.c0
    have dQA0 : ∀ ob : Obj, (w3.alloc ob).cell? ⟨w1.heap.size + 1, 0, none⟩ = some (.slice aA s.length bA) := fun ob => (QA_3.out.keep (bAlloc (Below.refl _ _) ob)).c0
    have pQA1 := QA_3.out.c1
    have dQA1 : ∀ ob : Obj, (w3.alloc ob).cell? ⟨w1.heap.size + 1, 1, none⟩ = some (.slice cA d.length dA) := fun ob => (QA_3.out.keep (bAlloc (Below.refl _ _) ob)).c1
    go_wp2_with fail
    clear pQH0 dQH0 pQH1 dQH1 pQH2 dQH2 pQA0 dQA0 pQA1 dQA1
    have hb : Below w3.heap.size w3 (w3.alloc (.cells #[.slice aP OW.length bP, .int .i64 OT, .slice cP ON dP] 28)) := bAlloc (Below.refl _ _) _
    have hbx : Box3 (w3.alloc (.cells #[.slice aP OW.length bP, .int .i64 OT, .slice cP ON dP] 28)) w3.heap.size (.slice aP OW.length bP) (.int .i64 OT) (.slice cP ON dP) 28 := heap_alloc_new _ _
    generalize w3.alloc (.cells #[.slice aP OW.length bP, .int .i64 OT, .slice cP ON dP] 28) = w4 at *
    have HT_4 : Hid (Below w.heap.size w w4) := bTrans HT_3.out hb
    have GH_4 : Hid (HI w4 (.agg #[.slice aH W.length bH, .int .i64 t, .slice cH n dH]) W t n E) := GH_3.out.keep hb
    have GA_4 : Hid (ArrI w4 (.agg #[.slice aA s.length bA, .slice cA d.length dA]) s d) := GA_3.out.keep hb
    have QH_4 : Hid (Box3 w4 w1.heap.size (.slice aH W.length bH) (.int .i64 t) (.slice cH n dH) 28) := QH_3.out.keep hb
    have QA_4 : Hid (Box w4 (w1.heap.size + 1) (.slice aA s.length bA) (.slice cA d.length dA) 32) := QA_3.out.keep hb
    have GP_4 : Hid (HI w4 (.agg #[.slice aP OW.length bP, .int .i64 OT, .slice cP ON dP]) OW OT ON OE) := GP_3.out.keep hb
    have QP_4 : Hid (Box3 w4 w3.heap.size (.slice aP OW.length bP) (.int .i64 OT) (.slice cP ON dP) 28) := hbx
    clear hb hbx HT_3 GH_3 GA_3 QH_3 QA_3 GP_3
    refine (CS.out _ _ _ GH_4.out GA_4.out).mono ?_
    rintro r w5 ⟨vS, rfl, hO, hb⟩
    obtain ⟨aS, bS, cS, dS, rfl⟩ := hO.form
    have HT_5 : Hid (Below w.heap.size w w5) := bTrans HT_4.out hb
    have GH_5 : Hid (HI w5 (.agg #[.slice aH W.length bH, .int .i64 t, .slice cH n dH]) W t n E) := GH_4.out.keep hb
    have GA_5 : Hid (ArrI w5 (.agg #[.slice aA s.length bA, .slice cA d.length dA]) s d) := GA_4.out.keep hb
    have QH_5 : Hid (Box3 w5 w1.heap.size (.slice aH W.length bH) (.int .i64 t) (.slice cH n dH) 28) := QH_4.out.keep hb
    have QA_5 : Hid (Box w5 (w1.heap.size + 1) (.slice aA s.length bA) (.slice cA d.length dA) 32) := QA_4.out.keep hb
    have GP_5 : Hid (HI w5 (.agg #[.slice aP OW.length bP, .int .i64 OT, .slice cP ON dP]) OW OT ON OE) := GP_4.out.keep hb
    have QP_5 : Hid (Box3 w5 w3.heap.size (.slice aP OW.length bP) (.int .i64 OT) (.slice cP ON dP) 28) := QP_4.out.keep hb
    clear hb hO HT_4 GH_4 GA_4 QH_4 QA_4 GP_4 QP_4
    have pQH0 := QH_5.out.c0
    have dQH0 : ∀ ob : Obj, (w5.alloc ob).cell? ⟨w1.heap.size, 0, none⟩ = some (.slice aH W.length bH) := fun ob => (QH_5.out.keep (bAlloc (Below.refl _ _) ob)).c0
    have pQH1 := QH_5.out.c1
    have dQH1 : ∀ ob : Obj, (w5.alloc ob).cell? ⟨w1.heap.size, 1, none⟩ = some (.int .i64 t) := fun ob => (QH_5.out.keep (bAlloc (Below.refl _ _) ob)).c1
    have pQH2 := QH_5.out.c2
    have dQH2 : ∀ ob : Obj, (w5.alloc ob).cell? ⟨w1.heap.size, 2, none⟩ = some (.slice cH n dH) := fun ob => (QH_5.out.keep (bAlloc (Below.refl _ _) ob)).c2
    have pQA0 := QA_5.out.c0
    have dQA0 : ∀ ob : Obj, (w5.alloc ob).cell? ⟨w1.heap.size + 1, 0, none⟩ = some (.slice aA s.length bA) := fun ob => (QA_5.out.keep (bAlloc (Below.refl _ _) ob)).c0
    have pQA1 := QA_5.out.c1
    have dQA1 : ∀ ob : Obj, (w5.alloc ob).cell? ⟨w1.heap.size + 1, 1, none⟩ = some (.slice cA d.length dA) := fun ob => (QA_5.out.keep (bAlloc (Below.refl _ _) ob)).c1
    have pQP0 := QP_5.out.c0
    have dQP0 : ∀ ob : Obj, (w5.alloc ob).cell? ⟨w3.heap.size, 0, none⟩ = some (.slice aP OW.length bP) := fun ob => (QP_5.out.keep (bAlloc (Below.refl _ _) ob)).c0
    have pQP1 := QP_5.out.c1
    have dQP1 : ∀ ob : Obj, (w5.alloc ob).cell? ⟨w3.heap.size, 1, none⟩ = some (.int .i64 OT) := fun ob => (QP_5.out.keep (bAlloc (Below.refl _ _) ob)).c1
    have pQP2 := QP_5.out.c2
    have dQP2 : ∀ ob : Obj, (w5.alloc ob).cell? ⟨w3.heap.size, 2, none⟩ = some (.slice cP ON dP) := fun ob => (QP_5.out.keep (bAlloc (Below.refl _ _) ob)).c2
    go_wp2_with fail
    clear pQH0 dQH0 pQH1 dQH1 pQH2 dQH2 pQA0 dQA0 pQA1 dQA1 pQP0 dQP0 pQP1 dQP1 pQP2 dQP2
    have hb : Below w5.heap.size w5 (w5.alloc (.cells #[.slice aS OW.length bS, .int .i64 OT, .slice cS ON dS] 28)) := bAlloc (Below.refl _ _) _
    generalize w5.alloc (.cells #[.slice aS OW.length bS, .int .i64 OT, .slice cS ON dS] 28) = w6 at *
    have HT_6 : Hid (Below w.heap.size w w6) := bTrans HT_5.out hb
    have GH_6 : Hid (HI w6 (.agg #[.slice aH W.length bH, .int .i64 t, .slice cH n dH]) W t n E) := GH_5.out.keep hb
    have GA_6 : Hid (ArrI w6 (.agg #[.slice aA s.length bA, .slice cA d.length dA]) s d) := GA_5.out.keep hb
    have QH_6 : Hid (Box3 w6 w1.heap.size (.slice aH W.length bH) (.int .i64 t) (.slice cH n dH) 28) := QH_5.out.keep hb
    have QA_6 : Hid (Box w6 (w1.heap.size + 1) (.slice aA s.length bA) (.slice cA d.length dA) 32) := QA_5.out.keep hb
    have GP_6 : Hid (HI w6 (.agg #[.slice aP OW.length bP, .int .i64 OT, .slice cP ON dP]) OW OT ON OE) := GP_5.out.keep hb
    have QP_6 : Hid (Box3 w6 w3.heap.size (.slice aP OW.length bP) (.int .i64 OT) (.slice cP ON dP) 28) := QP_5.out.keep hb
    clear hb  HT_5 GH_5 GA_5 QH_5 QA_5 GP_5 QP_5
    have pQH0 := QH_6.out.c0
    have pQH1 := QH_6.out.c1
    have pQH2 := QH_6.out.c2
    have hxx : (HK != HK) = false := by simp
    have hoo : (OI != OI) = false := by simp
    have KA : Hid (∀ V, Below w6.heap.size w6 V → HI V (.agg #[.slice aH W.length bH, .int .i64 t, .slice cH n dH]) W t n E ∧ (V.cell? ⟨w1.heap.size, 0, none⟩ = some (.slice aH W.length bH) ∧ V.cell? ⟨w1.heap.size, 1, none⟩ = some (.int .i64 t) ∧ V.cell? ⟨w1.heap.size, 2, none⟩ = some (.slice cH n dH))) := fun V hb => ⟨GH_6.out.keep hb, (QH_6.out.keep hb).c0, (QH_6.out.keep hb).c1, (QH_6.out.keep hb).c2⟩
    go_region_held3 (fun w' => w'.cell? ⟨w1.heap.size, 0, none⟩ = some (.slice aH W.length bH) ∧ w'.cell? ⟨w1.heap.size, 1, none⟩ = some (.int .i64 t) ∧ w'.cell? ⟨w1.heap.size, 2, none⟩ = some (.slice cH n dH))
      (first | (refine (KA.out _ ?_).2; (repeat first | with_reducible exact Below.refl _ _ | with_reducible exact B2.out | with_reducible exact B1.out | with_reducible refine bAlloc ?_ _ | with_reducible refine Below.drew ?_); done) | go_keep)
      (first
        | (go_at_call 16; refine (CKI.out _ _ (KA.out _ (by repeat first | with_reducible exact Below.refl _ _ | with_reducible refine bAlloc ?_ _ | with_reducible refine Below.drew ?_)).1).mono ?_; rintro r x1 ⟨rfl, hb1⟩; have B1 : Hid (Below w6.heap.size w6 x1) := bTrans (show Below w6.heap.size w6 _ from (by repeat first | with_reducible exact Below.refl _ _ | with_reducible refine bAlloc ?_ _ | with_reducible refine Below.drew ?_)) hb1; clear hb1)
        | (go_at_call 25; refine (CKS.out _ _ (KA.out _ (by repeat first | with_reducible exact Below.refl _ _ | with_reducible exact B1.out | with_reducible refine bAlloc ?_ _ | with_reducible refine Below.drew ?_)).1).mono ?_; rintro r x2 ⟨rfl, hb2⟩; have B2 : Hid (Below w6.heap.size w6 x2) := bTrans (show Below w6.heap.size w6 _ from (by repeat first | with_reducible exact Below.refl _ _ | with_reducible exact B1.out | with_reducible refine bAlloc ?_ _ | with_reducible refine Below.drew ?_)) hb2; clear hb2))
    all_goals
      clear pQH0 pQH1 pQH2
      have hb := B2.out
      have HT_7 : Hid (Below w.heap.size w x2) := bTrans HT_6.out hb
      have GH_7 : Hid (HI x2 (.agg #[.slice aH W.length bH, .int .i64 t, .slice cH n dH]) W t n E) := GH_6.out.keep hb
      have GA_7 : Hid (ArrI x2 (.agg #[.slice aA s.length bA, .slice cA d.length dA]) s d) := GA_6.out.keep hb
      have QH_7 : Hid (Box3 x2 w1.heap.size (.slice aH W.length bH) (.int .i64 t) (.slice cH n dH) 28) := QH_6.out.keep hb
      have QA_7 : Hid (Box x2 (w1.heap.size + 1) (.slice aA s.length bA) (.slice cA d.length dA) 32) := QA_6.out.keep hb
      have GP_7 : Hid (HI x2 (.agg #[.slice aP OW.length bP, .int .i64 OT, .slice cP ON dP]) OW OT ON OE) := GP_6.out.keep hb
      have QP_7 : Hid (Box3 x2 w3.heap.size (.slice aP OW.length bP) (.int .i64 OT) (.slice cP ON dP) 28) := QP_6.out.keep hb
      clear hb B1 B2 KA hxx HT_6 GH_6 GA_6 QH_6 QA_6 GP_6 QP_6
      obtain ⟨w7, hwx⟩ : ∃ y, y = x2 := ⟨_, rfl⟩
      subst hwx
      have pQH0 := QH_7.out.c0
      have dQH0 : ∀ ob : Obj, (w7.alloc ob).cell? ⟨w1.heap.size, 0, none⟩ = some (.slice aH W.length bH) := fun ob => (QH_7.out.keep (bAlloc (Below.refl _ _) ob)).c0
      have pQH1 := QH_7.out.c1
      have dQH1 : ∀ ob : Obj, (w7.alloc ob).cell? ⟨w1.heap.size, 1, none⟩ = some (.int .i64 t) := fun ob => (QH_7.out.keep (bAlloc (Below.refl _ _) ob)).c1
      have pQH2 := QH_7.out.c2
      have dQH2 : ∀ ob : Obj, (w7.alloc ob).cell? ⟨w1.heap.size, 2, none⟩ = some (.slice cH n dH) := fun ob => (QH_7.out.keep (bAlloc (Below.refl _ _) ob)).c2
      have pQP0 := QP_7.out.c0
      have dQP0 : ∀ ob : Obj, (w7.alloc ob).cell? ⟨w3.heap.size, 0, none⟩ = some (.slice aP OW.length bP) := fun ob => (QP_7.out.keep (bAlloc (Below.refl _ _) ob)).c0
      have pQP1 := QP_7.out.c1
      have dQP1 : ∀ ob : Obj, (w7.alloc ob).cell? ⟨w3.heap.size, 1, none⟩ = some (.int .i64 OT) := fun ob => (QP_7.out.keep (bAlloc (Below.refl _ _) ob)).c1
      have pQP2 := QP_7.out.c2
      have dQP2 : ∀ ob : Obj, (w7.alloc ob).cell? ⟨w3.heap.size, 2, none⟩ = some (.slice cP ON dP) := fun ob => (QP_7.out.keep (bAlloc (Below.refl _ _) ob)).c2
      have ho : (OI == -1) = true := by rw [HN.out.1]; rfl
      by_cases hn : ((ON : Int) == (n : Int)) = true
      · go_wp2
        go_ret
        exact ⟨by simp [HN.out.1], HT_7.out⟩
      · have hn' : ((ON : Int) == (n : Int)) = false := by simpa using hn
        have hz : ((OW.length : Int) == 0) = true := by
          rcases HN.out.2 with h | h
          · simp [h] at hn
          · simp [h]
        go_wp2
        go_ret
        exact ⟨by simp [HN.out.1], HT_7.out⟩

/-! ### THE ROW's STEP: WRITTEN OUT: LEAVE IT -/
set_option maxRecDepth 100000 in
theorem lifted (os : Os) (started : os.Started) (H : Type) (enc : TypeId × Value → H) :
    ReturnsInHanded {} Try.checked os 6 .any (Rows.fnHeapSpec.pre6 enc Try.prog Try.f6 Rows.fnHeapRow.domain false) (Rows.fnHeapSpec.post enc Try.prog Try.f6 false true false false) := by
  refine returnsInHanded_of_change (C := Try.checked) own started (by kernel_rfl) Try.func6
    (ChangeSpec.witness6 (enc := enc) (C := Try.checked) false ⟨#[], #[.slice none 0 0], []⟩ 8 (by kernel_rfl) (by kernel_rfl) (by kernel_rfl) (by kernel_rfl)) ?_
  intro W base args ds gs before hval0 hW hcnd _
  have hval : ∀ (j : Nat) t v, Try.f6.params[j]? = some t → args[j]? = some v → Value.okWide Try.prog W .any base t v := hval0
  have hW' := hW
  obtain ⟨p, q, hA0, hV, rfl, hfz, hnd⟩ := hW
  have hA : DataW.TrodAll enc Try.prog W 0 (fun _ => true) true Try.f6.params.toList args.toList ds p := hA0
  rw [Try.params6] at hA hval
  obtain ⟨v0, vs0, d0, ds0, p0, q0, hargs, rfl, rfl, h0, r0⟩ := trodAll_cons hA
  obtain ⟨rfl, rfl, rfl⟩ := trodAll_nil r0
  obtain rfl : args = #[v0] := by cases args; simp_all
  obtain ⟨rfl, rfl⟩ := trodVars_none hV
  obtain ⟨a0, len0, cap0, rfl⟩ := okWide_slice Try.underlying22 (hval 0 22 v0 rfl rfl)
  have k0 := h0
  have lt0 : ∀ x ∈ p0, x.block < W.heap.size := by obtain ⟨m, hm⟩ := k0; exact DataW.trod_lt m _ _ _ hm
  obtain ⟨z0, w0⟩ : ∃ zs, IsRow .u8 W a0 len0 cap0 zs := by
    obtain ⟨fuel, hf⟩ := h0
    rcases open_ints Try.underlying22 Try.underlying5 (by kernel_rfl) hf with ⟨hcs, _⟩ | ⟨x, l, c, zs, hcs, _, hl, hm, hz, _, hcell, hwz⟩
    · simp [Value.cells] at hcs
      obtain ⟨rfl, rfl, rfl⟩ := hcs
      exact ⟨[], .inl ⟨rfl, rfl, rfl, rfl⟩⟩
    · simp [Value.cells] at hcs
      obtain ⟨rfl, rfl, rfl⟩ := hcs
      exact ⟨zs, .inr ⟨_, rfl, hl, hm, by simpa using hz, hcell, hwz⟩⟩
  clear hA0 hval0
  refine (walk a0 len0 cap0 z0 W w0).mono fun e W' ⟨he, bel⟩ => ?_
  subst he
  exact ⟨_, rfl, _, _, _, [], _, [], hW', trodAll_mk1 (shut_bool Try.underlying4 _), (trodAll_cons_mk (Below.trod laidOut (by kernel_rfl) (of_decide_eq_true (by kernel_rfl)) k0 bel lt0) trodAll_mk0), rfl, bel.frame _, fun h => by cases h⟩

theorem over : Rows.fnHeapRow.holds Try.pinned (OpenSpec.ofChange Rows.fnHeapSpec) :=
  OpenClaim.holds_of_wide 6 Try.f6 rfl rfl rfl rfl rfl rfl rfl ⟨rfl, rfl, rfl, rfl, rfl⟩ rfl rfl rfl rfl rfl (by kernel_rfl) Try.func6 (by kernel_rfl)
    (of_decide_eq_true (by kernel_rfl)) (by unfold Func.isWrapper; first | (rw [if_pos (by decide +kernel)]; kernel_rfl) | (rw [if_neg (by decide +kernel)]; exact ⟨rfl, rfl⟩))
    (fun os started H enc _ => lifted os started H enc)

/-- ████ THE STATEMENT ████ -/
theorem proved : Rows.FnHeapSaid := over
end Go.Proofs.Ytmmjidhpmbcoiaa.fnHeap
namespace Go.Proofs.Ytmmjidhpmbcoiaa
theorem fnHeap_holds : Rows.FnHeapSaid := fnHeap.proved
#print axioms fnHeap_holds
end Go.Proofs.Ytmmjidhpmbcoiaa
