/-
  Proved: whatever code it is given, the law FnPacked returns true: the drawn heap, packed, has no more words below its top than it needs, the same arrays under the same handles, no cell farther behind, and stays so when it is packed again.
-/
import Derived.Test.YtmmjidhpmbcoiaaRows
import Derived.WalkKit
import Derived.ProofKit
import Derived.OpenShut
import Derived.ShutString
import Derived.ChangeOld
import Derived.Below
import Derived.Test.YtmmjidhpmbcoiaaZ3
import Derived.Test.YtmmjidhpmbcoiaaLaw3
namespace Go.Proofs.Ytmmjidhpmbcoiaa.fnPacked
open Go.ChangeShapes Go.WideShapes Go.ChangeAt Go.RowKit
open Go.ChangeMaps (open_string shut_string)
set_option linter.unusedVariables false
set_option linter.unusedSimpArgs false
set_option linter.unusedVariables false

theorem own : ownKnob Try.prog.godebug = none := by kernel_rfl
theorem laidOut : laidOutB Try.prog = true := by kernel_rfl

/-! ### STEP 1: THE WALK: the Go text returns true, AND WRITES NOTHING THAT WAS THERE: 'Below w.heap.size w w'' (Derived/Below.lean: '.refl', '.alloc', '.drew', '.setCell' at a new block, '.trans'). Open each 'IsRow' by 'rcases' AHEAD of 'go_enter'; part every test ahead of the walk. -/
set_option maxRecDepth 20000 in
set_option maxHeartbeats 8000000 in
theorem walk (a0 : Option Addr) (len0 cap0 : Nat) (z0 : List Int) (w : World) (w0 : IsRow .u8 w a0 len0 cap0 z0) :
    Calls Try.prog 7 #[.slice a0 len0 cap0] w fun e w' => e = .returned (.bool true) ∧ Below w.heap.size w w' := by
  have HS : Hid (Src w.heap.size w a0 len0) := src_of_row w0
  clear w0
  by_cases hbig : (1048576 : Int) < (len0 : Int)
  · go_enter Try.func7, Try.ntmps7
    go_wp2_with (go_at_call 9; refine (big_laws _ _ _ _).mono ?_; rintro e w' ⟨rfl, hw⟩; subst w')
    go_ret
    exact ⟨rfl, Below.refl _ _⟩
  have hb20 : len0 ≤ 1048576 := by omega
  go_enter Try.func7, Try.ntmps7
  go_wp2_with (go_at_call 9; refine (big_laws _ _ _ _).mono ?_; rintro e w' ⟨rfl, hw⟩; subst w')
  refine (drawHeap_spec HS.out hb20).mono ?_
  rintro r w1 ⟨vH, W, t, n, E, rfl, hG, hV, hb⟩
  obtain ⟨aH, bH, cH, dH, rfl⟩ := hG.form
  have HT_1 : Hid (Below w.heap.size w w1) := hb
  have GH_1 : Hid (HI w1 (.agg #[.slice aH W.length bH, .int .i64 t, .slice cH n dH]) W t n E) := hG
  have HV : Hid (HpV W t n E) := hV
  clear hb hG hV HS hbig hb20
  obtain ⟨UU, hUU⟩ : ∃ y, y = usedH W.length t n E := ⟨_, rfl⟩
  have CU : Hid (∀ (V : World) (v : Value), HI V v W t n E → Calls Try.prog 15 #[v] V fun e w' => e = .returned (.int .i64 UU) ∧ Below V.heap.size V w') := fun V v h => by
    have q := husedI HV.out h
    rw [← hUU] at q
    exact q
  have CV : Hid (∀ (V : World) (v : Value), HI V v W t n E → Calls Try.prog 29 #[v] V fun e w' => e = .returned (.int .i64 UU) ∧ Below V.heap.size V w') := fun V v h => by
    have q := husedS HV.out h
    rw [← hUU] at q
    exact q
  by_cases hB : hOkB W.length t n E = true
  · skip
    have OKH := hOkB_iff.1 hB
    obtain ⟨FP, e1, e2, e3, e4, e5, e6, e7, e8⟩ := pack_facts HV.out OKH
    obtain ⟨PW, hPW⟩ : ∃ y, y = packW W t n E := ⟨_, rfl⟩
    obtain ⟨PT, hPT⟩ : ∃ y, y = packT W t n E := ⟨_, rfl⟩
    obtain ⟨PE, hPE⟩ : ∃ y, y = packE E n := ⟨_, rfl⟩
    obtain ⟨QE, hQE⟩ : ∃ y, y = packE PE n := ⟨_, rfl⟩
    rw [← hPW, ← hPT, ← hPE] at FP e4 e5 e6
    rw [← hPT, ← hUU] at e3
    rw [← hPW] at e2
    rw [← hPW, ← hPT, ← hPE] at e7
    rw [← hPE] at e8
    have CPI : Hid (∀ (V : World) (v : Value), HI V v W t n E → Calls Try.prog 26 #[v] V fun e w' => ∃ v', e = .returned (.tuple #[v', .bool true]) ∧ HI w' v' PW PT n PE ∧ Below V.heap.size V w') := fun V v h => by
      have q := hpackI HV.out h
      rw [hB, e1, ← hPW, ← hPT, ← hPE] at q
      exact q
    have CPS : Hid (∀ (V : World) (v : Value), HI V v W t n E → Calls Try.prog 28 #[v] V fun e w' => ∃ v', e = .returned (.tuple #[v', .bool true]) ∧ HI w' v' PW PT n PE ∧ Below V.heap.size V w') := fun V v h => by
      have q := hpackS HV.out h
      rw [hB, e1, ← hPW, ← hPT, ← hPE] at q
      exact q
    have CPP : Hid (∀ (V : World) (v : Value), HI V v PW PT n PE → Calls Try.prog 26 #[v] V fun e w' => ∃ v', e = .returned (.tuple #[v', .bool true]) ∧ HI w' v' PW PT n QE ∧ Below V.heap.size V w') := fun V v h => by
      have q := hpackI FP.v h
      rw [hOkB_true FP.1, e4, e5, e6, ← hQE] at q
      exact q
    have CK : Hid (∀ (V : World) (v : Value), HI V v PW PT n PE → Calls Try.prog 16 #[v] V fun e w' => e = .returned (.bool true) ∧ Below V.heap.size V w') := fun V v h => by
      have q := hokI FP.v h
      rw [hOkB_true FP.1] at q
      exact q
    have CG : Hid (∀ k : Nat, k < n → ∃ (gb : Bool) (gs gd : List Int), (gs.length ≤ 1048576 ∧ gd.length ≤ 1048576) ∧
        (∀ (V : World) (v : Value), HI V v W t n E → Calls Try.prog 20 #[v, .int .i64 (k : Int)] V fun e w' => ∃ v', e = .returned (.tuple #[v', .bool gb]) ∧ ArrI w' v' gs gd ∧ Below V.heap.size V w') ∧
        (∀ (V : World) (v : Value), HI V v PW PT n PE → Calls Try.prog 21 #[v, .int .i64 (k : Int)] V fun e w' => ∃ v', e = .returned (.tuple #[v', .bool gb]) ∧ ArrI w' v' gs gd ∧ Below V.heap.size V w')) := fun k hk => by
      refine ⟨gB W t n E k, gS W t n E k, gD W t n E k, gs_len _ _ _ _ _ HV.out.2.1, fun V v h => hgetS HV.out h k, fun V v h => ?_⟩
      have q := hgetI FP.v h k
      obtain ⟨x1, x2, x3⟩ := get_eq (e7 k)
      rw [x1, x2, x3] at q
      exact q
    have CC : Hid (∀ k : Nat, k < n → ∃ (v : Bool) (l f f' : Int), f' ≤ f ∧ ∀ V : World, (HI V (.agg #[.slice aH W.length bH, .int .i64 t, .slice cH n dH]) W t n E → ∃ o off, cH = some ⟨o, off, none⟩ ∧ V.cell? ⟨o, off + k * 3, none⟩ = some (.int .i64 f) ∧ V.cell? ⟨o, off + k * 3 + 1, none⟩ = some (.int .i64 l) ∧ V.cell? ⟨o, off + k * 3 + 2, none⟩ = some (.bool v)) ∧
        ∀ (aN cN : Option Addr) (bN dN : Nat), HI V (.agg #[.slice aN PW.length bN, .int .i64 PT, .slice cN n dN]) PW PT n PE → ∃ o off, cN = some ⟨o, off, none⟩ ∧ V.cell? ⟨o, off + k * 3, none⟩ = some (.int .i64 f') ∧ V.cell? ⟨o, off + k * 3 + 1, none⟩ = some (.int .i64 l) ∧ V.cell? ⟨o, off + k * 3 + 2, none⟩ = some (.bool v)) := fun k hk => by
      obtain ⟨x1, x2, x3⟩ := e8 k hk
      refine ⟨(E k).v, (E k).l, (E k).f, (PE k).f, x3, fun V => ⟨fun h => ?_, fun aN cN bN dN h => ?_⟩⟩
      · obtain ⟨_, _, _, _, e, _, _, hc, _⟩ := h
        cases e
        obtain ⟨o, off, e, _, p⟩ := hc.at hk
        exact ⟨o, off, e, p⟩
      · obtain ⟨_, _, _, _, e, _, _, hc, _⟩ := h
        cases e
        obtain ⟨o, off, e, _, p⟩ := hc.at hk
        rw [x1, x2] at p
        exact ⟨o, off, e, p⟩
    have EL : Hid (PT = UU ∧ PW.length = W.length ∧ PW.length ≤ 6000 ∧ n ≤ 201) := ⟨e3, e2, by rw [e2]; exact OKH.1, HV.out.2.2⟩
    clear OKH FP e1 e2 e3 e4 e5 e6 e7 e8 hPW hPT hPE hQE hUU hB
    go_wp2_with fail
    have hb : Below w1.heap.size w1 (w1.alloc (.cells #[.slice aH W.length bH, .int .i64 t, .slice cH n dH] 28)) := bAlloc (Below.refl _ _) _
    have hbx : Box3 (w1.alloc (.cells #[.slice aH W.length bH, .int .i64 t, .slice cH n dH] 28)) w1.heap.size (.slice aH W.length bH) (.int .i64 t) (.slice cH n dH) 28 := heap_alloc_new _ _
    generalize w1.alloc (.cells #[.slice aH W.length bH, .int .i64 t, .slice cH n dH] 28) = w2 at *
    have HT_2 : Hid (Below w.heap.size w w2) := bTrans HT_1.out hb
    have GH_2 : Hid (HI w2 (.agg #[.slice aH W.length bH, .int .i64 t, .slice cH n dH]) W t n E) := GH_1.out.keep hb
    have QH_2 : Hid (Box3 w2 w1.heap.size (.slice aH W.length bH) (.int .i64 t) (.slice cH n dH) 28) := hbx
    clear hb hbx HT_1 GH_1
    refine (CPI.out _ _ GH_2.out).mono ?_
    rintro r w3 ⟨vN, rfl, hO, hb⟩
    obtain ⟨aN, bN, cN, dN, rfl⟩ := hO.form
    have HT_3 : Hid (Below w.heap.size w w3) := bTrans HT_2.out hb
    have GH_3 : Hid (HI w3 (.agg #[.slice aH W.length bH, .int .i64 t, .slice cH n dH]) W t n E) := GH_2.out.keep hb
    have QH_3 : Hid (Box3 w3 w1.heap.size (.slice aH W.length bH) (.int .i64 t) (.slice cH n dH) 28) := QH_2.out.keep hb
    have GN_3 : Hid (HI w3 (.agg #[.slice aN PW.length bN, .int .i64 PT, .slice cN n dN]) PW PT n PE) := hO
    clear hb hO HT_2 GH_2 QH_2
    have pQH0 := QH_3.out.c0
    have dQH0 : ∀ ob : Obj, (w3.alloc ob).cell? ⟨w1.heap.size, 0, none⟩ = some (.slice aH W.length bH) := fun ob => (QH_3.out.keep (bAlloc (Below.refl _ _) ob)).c0
    have pQH1 := QH_3.out.c1
    have dQH1 : ∀ ob : Obj, (w3.alloc ob).cell? ⟨w1.heap.size, 1, none⟩ = some (.int .i64 t) := fun ob => (QH_3.out.keep (bAlloc (Below.refl _ _) ob)).c1
    have pQH2 := QH_3.out.c2
    have dQH2 : ∀ ob : Obj, (w3.alloc ob).cell? ⟨w1.heap.size, 2, none⟩ = some (.slice cH n dH) := fun ob => (QH_3.out.keep (bAlloc (Below.refl _ _) ob)).c2
    go_wp2_with fail
    clear pQH0 dQH0 pQH1 dQH1 pQH2 dQH2
    have hb : Below w3.heap.size w3 (w3.alloc (.cells #[.slice aN PW.length bN, .int .i64 PT, .slice cN n dN] 28)) := bAlloc (Below.refl _ _) _
    have hbx : Box3 (w3.alloc (.cells #[.slice aN PW.length bN, .int .i64 PT, .slice cN n dN] 28)) w3.heap.size (.slice aN PW.length bN) (.int .i64 PT) (.slice cN n dN) 28 := heap_alloc_new _ _
    generalize w3.alloc (.cells #[.slice aN PW.length bN, .int .i64 PT, .slice cN n dN] 28) = w4 at *
    have HT_4 : Hid (Below w.heap.size w w4) := bTrans HT_3.out hb
    have GH_4 : Hid (HI w4 (.agg #[.slice aH W.length bH, .int .i64 t, .slice cH n dH]) W t n E) := GH_3.out.keep hb
    have QH_4 : Hid (Box3 w4 w1.heap.size (.slice aH W.length bH) (.int .i64 t) (.slice cH n dH) 28) := QH_3.out.keep hb
    have GN_4 : Hid (HI w4 (.agg #[.slice aN PW.length bN, .int .i64 PT, .slice cN n dN]) PW PT n PE) := GN_3.out.keep hb
    have QN_4 : Hid (Box3 w4 w3.heap.size (.slice aN PW.length bN) (.int .i64 PT) (.slice cN n dN) 28) := hbx
    clear hb hbx HT_3 GH_3 QH_3 GN_3
    refine (CPS.out _ _ GH_4.out).mono ?_
    rintro r w5 ⟨vS, rfl, hO, hb⟩
    obtain ⟨aS, bS, cS, dS, rfl⟩ := hO.form
    have HT_5 : Hid (Below w.heap.size w w5) := bTrans HT_4.out hb
    have GH_5 : Hid (HI w5 (.agg #[.slice aH W.length bH, .int .i64 t, .slice cH n dH]) W t n E) := GH_4.out.keep hb
    have QH_5 : Hid (Box3 w5 w1.heap.size (.slice aH W.length bH) (.int .i64 t) (.slice cH n dH) 28) := QH_4.out.keep hb
    have GN_5 : Hid (HI w5 (.agg #[.slice aN PW.length bN, .int .i64 PT, .slice cN n dN]) PW PT n PE) := GN_4.out.keep hb
    have QN_5 : Hid (Box3 w5 w3.heap.size (.slice aN PW.length bN) (.int .i64 PT) (.slice cN n dN) 28) := QN_4.out.keep hb
    clear hb hO HT_4 GH_4 QH_4 GN_4 QN_4
    go_wp2_with fail
    have hb : Below w5.heap.size w5 (w5.alloc (.cells #[.slice aS PW.length bS, .int .i64 PT, .slice cS n dS] 28)) := bAlloc (Below.refl _ _) _
    generalize w5.alloc (.cells #[.slice aS PW.length bS, .int .i64 PT, .slice cS n dS] 28) = w6 at *
    have HT_6 : Hid (Below w.heap.size w w6) := bTrans HT_5.out hb
    have GH_6 : Hid (HI w6 (.agg #[.slice aH W.length bH, .int .i64 t, .slice cH n dH]) W t n E) := GH_5.out.keep hb
    have QH_6 : Hid (Box3 w6 w1.heap.size (.slice aH W.length bH) (.int .i64 t) (.slice cH n dH) 28) := QH_5.out.keep hb
    have GN_6 : Hid (HI w6 (.agg #[.slice aN PW.length bN, .int .i64 PT, .slice cN n dN]) PW PT n PE) := GN_5.out.keep hb
    have QN_6 : Hid (Box3 w6 w3.heap.size (.slice aN PW.length bN) (.int .i64 PT) (.slice cN n dN) 28) := QN_5.out.keep hb
    clear hb  HT_5 GH_5 QH_5 GN_5 QN_5
    have pQH0 := QH_6.out.c0
    have pQH1 := QH_6.out.c1
    have pQH2 := QH_6.out.c2
    have KA : Hid (∀ V, Below w6.heap.size w6 V → HI V (.agg #[.slice aH W.length bH, .int .i64 t, .slice cH n dH]) W t n E ∧ (V.cell? ⟨w1.heap.size, 0, none⟩ = some (.slice aH W.length bH) ∧ V.cell? ⟨w1.heap.size, 1, none⟩ = some (.int .i64 t) ∧ V.cell? ⟨w1.heap.size, 2, none⟩ = some (.slice cH n dH))) := fun V hb => ⟨GH_6.out.keep hb, (QH_6.out.keep hb).c0, (QH_6.out.keep hb).c1, (QH_6.out.keep hb).c2⟩
    go_region_held3 (fun w' => w'.cell? ⟨w1.heap.size, 0, none⟩ = some (.slice aH W.length bH) ∧ w'.cell? ⟨w1.heap.size, 1, none⟩ = some (.int .i64 t) ∧ w'.cell? ⟨w1.heap.size, 2, none⟩ = some (.slice cH n dH))
      (first | (refine (KA.out _ ?_).2; (repeat first | with_reducible exact Below.refl _ _ | with_reducible exact B2.out | with_reducible exact B1.out | with_reducible refine bAlloc ?_ _ | with_reducible refine Below.drew ?_); done) | go_keep)
      (first
        | (go_at_call 15; refine (CU.out _ _ (KA.out _ (by repeat first | with_reducible exact Below.refl _ _ | with_reducible refine bAlloc ?_ _ | with_reducible refine Below.drew ?_)).1).mono ?_; rintro r x1 ⟨rfl, hb1⟩; have B1 : Hid (Below w6.heap.size w6 x1) := bTrans (show Below w6.heap.size w6 _ from (by repeat first | with_reducible exact Below.refl _ _ | with_reducible refine bAlloc ?_ _ | with_reducible refine Below.drew ?_)) hb1; clear hb1)
        | (go_at_call 29; refine (CV.out _ _ (KA.out _ (by repeat first | with_reducible exact Below.refl _ _ | with_reducible exact B1.out | with_reducible refine bAlloc ?_ _ | with_reducible refine Below.drew ?_)).1).mono ?_; rintro r x2 ⟨rfl, hb2⟩; have B2 : Hid (Below w6.heap.size w6 x2) := bTrans (show Below w6.heap.size w6 _ from (by repeat first | with_reducible exact Below.refl _ _ | with_reducible exact B1.out | with_reducible refine bAlloc ?_ _ | with_reducible refine Below.drew ?_)) hb2; clear hb2))
    all_goals
      clear pQH0 pQH1 pQH2
      have HT_x : Hid (Below w.heap.size w x2) := bTrans HT_6.out B2.out
      have GH_x : Hid (HI x2 (.agg #[.slice aH W.length bH, .int .i64 t, .slice cH n dH]) W t n E) := GH_6.out.keep B2.out
      have GN_x : Hid (HI x2 (.agg #[.slice aN PW.length bN, .int .i64 PT, .slice cN n dN]) PW PT n PE) := GN_6.out.keep B2.out
      have QH_x : Hid (Box3 x2 w1.heap.size (.slice aH W.length bH) (.int .i64 t) (.slice cH n dH) 28) := QH_6.out.keep B2.out
      have QN_x : Hid (Box3 x2 w3.heap.size (.slice aN PW.length bN) (.int .i64 PT) (.slice cN n dN) 28) := QN_6.out.keep B2.out
      clear B1 B2 KA HT_6 GH_6 GN_6 QH_6 QN_6
      have KB : Hid (∀ V, Below x2.heap.size x2 V → HI V (.agg #[.slice aH W.length bH, .int .i64 t, .slice cH n dH]) W t n E ∧ HI V (.agg #[.slice aN PW.length bN, .int .i64 PT, .slice cN n dN]) PW PT n PE ∧ (V.cell? ⟨w1.heap.size, 0, none⟩ = some (.slice aH W.length bH) ∧ V.cell? ⟨w1.heap.size, 1, none⟩ = some (.int .i64 t) ∧ V.cell? ⟨w1.heap.size, 2, none⟩ = some (.slice cH n dH) ∧ V.cell? ⟨w3.heap.size, 0, none⟩ = some (.slice aN PW.length bN) ∧ V.cell? ⟨w3.heap.size, 1, none⟩ = some (.int .i64 PT) ∧ V.cell? ⟨w3.heap.size, 2, none⟩ = some (.slice cN n dN))) := fun V hb => ⟨GH_x.out.keep hb, GN_x.out.keep hb, (QH_x.out.keep hb).c0, (QH_x.out.keep hb).c1, (QH_x.out.keep hb).c2, (QN_x.out.keep hb).c0, (QN_x.out.keep hb).c1, (QN_x.out.keep hb).c2⟩
      go_wp2_with fail
      go_loopw [8] (fun i w' => ∃ k : Nat, k ≤ n ∧ i = .int .i64 (k : Int) ∧ Below x2.heap.size x2 w') (fun i _ => n - (intOf i).toNat)
      case atStart => exact ⟨0, by omega, rfl, Below.refl _ _⟩
      case round =>
        obtain ⟨k, hk, rfl, hr⟩ := hrel
        have BR : Hid (Below x2.heap.size x2 wr) := hr
        obtain ⟨_, _, ph0, ph1, ph2, pn0, pn1, pn2⟩ := KB.out wr hr
        clear hr
        have hnb := EL.out.2.2.2
        by_cases hlt : (k : Int) < (n : Int)
        · obtain ⟨gb, gs, gd, hle, cs, ci⟩ := CG.out k (by omega)
          have CGS : Hid (∀ (V : World) (v : Value), HI V v W t n E → Calls Try.prog 20 #[v, .int .i64 (k : Int)] V fun e w' => ∃ v', e = .returned (.tuple #[v', .bool gb]) ∧ ArrI w' v' gs gd ∧ Below V.heap.size V w') := cs
          have CGI : Hid (∀ (V : World) (v : Value), HI V v PW PT n PE → Calls Try.prog 21 #[v, .int .i64 (k : Int)] V fun e w' => ∃ v', e = .returned (.tuple #[v', .bool gb]) ∧ ArrI w' v' gs gd ∧ Below V.heap.size V w') := ci
          have LE : Hid (gs.length ≤ 1048576 ∧ gd.length ≤ 1048576) := hle
          clear hle cs ci pn0 pn1 pn2
          go_wp2_with fail
          refine (CGS.out _ _ (KB.out _ BR.out).1).mono ?_
          rintro r r1 ⟨vX, rfl, ha, hb⟩
          obtain ⟨aX, bX, cX, dX, rfl⟩ := ha.form
          have BR1 : Hid (Below x2.heap.size x2 r1) := bTrans BR.out hb
          have AX1 : Hid (ArrI r1 (.agg #[.slice aX gs.length bX, .slice cX gd.length dX]) gs gd) := ha
          clear ha hb ph0 ph1 ph2
          obtain ⟨_, _, _, _, _, ph0, ph1, ph2⟩ := KB.out _ BR1.out
          have pd0 := fun ob => (KB.out _ (bAlloc BR1.out ob)).2.2.2.2.2.1
          have pd1 := fun ob => (KB.out _ (bAlloc BR1.out ob)).2.2.2.2.2.2.1
          have pd2 := fun ob => (KB.out _ (bAlloc BR1.out ob)).2.2.2.2.2.2.2
          go_wp2_with fail
          clear ph0 ph1 ph2 pd0 pd1 pd2
          have hbx : Box (r1.alloc (.cells #[.slice aX gs.length bX, .slice cX gd.length dX] 32)) r1.heap.size (.slice aX gs.length bX) (.slice cX gd.length dX) 32 := heap_alloc_new _ _
          have hb : Below r1.heap.size r1 (r1.alloc (.cells #[.slice aX gs.length bX, .slice cX gd.length dX] 32)) := bAlloc (Below.refl _ _) _
          generalize r1.alloc (.cells #[.slice aX gs.length bX, .slice cX gd.length dX] 32) = r2 at *
          have BR2 : Hid (Below x2.heap.size x2 r2) := bTrans BR1.out hb
          have AX2 : Hid (ArrI r2 (.agg #[.slice aX gs.length bX, .slice cX gd.length dX]) gs gd) := AX1.out.keep hb
          have QX2 : Hid (Box r2 r1.heap.size (.slice aX gs.length bX) (.slice cX gd.length dX) 32) := hbx
          clear hb hbx AX1
          refine (CGI.out _ _ (KB.out _ BR2.out).2.1).mono ?_
          rintro r r3 ⟨vY, rfl, ha, hb⟩
          obtain ⟨aY, bY, cY, dY, rfl⟩ := ha.form
          have BR3 : Hid (Below x2.heap.size x2 r3) := bTrans BR2.out hb
          have AY3 : Hid (ArrI r3 (.agg #[.slice aY gs.length bY, .slice cY gd.length dY]) gs gd) := ha
          have AX3 : Hid (ArrI r3 (.agg #[.slice aX gs.length bX, .slice cX gd.length dX]) gs gd) := AX2.out.keep hb
          have QX3 : Hid (Box r3 r1.heap.size (.slice aX gs.length bX) (.slice cX gd.length dX) 32) := QX2.out.keep hb
          clear ha hb AX2 QX2
          go_wp2_with fail
          have hb : Below r3.heap.size r3 (r3.alloc (.cells #[.slice aY gs.length bY, .slice cY gd.length dY] 32)) := bAlloc (Below.refl _ _) _
          have hby : Box (r3.alloc (.cells #[.slice aY gs.length bY, .slice cY gd.length dY] 32)) r3.heap.size (.slice aY gs.length bY) (.slice cY gd.length dY) 32 := heap_alloc_new _ _
          generalize r3.alloc (.cells #[.slice aY gs.length bY, .slice cY gd.length dY] 32) = r4 at *
          have BR4 : Hid (Below x2.heap.size x2 r4) := bTrans BR3.out hb
          have AX4 : Hid (ArrI r4 (.agg #[.slice aX gs.length bX, .slice cX gd.length dX]) gs gd) := AX3.out.keep hb
          have AY4 : Hid (ArrI r4 (.agg #[.slice aY gs.length bY, .slice cY gd.length dY]) gs gd) := AY3.out.keep hb
          have QX4 : Hid (Box r4 r1.heap.size (.slice aX gs.length bX) (.slice cX gd.length dX) 32) := QX3.out.keep hb
          have QY4 : Hid (Box r4 r3.heap.size (.slice aY gs.length bY) (.slice cY gd.length dY) 32) := hby
          clear hb hby AX3 AY3 QX3
          obtain ⟨vv, ll, ff, fp, hfp, cc⟩ := CC.out k (by omega)
          obtain ⟨o1, f1, ec1, _⟩ := (cc _).1 GH_x.out
          subst ec1
          obtain ⟨o2, f2, ec2, _⟩ := (cc _).2 _ _ _ _ GN_x.out
          subst ec2
          have KR : Hid (∀ V, Below r4.heap.size r4 V → (V.cell? ⟨w1.heap.size, 0, none⟩ = some (.slice aH W.length bH) ∧ V.cell? ⟨w1.heap.size, 1, none⟩ = some (.int .i64 t) ∧ V.cell? ⟨w1.heap.size, 2, none⟩ = some (.slice (some ⟨o1, f1, none⟩) n dH) ∧ V.cell? ⟨w3.heap.size, 0, none⟩ = some (.slice aN PW.length bN) ∧ V.cell? ⟨w3.heap.size, 1, none⟩ = some (.int .i64 PT) ∧ V.cell? ⟨w3.heap.size, 2, none⟩ = some (.slice (some ⟨o2, f2, none⟩) n dN)) ∧ (V.cell? ⟨o1, f1 + k * 3, none⟩ = some (.int .i64 ff) ∧ V.cell? ⟨o1, f1 + k * 3 + 1, none⟩ = some (.int .i64 ll) ∧ V.cell? ⟨o1, f1 + k * 3 + 2, none⟩ = some (.bool vv)) ∧ (V.cell? ⟨o2, f2 + k * 3, none⟩ = some (.int .i64 fp) ∧ V.cell? ⟨o2, f2 + k * 3 + 1, none⟩ = some (.int .i64 ll) ∧ V.cell? ⟨o2, f2 + k * 3 + 2, none⟩ = some (.bool vv)) ∧ (V.cell? ⟨r1.heap.size, 0, none⟩ = some (.slice aX gs.length bX) ∧ V.cell? ⟨r1.heap.size, 1, none⟩ = some (.slice cX gd.length dX)) ∧ (V.cell? ⟨r3.heap.size, 0, none⟩ = some (.slice aY gs.length bY) ∧ V.cell? ⟨r3.heap.size, 1, none⟩ = some (.slice cY gd.length dY))) := fun V hb => by
            have kb := KB.out V (bTrans BR4.out hb)
            refine ⟨kb.2.2, ?_, ?_, ⟨(QX4.out.keep hb).c0, (QX4.out.keep hb).c1⟩, ⟨(QY4.out.keep hb).c0, (QY4.out.keep hb).c1⟩⟩
            · obtain ⟨o, f, e, q⟩ := (cc V).1 kb.1
              cases e
              exact q
            · obtain ⟨o, f, e, q⟩ := (cc V).2 _ _ _ _ kb.2.1
              cases e
              exact q
          have KQ : Hid (∀ V, Below r4.heap.size r4 V → ArrI V (.agg #[.slice aX gs.length bX, .slice cX gd.length dX]) gs gd ∧ ArrI V (.agg #[.slice aY gs.length bY, .slice cY gd.length dY]) gs gd) := fun V hb => ⟨AX4.out.keep hb, AY4.out.keep hb⟩
          have hk0 : (0 : Int) ≤ (k : Int) := by omega
          have hff : ¬ fp > ff := by omega
          clear cc hfp
          cases gb
          · obtain ⟨⟨a0', a1', a2', a3', a4', a5'⟩, ⟨b0', b1', b2'⟩, ⟨c0', c1', c2'⟩, _, _⟩ := KR.out r4 (Below.refl _ _)
            go_quiet (fail)
            go_wp2
            go_roundw
            case rel => exact ⟨k + 1, by omega, by go_num, bTrans BR4.out ⟨rfl, rfl, rfl, Nat.le_refl _, fun _ _ => rfl⟩⟩
            case measure => simp [intOf]; omega
          · go_region_held3 (fun w' => (w'.cell? ⟨w1.heap.size, 0, none⟩ = some (.slice aH W.length bH) ∧ w'.cell? ⟨w1.heap.size, 1, none⟩ = some (.int .i64 t) ∧ w'.cell? ⟨w1.heap.size, 2, none⟩ = some (.slice (some ⟨o1, f1, none⟩) n dH) ∧ w'.cell? ⟨w3.heap.size, 0, none⟩ = some (.slice aN PW.length bN) ∧ w'.cell? ⟨w3.heap.size, 1, none⟩ = some (.int .i64 PT) ∧ w'.cell? ⟨w3.heap.size, 2, none⟩ = some (.slice (some ⟨o2, f2, none⟩) n dN)) ∧ (w'.cell? ⟨o1, f1 + k * 3, none⟩ = some (.int .i64 ff) ∧ w'.cell? ⟨o1, f1 + k * 3 + 1, none⟩ = some (.int .i64 ll) ∧ w'.cell? ⟨o1, f1 + k * 3 + 2, none⟩ = some (.bool vv)) ∧ (w'.cell? ⟨o2, f2 + k * 3, none⟩ = some (.int .i64 fp) ∧ w'.cell? ⟨o2, f2 + k * 3 + 1, none⟩ = some (.int .i64 ll) ∧ w'.cell? ⟨o2, f2 + k * 3 + 2, none⟩ = some (.bool vv)) ∧ (w'.cell? ⟨r1.heap.size, 0, none⟩ = some (.slice aX gs.length bX) ∧ w'.cell? ⟨r1.heap.size, 1, none⟩ = some (.slice cX gd.length dX)) ∧ (w'.cell? ⟨r3.heap.size, 0, none⟩ = some (.slice aY gs.length bY) ∧ w'.cell? ⟨r3.heap.size, 1, none⟩ = some (.slice cY gd.length dY)))
              (first | (refine KR.out _ ?_; (repeat first | with_reducible exact Below.refl _ _ | with_reducible exact BS.out | with_reducible refine Below.drew ?_); done) | go_keep)
              ((go_at_call 22; refine (hsame (KQ.out _ (by repeat first | with_reducible exact Below.refl _ _ | with_reducible refine Below.drew ?_)).1 (KQ.out _ (by repeat first | with_reducible exact Below.refl _ _ | with_reducible refine Below.drew ?_)).2 LE.out).mono ?_; rintro r r5 ⟨rfl, hb5⟩; have BS : Hid (Below r4.heap.size r4 r5) := bTrans (show Below r4.heap.size r4 _ from (by repeat first | with_reducible exact Below.refl _ _ | with_reducible refine Below.drew ?_)) hb5; clear hb5))
            all_goals
              go_wp2
              go_roundw
              case rel => exact ⟨k + 1, by omega, by go_num, bTrans BR4.out BS.out⟩
              case measure => simp [intOf]; omega
        · go_wp2_with fail
          refine (CPP.out _ _ (KB.out _ BR.out).2.1).mono ?_
          rintro r y1 ⟨vQ, rfl, hO, hb⟩
          obtain ⟨aQ, bQ, cQ, dQ, rfl⟩ := hO.form
          have BY1 : Hid (Below x2.heap.size x2 y1) := bTrans BR.out hb
          have GQ1 : Hid (HI y1 (.agg #[.slice aQ PW.length bQ, .int .i64 PT, .slice cQ n dQ]) PW PT n QE) := hO
          clear hb hO ph0 ph1 ph2 pn0 pn1 pn2
          go_wp2_with fail
          have hb : Below y1.heap.size y1 (y1.alloc (.cells #[.slice aQ PW.length bQ, .int .i64 PT, .slice cQ n dQ] 28)) := bAlloc (Below.refl _ _) _
          have hbx : Box3 (y1.alloc (.cells #[.slice aQ PW.length bQ, .int .i64 PT, .slice cQ n dQ] 28)) y1.heap.size (.slice aQ PW.length bQ) (.int .i64 PT) (.slice cQ n dQ) 28 := heap_alloc_new _ _
          generalize y1.alloc (.cells #[.slice aQ PW.length bQ, .int .i64 PT, .slice cQ n dQ] 28) = y2 at *
          have BY2 : Hid (Below x2.heap.size x2 y2) := bTrans BY1.out hb
          have GQ2 : Hid (HI y2 (.agg #[.slice aQ PW.length bQ, .int .i64 PT, .slice cQ n dQ]) PW PT n QE) := GQ1.out.keep hb
          have QQ2 : Hid (Box3 y2 y1.heap.size (.slice aQ PW.length bQ) (.int .i64 PT) (.slice cQ n dQ) 28) := hbx
          clear hb hbx GQ1
          have KS : Hid (∀ V, Below y2.heap.size y2 V → (V.cell? ⟨w1.heap.size, 0, none⟩ = some (.slice aH W.length bH) ∧ V.cell? ⟨w1.heap.size, 1, none⟩ = some (.int .i64 t) ∧ V.cell? ⟨w1.heap.size, 2, none⟩ = some (.slice cH n dH) ∧ V.cell? ⟨w3.heap.size, 0, none⟩ = some (.slice aN PW.length bN) ∧ V.cell? ⟨w3.heap.size, 1, none⟩ = some (.int .i64 PT) ∧ V.cell? ⟨w3.heap.size, 2, none⟩ = some (.slice cN n dN)) ∧ V.cell? ⟨y1.heap.size, 0, none⟩ = some (.slice aQ PW.length bQ) ∧ V.cell? ⟨y1.heap.size, 1, none⟩ = some (.int .i64 PT)) := fun V hb => ⟨(KB.out _ (bTrans BY2.out hb)).2.2, (QQ2.out.keep hb).c0, (QQ2.out.keep hb).c1⟩
          have KT : Hid (∀ V, Below y2.heap.size y2 V → HI V (.agg #[.slice aH W.length bH, .int .i64 t, .slice cH n dH]) W t n E ∧ HI V (.agg #[.slice aN PW.length bN, .int .i64 PT, .slice cN n dN]) PW PT n PE ∧ HI V (.agg #[.slice aQ PW.length bQ, .int .i64 PT, .slice cQ n dQ]) PW PT n QE) := fun V hb => ⟨(KB.out _ (bTrans BY2.out hb)).1, (KB.out _ (bTrans BY2.out hb)).2.1, GQ2.out.keep hb⟩
          have htu : (PT == UU) = true := by rw [EL.out.1]; simp
          have hll : ((PW.length : Int) == (W.length : Int)) = true := by rw [EL.out.2.1]; simp
          have LP : Hid (PW.length ≤ 6000) := EL.out.2.2.1
          have CSI : Hid (∀ V : World, HI V (.agg #[.slice aQ PW.length bQ, .int .i64 PT, .slice cQ n dQ]) PW PT n QE → HI V (.agg #[.slice aN PW.length bN, .int .i64 PT, .slice cN n dN]) PW PT n PE → Calls Try.prog 30 #[.slice aQ PW.length bQ, .slice aN PW.length bN] V fun e w' => e = .returned (.bool true) ∧ Below V.heap.size V w') := fun V h k => by
            obtain ⟨_, _, _, _, e, i1, _⟩ := h
            cases e
            obtain ⟨_, _, _, _, e, i2, _⟩ := k
            cases e
            refine (same_ints bQ bN (by have := LP.out; omega) i1 i2).mono ?_
            rintro e w' ⟨rfl, j, rfl⟩
            exact ⟨by simp, ⟨rfl, rfl, rfl, Nat.le_refl _, fun _ _ => rfl⟩⟩
          go_region_held3 (fun w' => (w'.cell? ⟨w1.heap.size, 0, none⟩ = some (.slice aH W.length bH) ∧ w'.cell? ⟨w1.heap.size, 1, none⟩ = some (.int .i64 t) ∧ w'.cell? ⟨w1.heap.size, 2, none⟩ = some (.slice cH n dH) ∧ w'.cell? ⟨w3.heap.size, 0, none⟩ = some (.slice aN PW.length bN) ∧ w'.cell? ⟨w3.heap.size, 1, none⟩ = some (.int .i64 PT) ∧ w'.cell? ⟨w3.heap.size, 2, none⟩ = some (.slice cN n dN)) ∧ w'.cell? ⟨y1.heap.size, 0, none⟩ = some (.slice aQ PW.length bQ) ∧ w'.cell? ⟨y1.heap.size, 1, none⟩ = some (.int .i64 PT))
            (first | (refine KS.out _ ?_; (repeat first | with_reducible exact Below.refl _ _ | with_reducible exact B3.out | with_reducible exact B2.out | with_reducible exact B1.out | with_reducible refine Below.drew ?_); done) | go_keep)
            (first
              | (go_at_call 15; refine (CU.out _ _ (KT.out _ (by repeat first | with_reducible exact Below.refl _ _ | with_reducible refine bAlloc ?_ _ | with_reducible refine Below.drew ?_)).1).mono ?_; rintro r z1 ⟨rfl, hb1⟩; have B1 : Hid (Below y2.heap.size y2 z1) := bTrans (show Below y2.heap.size y2 _ from (by repeat first | with_reducible exact Below.refl _ _ | with_reducible refine bAlloc ?_ _ | with_reducible refine Below.drew ?_)) hb1; clear hb1)
              | (go_at_call 30; refine (CSI.out _ (KT.out _ (by repeat first | with_reducible exact Below.refl _ _ | with_reducible exact B1.out | with_reducible refine bAlloc ?_ _ | with_reducible refine Below.drew ?_)).2.2 (KT.out _ (by repeat first | with_reducible exact Below.refl _ _ | with_reducible exact B1.out | with_reducible refine bAlloc ?_ _ | with_reducible refine Below.drew ?_)).2.1).mono ?_; rintro r z2 ⟨rfl, hb2⟩; have B2 : Hid (Below y2.heap.size y2 z2) := bTrans (show Below y2.heap.size y2 _ from (by repeat first | with_reducible exact Below.refl _ _ | with_reducible exact B1.out | with_reducible refine bAlloc ?_ _ | with_reducible refine Below.drew ?_)) hb2; clear hb2)
              | (go_at_call 16; refine (CK.out _ _ (KT.out _ (by repeat first | with_reducible exact Below.refl _ _ | with_reducible exact B2.out | with_reducible refine bAlloc ?_ _ | with_reducible refine Below.drew ?_)).2.1).mono ?_; rintro r z3 ⟨rfl, hb3⟩; have B3 : Hid (Below y2.heap.size y2 z3) := bTrans (show Below y2.heap.size y2 _ from (by repeat first | with_reducible exact Below.refl _ _ | with_reducible exact B2.out | with_reducible refine bAlloc ?_ _ | with_reducible refine Below.drew ?_)) hb3; clear hb3))
          all_goals
            go_wp2
            go_ret
            exact ⟨by simp [hll], bTrans HT_x.out (bTrans BY2.out B3.out)⟩
  · skip
    have hB0 : hOkB W.length t n E = false := by simpa using hB
    obtain ⟨PW, hPW⟩ : ∃ y, y = packW W t n E := ⟨_, rfl⟩
    obtain ⟨PT, hPT⟩ : ∃ y, y = packT W t n E := ⟨_, rfl⟩
    obtain ⟨PN, hPN⟩ : ∃ y, y = packN W t n E := ⟨_, rfl⟩
    obtain ⟨PE, hPE⟩ : ∃ y, y = packE E n := ⟨_, rfl⟩
    have CPI : Hid (∀ (V : World) (v : Value), HI V v W t n E → Calls Try.prog 26 #[v] V fun e w' => ∃ v', e = .returned (.tuple #[v', .bool false]) ∧ HI w' v' PW PT PN PE ∧ Below V.heap.size V w') := fun V v h => by
      have q := hpackI HV.out h
      rw [hB0, ← hPN, ← hPW, ← hPT, ← hPE] at q
      exact q
    have CPS : Hid (∀ (V : World) (v : Value), HI V v W t n E → Calls Try.prog 28 #[v] V fun e w' => ∃ v', e = .returned (.tuple #[v', .bool false]) ∧ HI w' v' PW PT PN PE ∧ Below V.heap.size V w') := fun V v h => by
      have q := hpackS HV.out h
      rw [hB0, ← hPN, ← hPW, ← hPT, ← hPE] at q
      exact q
    have EZ : Hid (PW.length = 0 ∧ UU = -1) := ⟨by rw [hPW]; unfold packW; rw [hB0]; rfl, by rw [hUU, used_bad hB0]⟩
    clear hPW hPT hPN hPE hUU hB hB0
    go_wp2_with fail
    have hb : Below w1.heap.size w1 (w1.alloc (.cells #[.slice aH W.length bH, .int .i64 t, .slice cH n dH] 28)) := bAlloc (Below.refl _ _) _
    have hbx : Box3 (w1.alloc (.cells #[.slice aH W.length bH, .int .i64 t, .slice cH n dH] 28)) w1.heap.size (.slice aH W.length bH) (.int .i64 t) (.slice cH n dH) 28 := heap_alloc_new _ _
    generalize w1.alloc (.cells #[.slice aH W.length bH, .int .i64 t, .slice cH n dH] 28) = w2 at *
    have HT_2 : Hid (Below w.heap.size w w2) := bTrans HT_1.out hb
    have GH_2 : Hid (HI w2 (.agg #[.slice aH W.length bH, .int .i64 t, .slice cH n dH]) W t n E) := GH_1.out.keep hb
    have QH_2 : Hid (Box3 w2 w1.heap.size (.slice aH W.length bH) (.int .i64 t) (.slice cH n dH) 28) := hbx
    clear hb hbx HT_1 GH_1
    refine (CPI.out _ _ GH_2.out).mono ?_
    rintro r w3 ⟨vN, rfl, hO, hb⟩
    obtain ⟨aN, bN, cN, dN, rfl⟩ := hO.form
    have HT_3 : Hid (Below w.heap.size w w3) := bTrans HT_2.out hb
    have GH_3 : Hid (HI w3 (.agg #[.slice aH W.length bH, .int .i64 t, .slice cH n dH]) W t n E) := GH_2.out.keep hb
    have QH_3 : Hid (Box3 w3 w1.heap.size (.slice aH W.length bH) (.int .i64 t) (.slice cH n dH) 28) := QH_2.out.keep hb
    have GN_3 : Hid (HI w3 (.agg #[.slice aN PW.length bN, .int .i64 PT, .slice cN PN dN]) PW PT PN PE) := hO
    clear hb hO HT_2 GH_2 QH_2
    have pQH0 := QH_3.out.c0
    have dQH0 : ∀ ob : Obj, (w3.alloc ob).cell? ⟨w1.heap.size, 0, none⟩ = some (.slice aH W.length bH) := fun ob => (QH_3.out.keep (bAlloc (Below.refl _ _) ob)).c0
    have pQH1 := QH_3.out.c1
    have dQH1 : ∀ ob : Obj, (w3.alloc ob).cell? ⟨w1.heap.size, 1, none⟩ = some (.int .i64 t) := fun ob => (QH_3.out.keep (bAlloc (Below.refl _ _) ob)).c1
    have pQH2 := QH_3.out.c2
    have dQH2 : ∀ ob : Obj, (w3.alloc ob).cell? ⟨w1.heap.size, 2, none⟩ = some (.slice cH n dH) := fun ob => (QH_3.out.keep (bAlloc (Below.refl _ _) ob)).c2
    go_wp2_with fail
    clear pQH0 dQH0 pQH1 dQH1 pQH2 dQH2
    have hb : Below w3.heap.size w3 (w3.alloc (.cells #[.slice aN PW.length bN, .int .i64 PT, .slice cN PN dN] 28)) := bAlloc (Below.refl _ _) _
    have hbx : Box3 (w3.alloc (.cells #[.slice aN PW.length bN, .int .i64 PT, .slice cN PN dN] 28)) w3.heap.size (.slice aN PW.length bN) (.int .i64 PT) (.slice cN PN dN) 28 := heap_alloc_new _ _
    generalize w3.alloc (.cells #[.slice aN PW.length bN, .int .i64 PT, .slice cN PN dN] 28) = w4 at *
    have HT_4 : Hid (Below w.heap.size w w4) := bTrans HT_3.out hb
    have GH_4 : Hid (HI w4 (.agg #[.slice aH W.length bH, .int .i64 t, .slice cH n dH]) W t n E) := GH_3.out.keep hb
    have QH_4 : Hid (Box3 w4 w1.heap.size (.slice aH W.length bH) (.int .i64 t) (.slice cH n dH) 28) := QH_3.out.keep hb
    have GN_4 : Hid (HI w4 (.agg #[.slice aN PW.length bN, .int .i64 PT, .slice cN PN dN]) PW PT PN PE) := GN_3.out.keep hb
    have QN_4 : Hid (Box3 w4 w3.heap.size (.slice aN PW.length bN) (.int .i64 PT) (.slice cN PN dN) 28) := hbx
    clear hb hbx HT_3 GH_3 QH_3 GN_3
    refine (CPS.out _ _ GH_4.out).mono ?_
    rintro r w5 ⟨vS, rfl, hO, hb⟩
    obtain ⟨aS, bS, cS, dS, rfl⟩ := hO.form
    have HT_5 : Hid (Below w.heap.size w w5) := bTrans HT_4.out hb
    have GH_5 : Hid (HI w5 (.agg #[.slice aH W.length bH, .int .i64 t, .slice cH n dH]) W t n E) := GH_4.out.keep hb
    have QH_5 : Hid (Box3 w5 w1.heap.size (.slice aH W.length bH) (.int .i64 t) (.slice cH n dH) 28) := QH_4.out.keep hb
    have GN_5 : Hid (HI w5 (.agg #[.slice aN PW.length bN, .int .i64 PT, .slice cN PN dN]) PW PT PN PE) := GN_4.out.keep hb
    have QN_5 : Hid (Box3 w5 w3.heap.size (.slice aN PW.length bN) (.int .i64 PT) (.slice cN PN dN) 28) := QN_4.out.keep hb
    clear hb hO HT_4 GH_4 QH_4 GN_4 QN_4
    go_wp2_with fail
    have hb : Below w5.heap.size w5 (w5.alloc (.cells #[.slice aS PW.length bS, .int .i64 PT, .slice cS PN dS] 28)) := bAlloc (Below.refl _ _) _
    generalize w5.alloc (.cells #[.slice aS PW.length bS, .int .i64 PT, .slice cS PN dS] 28) = w6 at *
    have HT_6 : Hid (Below w.heap.size w w6) := bTrans HT_5.out hb
    have GH_6 : Hid (HI w6 (.agg #[.slice aH W.length bH, .int .i64 t, .slice cH n dH]) W t n E) := GH_5.out.keep hb
    have QH_6 : Hid (Box3 w6 w1.heap.size (.slice aH W.length bH) (.int .i64 t) (.slice cH n dH) 28) := QH_5.out.keep hb
    have GN_6 : Hid (HI w6 (.agg #[.slice aN PW.length bN, .int .i64 PT, .slice cN PN dN]) PW PT PN PE) := GN_5.out.keep hb
    have QN_6 : Hid (Box3 w6 w3.heap.size (.slice aN PW.length bN) (.int .i64 PT) (.slice cN PN dN) 28) := QN_5.out.keep hb
    clear hb  HT_5 GH_5 QH_5 GN_5 QN_5
    have pQH0 := QH_6.out.c0
    have pQH1 := QH_6.out.c1
    have pQH2 := QH_6.out.c2
    have KA : Hid (∀ V, Below w6.heap.size w6 V → HI V (.agg #[.slice aH W.length bH, .int .i64 t, .slice cH n dH]) W t n E ∧ (V.cell? ⟨w1.heap.size, 0, none⟩ = some (.slice aH W.length bH) ∧ V.cell? ⟨w1.heap.size, 1, none⟩ = some (.int .i64 t) ∧ V.cell? ⟨w1.heap.size, 2, none⟩ = some (.slice cH n dH))) := fun V hb => ⟨GH_6.out.keep hb, (QH_6.out.keep hb).c0, (QH_6.out.keep hb).c1, (QH_6.out.keep hb).c2⟩
    go_region_held3 (fun w' => w'.cell? ⟨w1.heap.size, 0, none⟩ = some (.slice aH W.length bH) ∧ w'.cell? ⟨w1.heap.size, 1, none⟩ = some (.int .i64 t) ∧ w'.cell? ⟨w1.heap.size, 2, none⟩ = some (.slice cH n dH))
      (first | (refine (KA.out _ ?_).2; (repeat first | with_reducible exact Below.refl _ _ | with_reducible exact B2.out | with_reducible exact B1.out | with_reducible refine bAlloc ?_ _ | with_reducible refine Below.drew ?_); done) | go_keep)
      (first
        | (go_at_call 15; refine (CU.out _ _ (KA.out _ (by repeat first | with_reducible exact Below.refl _ _ | with_reducible refine bAlloc ?_ _ | with_reducible refine Below.drew ?_)).1).mono ?_; rintro r x1 ⟨rfl, hb1⟩; have B1 : Hid (Below w6.heap.size w6 x1) := bTrans (show Below w6.heap.size w6 _ from (by repeat first | with_reducible exact Below.refl _ _ | with_reducible refine bAlloc ?_ _ | with_reducible refine Below.drew ?_)) hb1; clear hb1)
        | (go_at_call 29; refine (CV.out _ _ (KA.out _ (by repeat first | with_reducible exact Below.refl _ _ | with_reducible exact B1.out | with_reducible refine bAlloc ?_ _ | with_reducible refine Below.drew ?_)).1).mono ?_; rintro r x2 ⟨rfl, hb2⟩; have B2 : Hid (Below w6.heap.size w6 x2) := bTrans (show Below w6.heap.size w6 _ from (by repeat first | with_reducible exact Below.refl _ _ | with_reducible exact B1.out | with_reducible refine bAlloc ?_ _ | with_reducible refine Below.drew ?_)) hb2; clear hb2))
    all_goals
      clear pQH0 pQH1 pQH2
      have HT_x : Hid (Below w.heap.size w x2) := bTrans HT_6.out B2.out
      have GH_x : Hid (HI x2 (.agg #[.slice aH W.length bH, .int .i64 t, .slice cH n dH]) W t n E) := GH_6.out.keep B2.out
      have GN_x : Hid (HI x2 (.agg #[.slice aN PW.length bN, .int .i64 PT, .slice cN PN dN]) PW PT PN PE) := GN_6.out.keep B2.out
      have QH_x : Hid (Box3 x2 w1.heap.size (.slice aH W.length bH) (.int .i64 t) (.slice cH n dH) 28) := QH_6.out.keep B2.out
      have QN_x : Hid (Box3 x2 w3.heap.size (.slice aN PW.length bN) (.int .i64 PT) (.slice cN PN dN) 28) := QN_6.out.keep B2.out
      clear B1 B2 KA HT_6 GH_6 GN_6 QH_6 QN_6
      have ph0 := QH_x.out.c0
      have ph1 := QH_x.out.c1
      have ph2 := QH_x.out.c2
      have pn0 := QN_x.out.c0
      have hz : ((PW.length : Int) == 0) = true := by rw [EZ.out.1]; rfl
      have hu : (UU == -1) = true := by rw [EZ.out.2]; rfl
      go_wp2_with fail
      refine (CU.out _ _ GH_x.out).mono ?_
      rintro r y1 ⟨rfl, hb⟩
      have HTY : Hid (Below w.heap.size w y1) := bTrans HT_x.out hb
      clear hb
      go_wp2
      go_ret
      exact ⟨by rw [EZ.out.2]; rfl, HTY.out⟩

/-! ### THE ROW's STEP: WRITTEN OUT: LEAVE IT -/
set_option maxRecDepth 100000 in
theorem lifted (os : Os) (started : os.Started) (H : Type) (enc : TypeId × Value → H) :
    ReturnsInHanded {} Try.checked os 7 .any (Rows.fnPackedSpec.pre6 enc Try.prog Try.f7 Rows.fnPackedRow.domain false) (Rows.fnPackedSpec.post enc Try.prog Try.f7 false true false false) := by
  refine returnsInHanded_of_change (C := Try.checked) own started (by kernel_rfl) Try.func7
    (ChangeSpec.witness6 (enc := enc) (C := Try.checked) false ⟨#[], #[.slice none 0 0], []⟩ 8 (by kernel_rfl) (by kernel_rfl) (by kernel_rfl) (by kernel_rfl)) ?_
  intro W base args ds gs before hval0 hW hcnd _
  have hval : ∀ (j : Nat) t v, Try.f7.params[j]? = some t → args[j]? = some v → Value.okWide Try.prog W .any base t v := hval0
  have hW' := hW
  obtain ⟨p, q, hA0, hV, rfl, hfz, hnd⟩ := hW
  have hA : DataW.TrodAll enc Try.prog W 0 (fun _ => true) true Try.f7.params.toList args.toList ds p := hA0
  rw [Try.params7] at hA hval
  obtain ⟨v0, vs0, d0, ds0, p0, q0, hargs, rfl, rfl, h0, r0⟩ := trodAll_cons hA
  obtain ⟨rfl, rfl, rfl⟩ := trodAll_nil r0
  obtain rfl : args = #[v0] := by cases args; simp_all
  obtain ⟨rfl, rfl⟩ := trodVars_none hV
  obtain ⟨a0, len0, cap0, rfl⟩ := okWide_slice Try.underlying22 (hval 0 22 v0 rfl rfl)
  have k0 := h0
  have lt0 : ∀ x ∈ p0, x.block < W.heap.size := by obtain ⟨m, hm⟩ := k0; exact DataW.trod_lt m _ _ _ hm
  obtain ⟨z0, w0⟩ : ∃ zs, IsRow .u8 W a0 len0 cap0 zs := by
    obtain ⟨fuel, hf⟩ := h0
    rcases open_ints Try.underlying22 Try.underlying5 (by kernel_rfl) hf with ⟨hcs, _⟩ | ⟨x, l, c, zs, hcs, _, hl, hm, hz, _, hcell, hwz⟩
    · simp [Value.cells] at hcs
      obtain ⟨rfl, rfl, rfl⟩ := hcs
      exact ⟨[], .inl ⟨rfl, rfl, rfl, rfl⟩⟩
    · simp [Value.cells] at hcs
      obtain ⟨rfl, rfl, rfl⟩ := hcs
      exact ⟨zs, .inr ⟨_, rfl, hl, hm, by simpa using hz, hcell, hwz⟩⟩
  clear hA0 hval0
  refine (walk a0 len0 cap0 z0 W w0).mono fun e W' ⟨he, bel⟩ => ?_
  subst he
  exact ⟨_, rfl, _, _, _, [], _, [], hW', trodAll_mk1 (shut_bool Try.underlying4 _), (trodAll_cons_mk (Below.trod laidOut (by kernel_rfl) (of_decide_eq_true (by kernel_rfl)) k0 bel lt0) trodAll_mk0), rfl, bel.frame _, fun h => by cases h⟩

theorem over : Rows.fnPackedRow.holds Try.pinned (OpenSpec.ofChange Rows.fnPackedSpec) :=
  OpenClaim.holds_of_wide 7 Try.f7 rfl rfl rfl rfl rfl rfl rfl ⟨rfl, rfl, rfl, rfl, rfl⟩ rfl rfl rfl rfl rfl (by kernel_rfl) Try.func7 (by kernel_rfl)
    (of_decide_eq_true (by kernel_rfl)) (by unfold Func.isWrapper; first | (rw [if_pos (by decide +kernel)]; kernel_rfl) | (rw [if_neg (by decide +kernel)]; exact ⟨rfl, rfl⟩))
    (fun os started H enc _ => lifted os started H enc)

/-- ████ THE STATEMENT ████ -/
theorem proved : Rows.FnPackedSaid := over
end Go.Proofs.Ytmmjidhpmbcoiaa.fnPacked
namespace Go.Proofs.Ytmmjidhpmbcoiaa
theorem fnPacked_holds : Rows.FnPackedSaid := fnPacked.proved
#print axioms fnPacked_holds
end Go.Proofs.Ytmmjidhpmbcoiaa
