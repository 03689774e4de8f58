/-
  Proved: whatever code it is given, the law FnDropped returns true: what is dropped from the drawn heap is got no more and not dropped again, all else is got as before, and so many words fewer are in use.
-/
import Derived.Test.YtmmjidhpmbcoiaaRows
import Derived.WalkKit
import Derived.ProofKit
import Derived.OpenShut
import Derived.ShutString
import Derived.ChangeOld
import Derived.Below
import Derived.Test.YtmmjidhpmbcoiaaZ3
import Derived.Test.YtmmjidhpmbcoiaaLaw3
namespace Go.Proofs.Ytmmjidhpmbcoiaa.fnDropped
open Go.ChangeShapes Go.WideShapes Go.ChangeAt Go.RowKit
open Go.ChangeMaps (open_string shut_string)
set_option linter.unusedVariables false
set_option linter.unusedSimpArgs false
set_option linter.unusedVariables false

theorem own : ownKnob Try.prog.godebug = none := by kernel_rfl
theorem laidOut : laidOutB Try.prog = true := by kernel_rfl

/-! ### STEP 1: THE WALK: the Go text returns true, AND WRITES NOTHING THAT WAS THERE: 'Below w.heap.size w w'' (Derived/Below.lean: '.refl', '.alloc', '.drew', '.setCell' at a new block, '.trans'). Open each 'IsRow' by 'rcases' AHEAD of 'go_enter'; part every test ahead of the walk. -/
set_option maxRecDepth 20000 in
set_option maxHeartbeats 8000000 in
theorem walk (a0 : Option Addr) (len0 cap0 : Nat) (z0 : List Int) (w : World) (w0 : IsRow .u8 w a0 len0 cap0 z0) :
    Calls Try.prog 5 #[.slice a0 len0 cap0] w fun e w' => e = .returned (.bool true) ∧ Below w.heap.size w w' := by
  have HS : Hid (Src w.heap.size w a0 len0) := src_of_row w0
  clear w0
  by_cases hbig : (1048576 : Int) < (len0 : Int)
  · go_enter Try.func5, Try.ntmps5
    go_wp2_with (go_at_call 9; refine (big_laws _ _ _ _).mono ?_; rintro e w' ⟨rfl, hw⟩; subst w')
    go_ret
    exact ⟨rfl, Below.refl _ _⟩
  have hb20 : len0 ≤ 1048576 := by omega
  go_enter Try.func5, Try.ntmps5
  go_wp2_with (go_at_call 9; refine (big_laws _ _ _ _).mono ?_; rintro e w' ⟨rfl, hw⟩; subst w')
  refine (drawDrop_spec HS.out hb20).mono ?_
  rintro r w1 ⟨vH, i, W, t, n, E, rfl, hG, hV, hb⟩
  obtain ⟨aH, bH, cH, dH, rfl⟩ := hG.form
  have HT_1 : Hid (Below w.heap.size w w1) := hb
  have GH_1 : Hid (HI w1 (.agg #[.slice aH W.length bH, .int .i64 t, .slice cH n dH]) W t n E) := hG
  have HV : Hid (HpV W t n E) := hV
  clear hb hG hV HS hbig hb20
  by_cases hB : (hOkB W.length t n E && liveB n E i) = true
  · skip
    obtain ⟨OKH, ⟨j, hij, hjn⟩, e1, e2, e3, FN, z1, z2, z3, z4, z5, z6, z7⟩ := drop_facts HV.out hB
    subst hij
    obtain ⟨DE, hDE⟩ : ∃ y, y = dropE n E (j : Int) := ⟨_, rfl⟩
    obtain ⟨UU, hUU⟩ : ∃ y, y = usedH W.length t n E := ⟨_, rfl⟩
    obtain ⟨LL, hLL⟩ : ∃ y, y = (E j).l := ⟨_, rfl⟩
    simp only [Int.toNat_natCast] at z6
    rw [← hDE] at FN z1 z2 z3 z4 z5 z6 z7
    rw [← hUU, ← hLL] at z6
    have hLb := ok_l OKH hjn
    have hUb := used_le OKH n (Nat.le_refl _)
    have hn0 := OKH.2.2.2.1
    have UB : Hid (IntKind.i64.wrap (UU - LL) = UU - LL) := by
      show _ = _
      rw [used_ok OKH] at hUU
      rw [IntKind.wrap_i64, hUU, hLL]
      omega
    have CDI : Hid (∀ (V : World) (v : Value), HI V v W t n E → Calls Try.prog 19 #[v, .int .i64 (j : Int)] V fun e w' => ∃ v', e = .returned (.tuple #[v', .bool true]) ∧ HI w' v' W t n DE ∧ Below V.heap.size V w') := fun V v h => by
      have q := hdropI HV.out h (j : Int)
      rw [hB, e1, e2, e3, ← hDE] at q
      exact q
    have CDS : Hid (∀ (V : World) (v : Value), HI V v W t n E → Calls Try.prog 24 #[v, .int .i64 (j : Int)] V fun e w' => ∃ v', e = .returned (.tuple #[v', .bool true]) ∧ HI w' v' W t n DE ∧ Below V.heap.size V w') := fun V v h => by
      have q := hdropS HV.out h (j : Int)
      rw [hB, e1, e2, e3, ← hDE] at q
      exact q
    have CGN : Hid (∀ (V : World) (v : Value), HI V v W t n DE → Calls Try.prog 21 #[v, .int .i64 (j : Int)] V fun e w' => ∃ a b c d, e = .returned (.tuple #[.agg #[.slice a 0 b, .slice c 0 d], .bool false]) ∧ Below V.heap.size V w') := fun V v h => by
      have q := hgetI FN.v h (j : Int)
      rw [z1, z2, z3] at q
      refine q.mono ?_
      rintro e w' ⟨v', rfl, ha, hb⟩
      obtain ⟨a, b, c, d, rfl⟩ := ha.form
      exact ⟨a, b, c, d, rfl, hb⟩
    have CD2 : Hid (∀ (V : World) (v : Value), HI V v W t n DE → Calls Try.prog 19 #[v, .int .i64 (j : Int)] V fun e w' => ∃ v', e = .returned (.tuple #[v', .bool false]) ∧ HI w' v' W t n (dropE n DE (j : Int)) ∧ Below V.heap.size V w') := fun V v h => by
      have q := hdropI FN.v h (j : Int)
      rw [z4, show drpW W t n DE = W from if_pos z5, show drpT W t n DE = t from if_pos z5, show drpN W t n DE = n from if_pos z5] at q
      exact q
    have CK : Hid (∀ (V : World) (v : Value), HI V v W t n DE → Calls Try.prog 16 #[v] V fun e w' => e = .returned (.bool true) ∧ Below V.heap.size V w') := fun V v h => by
      have q := hokI FN.v h
      rw [z5] at q
      exact q
    have CU : Hid (∀ (V : World) (v : Value), HI V v W t n E → Calls Try.prog 15 #[v] V fun e w' => e = .returned (.int .i64 UU) ∧ Below V.heap.size V w') := fun V v h => by
      have q := husedI HV.out h
      rw [← hUU] at q
      exact q
    have CV : Hid (∀ (V : World) (v : Value), HI V v W t n DE → Calls Try.prog 15 #[v] V fun e w' => e = .returned (.int .i64 (UU - LL)) ∧ Below V.heap.size V w') := fun V v h => by
      have q := husedI FN.v h
      rw [z6] at q
      exact q
    have CG : Hid (∀ k : Nat, k < n → ∃ (gb : Bool) (gs gd : List Int) (gb' : Bool) (gs' gd' : List Int), (gs.length ≤ 1048576 ∧ gd.length ≤ 1048576) ∧ (¬ k = j → gb' = gb ∧ gs' = gs ∧ gd' = gd) ∧
        (∀ (V : World) (v : Value), HI V v W t n E → Calls Try.prog 20 #[v, .int .i64 (k : Int)] V fun e w' => ∃ v', e = .returned (.tuple #[v', .bool gb]) ∧ ArrI w' v' gs gd ∧ Below V.heap.size V w') ∧
        (∀ (V : World) (v : Value), HI V v W t n DE → Calls Try.prog 21 #[v, .int .i64 (k : Int)] V fun e w' => ∃ v', e = .returned (.tuple #[v', .bool gb']) ∧ ArrI w' v' gs' gd' ∧ Below V.heap.size V w')) := fun k hk => by
      refine ⟨gB W t n E k, gS W t n E k, gD W t n E k, gB W t n DE k, gS W t n DE k, gD W t n DE k, gs_len _ _ _ _ _ HV.out.2.1, fun hne => get_eq (z7 k (by omega)), fun V v h => hgetS HV.out h k, fun V v h => hgetI FN.v h k⟩
    have NB : Hid (n ≤ 201 ∧ j < n) := ⟨HV.out.2.2, hjn⟩
    have CC : Hid (∀ (V : World), HI V (.agg #[.slice aH W.length bH, .int .i64 t, .slice cH n dH]) W t n E → ∃ o off, cH = some ⟨o, off, none⟩ ∧ V.cell? ⟨o, off + j * 3 + 1, none⟩ = some (.int .i64 LL)) := fun V h => by
      obtain ⟨_, _, _, _, e, _, _, hc, _⟩ := h
      cases e
      obtain ⟨o, off, e, _, _, p1, _⟩ := hc.at hjn
      exact ⟨o, off, e, by rw [hLL]; exact p1⟩
    clear OKH e1 e2 e3 FN z1 z2 z3 z4 z5 z6 z7 hDE hUU hLL hLb hUb hn0 hB hjn
    go_wp2_with fail
    have hb : Below w1.heap.size w1 (w1.alloc (.cells #[.slice aH W.length bH, .int .i64 t, .slice cH n dH] 28)) := bAlloc (Below.refl _ _) _
    have hbx : Box3 (w1.alloc (.cells #[.slice aH W.length bH, .int .i64 t, .slice cH n dH] 28)) w1.heap.size (.slice aH W.length bH) (.int .i64 t) (.slice cH n dH) 28 := heap_alloc_new _ _
    generalize w1.alloc (.cells #[.slice aH W.length bH, .int .i64 t, .slice cH n dH] 28) = w2 at *
    have HT_2 : Hid (Below w.heap.size w w2) := bTrans HT_1.out hb
    have GH_2 : Hid (HI w2 (.agg #[.slice aH W.length bH, .int .i64 t, .slice cH n dH]) W t n E) := GH_1.out.keep hb
    have QH_2 : Hid (Box3 w2 w1.heap.size (.slice aH W.length bH) (.int .i64 t) (.slice cH n dH) 28) := hbx
    clear hb hbx HT_1 GH_1
    refine (CDI.out _ _ GH_2.out).mono ?_
    rintro r w3 ⟨vN, rfl, hO, hb⟩
    obtain ⟨aN, bN, cN, dN, rfl⟩ := hO.form
    have HT_3 : Hid (Below w.heap.size w w3) := bTrans HT_2.out hb
    have GH_3 : Hid (HI w3 (.agg #[.slice aH W.length bH, .int .i64 t, .slice cH n dH]) W t n E) := GH_2.out.keep hb
    have QH_3 : Hid (Box3 w3 w1.heap.size (.slice aH W.length bH) (.int .i64 t) (.slice cH n dH) 28) := QH_2.out.keep hb
    have GN_3 : Hid (HI w3 (.agg #[.slice aN W.length bN, .int .i64 t, .slice cN n dN]) W t n DE) := hO
    clear hb hO HT_2 GH_2 QH_2
    have pQH0 := QH_3.out.c0
    have dQH0 : ∀ ob : Obj, (w3.alloc ob).cell? ⟨w1.heap.size, 0, none⟩ = some (.slice aH W.length bH) := fun ob => (QH_3.out.keep (bAlloc (Below.refl _ _) ob)).c0
    have pQH1 := QH_3.out.c1
    have dQH1 : ∀ ob : Obj, (w3.alloc ob).cell? ⟨w1.heap.size, 1, none⟩ = some (.int .i64 t) := fun ob => (QH_3.out.keep (bAlloc (Below.refl _ _) ob)).c1
    have pQH2 := QH_3.out.c2
    have dQH2 : ∀ ob : Obj, (w3.alloc ob).cell? ⟨w1.heap.size, 2, none⟩ = some (.slice cH n dH) := fun ob => (QH_3.out.keep (bAlloc (Below.refl _ _) ob)).c2
    go_wp2_with fail
    clear pQH0 dQH0 pQH1 dQH1 pQH2 dQH2
    have hb : Below w3.heap.size w3 (w3.alloc (.cells #[.slice aN W.length bN, .int .i64 t, .slice cN n dN] 28)) := bAlloc (Below.refl _ _) _
    have hbx : Box3 (w3.alloc (.cells #[.slice aN W.length bN, .int .i64 t, .slice cN n dN] 28)) w3.heap.size (.slice aN W.length bN) (.int .i64 t) (.slice cN n dN) 28 := heap_alloc_new _ _
    generalize w3.alloc (.cells #[.slice aN W.length bN, .int .i64 t, .slice cN n dN] 28) = w4 at *
    have HT_4 : Hid (Below w.heap.size w w4) := bTrans HT_3.out hb
    have GH_4 : Hid (HI w4 (.agg #[.slice aH W.length bH, .int .i64 t, .slice cH n dH]) W t n E) := GH_3.out.keep hb
    have QH_4 : Hid (Box3 w4 w1.heap.size (.slice aH W.length bH) (.int .i64 t) (.slice cH n dH) 28) := QH_3.out.keep hb
    have GN_4 : Hid (HI w4 (.agg #[.slice aN W.length bN, .int .i64 t, .slice cN n dN]) W t n DE) := GN_3.out.keep hb
    have QN_4 : Hid (Box3 w4 w3.heap.size (.slice aN W.length bN) (.int .i64 t) (.slice cN n dN) 28) := hbx
    clear hb hbx HT_3 GH_3 QH_3 GN_3
    refine (CDS.out _ _ GH_4.out).mono ?_
    rintro r w5 ⟨vS, rfl, hO, hb⟩
    obtain ⟨aS, bS, cS, dS, rfl⟩ := hO.form
    have HT_5 : Hid (Below w.heap.size w w5) := bTrans HT_4.out hb
    have GH_5 : Hid (HI w5 (.agg #[.slice aH W.length bH, .int .i64 t, .slice cH n dH]) W t n E) := GH_4.out.keep hb
    have QH_5 : Hid (Box3 w5 w1.heap.size (.slice aH W.length bH) (.int .i64 t) (.slice cH n dH) 28) := QH_4.out.keep hb
    have GN_5 : Hid (HI w5 (.agg #[.slice aN W.length bN, .int .i64 t, .slice cN n dN]) W t n DE) := GN_4.out.keep hb
    have QN_5 : Hid (Box3 w5 w3.heap.size (.slice aN W.length bN) (.int .i64 t) (.slice cN n dN) 28) := QN_4.out.keep hb
    clear hb hO HT_4 GH_4 QH_4 GN_4 QN_4
    have pQH0 := QH_5.out.c0
    have dQH0 : ∀ ob : Obj, (w5.alloc ob).cell? ⟨w1.heap.size, 0, none⟩ = some (.slice aH W.length bH) := fun ob => (QH_5.out.keep (bAlloc (Below.refl _ _) ob)).c0
    have pQH1 := QH_5.out.c1
    have dQH1 : ∀ ob : Obj, (w5.alloc ob).cell? ⟨w1.heap.size, 1, none⟩ = some (.int .i64 t) := fun ob => (QH_5.out.keep (bAlloc (Below.refl _ _) ob)).c1
    have pQH2 := QH_5.out.c2
    have dQH2 : ∀ ob : Obj, (w5.alloc ob).cell? ⟨w1.heap.size, 2, none⟩ = some (.slice cH n dH) := fun ob => (QH_5.out.keep (bAlloc (Below.refl _ _) ob)).c2
    have pQN0 := QN_5.out.c0
    have dQN0 : ∀ ob : Obj, (w5.alloc ob).cell? ⟨w3.heap.size, 0, none⟩ = some (.slice aN W.length bN) := fun ob => (QN_5.out.keep (bAlloc (Below.refl _ _) ob)).c0
    have pQN1 := QN_5.out.c1
    have dQN1 : ∀ ob : Obj, (w5.alloc ob).cell? ⟨w3.heap.size, 1, none⟩ = some (.int .i64 t) := fun ob => (QN_5.out.keep (bAlloc (Below.refl _ _) ob)).c1
    have pQN2 := QN_5.out.c2
    have dQN2 : ∀ ob : Obj, (w5.alloc ob).cell? ⟨w3.heap.size, 2, none⟩ = some (.slice cN n dN) := fun ob => (QN_5.out.keep (bAlloc (Below.refl _ _) ob)).c2
    go_wp2_with fail
    clear pQH0 dQH0 pQH1 dQH1 pQH2 dQH2 pQN0 dQN0 pQN1 dQN1 pQN2 dQN2
    have hb : Below w5.heap.size w5 (w5.alloc (.cells #[.slice aS W.length bS, .int .i64 t, .slice cS n dS] 28)) := bAlloc (Below.refl _ _) _
    generalize w5.alloc (.cells #[.slice aS W.length bS, .int .i64 t, .slice cS n dS] 28) = w6 at *
    have HT_6 : Hid (Below w.heap.size w w6) := bTrans HT_5.out hb
    have GH_6 : Hid (HI w6 (.agg #[.slice aH W.length bH, .int .i64 t, .slice cH n dH]) W t n E) := GH_5.out.keep hb
    have QH_6 : Hid (Box3 w6 w1.heap.size (.slice aH W.length bH) (.int .i64 t) (.slice cH n dH) 28) := QH_5.out.keep hb
    have GN_6 : Hid (HI w6 (.agg #[.slice aN W.length bN, .int .i64 t, .slice cN n dN]) W t n DE) := GN_5.out.keep hb
    have QN_6 : Hid (Box3 w6 w3.heap.size (.slice aN W.length bN) (.int .i64 t) (.slice cN n dN) 28) := QN_5.out.keep hb
    clear hb  HT_5 GH_5 QH_5 GN_5 QN_5
    refine (CGN.out _ _ GN_6.out).mono ?_
    rintro r w7 ⟨aG, bG, cG, dG, rfl, hb⟩
    have HT_7 : Hid (Below w.heap.size w w7) := bTrans HT_6.out hb
    have GH_7 : Hid (HI w7 (.agg #[.slice aH W.length bH, .int .i64 t, .slice cH n dH]) W t n E) := GH_6.out.keep hb
    have QH_7 : Hid (Box3 w7 w1.heap.size (.slice aH W.length bH) (.int .i64 t) (.slice cH n dH) 28) := QH_6.out.keep hb
    have GN_7 : Hid (HI w7 (.agg #[.slice aN W.length bN, .int .i64 t, .slice cN n dN]) W t n DE) := GN_6.out.keep hb
    have QN_7 : Hid (Box3 w7 w3.heap.size (.slice aN W.length bN) (.int .i64 t) (.slice cN n dN) 28) := QN_6.out.keep hb
    clear hb  HT_6 GH_6 QH_6 GN_6 QN_6
    have pQN0 := QN_7.out.c0
    have dQN0 : ∀ ob : Obj, (w7.alloc ob).cell? ⟨w3.heap.size, 0, none⟩ = some (.slice aN W.length bN) := fun ob => (QN_7.out.keep (bAlloc (Below.refl _ _) ob)).c0
    have pQN1 := QN_7.out.c1
    have dQN1 : ∀ ob : Obj, (w7.alloc ob).cell? ⟨w3.heap.size, 1, none⟩ = some (.int .i64 t) := fun ob => (QN_7.out.keep (bAlloc (Below.refl _ _) ob)).c1
    have pQN2 := QN_7.out.c2
    have dQN2 : ∀ ob : Obj, (w7.alloc ob).cell? ⟨w3.heap.size, 2, none⟩ = some (.slice cN n dN) := fun ob => (QN_7.out.keep (bAlloc (Below.refl _ _) ob)).c2
    go_wp2_with fail
    clear pQN0 dQN0 pQN1 dQN1 pQN2 dQN2
    have hb : Below w7.heap.size w7 (w7.alloc (.cells #[.slice aG 0 bG, .slice cG 0 dG] 32)) := bAlloc (Below.refl _ _) _
    generalize w7.alloc (.cells #[.slice aG 0 bG, .slice cG 0 dG] 32) = w8 at *
    have HT_8 : Hid (Below w.heap.size w w8) := bTrans HT_7.out hb
    have GH_8 : Hid (HI w8 (.agg #[.slice aH W.length bH, .int .i64 t, .slice cH n dH]) W t n E) := GH_7.out.keep hb
    have QH_8 : Hid (Box3 w8 w1.heap.size (.slice aH W.length bH) (.int .i64 t) (.slice cH n dH) 28) := QH_7.out.keep hb
    have GN_8 : Hid (HI w8 (.agg #[.slice aN W.length bN, .int .i64 t, .slice cN n dN]) W t n DE) := GN_7.out.keep hb
    have QN_8 : Hid (Box3 w8 w3.heap.size (.slice aN W.length bN) (.int .i64 t) (.slice cN n dN) 28) := QN_7.out.keep hb
    clear hb  HT_7 GH_7 QH_7 GN_7 QN_7
    refine (CD2.out _ _ GN_8.out).mono ?_
    rintro r w9 ⟨vT, rfl, hO, hb⟩
    obtain ⟨aT, bT, cT, dT, rfl⟩ := hO.form
    have HT_9 : Hid (Below w.heap.size w w9) := bTrans HT_8.out hb
    have GH_9 : Hid (HI w9 (.agg #[.slice aH W.length bH, .int .i64 t, .slice cH n dH]) W t n E) := GH_8.out.keep hb
    have QH_9 : Hid (Box3 w9 w1.heap.size (.slice aH W.length bH) (.int .i64 t) (.slice cH n dH) 28) := QH_8.out.keep hb
    have GN_9 : Hid (HI w9 (.agg #[.slice aN W.length bN, .int .i64 t, .slice cN n dN]) W t n DE) := GN_8.out.keep hb
    have QN_9 : Hid (Box3 w9 w3.heap.size (.slice aN W.length bN) (.int .i64 t) (.slice cN n dN) 28) := QN_8.out.keep hb
    clear hb hO HT_8 GH_8 QH_8 GN_8 QN_8
    go_wp2_with fail
    have hb : Below w9.heap.size w9 (w9.alloc (.cells #[.slice aT W.length bT, .int .i64 t, .slice cT n dT] 28)) := bAlloc (Below.refl _ _) _
    generalize w9.alloc (.cells #[.slice aT W.length bT, .int .i64 t, .slice cT n dT] 28) = w10 at *
    have HT_10 : Hid (Below w.heap.size w w10) := bTrans HT_9.out hb
    have GH_10 : Hid (HI w10 (.agg #[.slice aH W.length bH, .int .i64 t, .slice cH n dH]) W t n E) := GH_9.out.keep hb
    have QH_10 : Hid (Box3 w10 w1.heap.size (.slice aH W.length bH) (.int .i64 t) (.slice cH n dH) 28) := QH_9.out.keep hb
    have GN_10 : Hid (HI w10 (.agg #[.slice aN W.length bN, .int .i64 t, .slice cN n dN]) W t n DE) := GN_9.out.keep hb
    have QN_10 : Hid (Box3 w10 w3.heap.size (.slice aN W.length bN) (.int .i64 t) (.slice cN n dN) 28) := QN_9.out.keep hb
    clear hb  HT_9 GH_9 QH_9 GN_9 QN_9
    obtain ⟨oc, off, ecH, _⟩ := CC.out _ GH_10.out
    subst ecH
    have KB : Hid (∀ V, Below w10.heap.size w10 V → HI V (.agg #[.slice aH W.length bH, .int .i64 t, .slice (some ⟨oc, off, none⟩) n dH]) W t n E ∧ HI V (.agg #[.slice aN W.length bN, .int .i64 t, .slice cN n dN]) W t n DE ∧ (V.cell? ⟨w1.heap.size, 0, none⟩ = some (.slice aH W.length bH) ∧ V.cell? ⟨w1.heap.size, 1, none⟩ = some (.int .i64 t) ∧ V.cell? ⟨w1.heap.size, 2, none⟩ = some (.slice (some ⟨oc, off, none⟩) n dH) ∧ V.cell? ⟨w3.heap.size, 0, none⟩ = some (.slice aN W.length bN) ∧ V.cell? ⟨w3.heap.size, 1, none⟩ = some (.int .i64 t) ∧ V.cell? ⟨w3.heap.size, 2, none⟩ = some (.slice cN n dN)) ∧ V.cell? ⟨oc, off + j * 3 + 1, none⟩ = some (.int .i64 LL)) := fun V hb => ⟨GH_10.out.keep hb, GN_10.out.keep hb, ⟨(QH_10.out.keep hb).c0, (QH_10.out.keep hb).c1, (QH_10.out.keep hb).c2, (QN_10.out.keep hb).c0, (QN_10.out.keep hb).c1, (QN_10.out.keep hb).c2⟩, by
      obtain ⟨o, f, e, q⟩ := CC.out _ (GH_10.out.keep hb)
      cases e
      exact q⟩
    go_loopw [13] (fun i w' => ∃ k : Nat, k ≤ n ∧ i = .int .i64 (k : Int) ∧ Below w10.heap.size w10 w') (fun i _ => n - (intOf i).toNat)
    case atStart => exact ⟨0, by omega, rfl, Below.refl _ _⟩
    case round =>
      obtain ⟨k, hk, rfl, hr⟩ := hrel
      have BR : Hid (Below w10.heap.size w10 wr) := hr
      obtain ⟨_, _, ⟨ph0, ph1, ph2, pn0, pn1, pn2⟩, pc⟩ := KB.out wr hr
      clear hr
      have hnb := NB.out.1
      by_cases hlt : (k : Int) < (n : Int)
      · obtain ⟨gb, gs, gd, gb', gs', gd', hle, heq, cs, ci⟩ := CG.out k (by omega)
        have CGS : Hid (∀ (V : World) (v : Value), HI V v W t n E → Calls Try.prog 20 #[v, .int .i64 (k : Int)] V fun e w' => ∃ v', e = .returned (.tuple #[v', .bool gb]) ∧ ArrI w' v' gs gd ∧ Below V.heap.size V w') := cs
        have CGI : Hid (∀ (V : World) (v : Value), HI V v W t n DE → Calls Try.prog 21 #[v, .int .i64 (k : Int)] V fun e w' => ∃ v', e = .returned (.tuple #[v', .bool gb']) ∧ ArrI w' v' gs' gd' ∧ Below V.heap.size V w') := ci
        have LE : Hid (gs.length ≤ 1048576 ∧ gd.length ≤ 1048576) := hle
        have EQ : Hid (¬ k = j → gb' = gb ∧ gs' = gs ∧ gd' = gd) := heq
        clear hle heq cs ci pn0 pn1 pn2 pc
        go_wp2_with fail
        refine (CGS.out _ _ (KB.out _ BR.out).1).mono ?_
        rintro r r1 ⟨vX, rfl, ha, hb⟩
        obtain ⟨aX, bX, cX, dX, rfl⟩ := ha.form
        have BR1 : Hid (Below w10.heap.size w10 r1) := bTrans BR.out hb
        have AX1 : Hid (ArrI r1 (.agg #[.slice aX gs.length bX, .slice cX gd.length dX]) gs gd) := ha
        clear ha hb ph0 ph1 ph2
        obtain ⟨_, _, ⟨_, _, _, ph0, ph1, ph2⟩, _⟩ := KB.out _ BR1.out
        have pd0 := fun ob => (KB.out _ (bAlloc BR1.out ob)).2.2.1.2.2.2.1
        have pd1 := fun ob => (KB.out _ (bAlloc BR1.out ob)).2.2.1.2.2.2.2.1
        have pd2 := fun ob => (KB.out _ (bAlloc BR1.out ob)).2.2.1.2.2.2.2.2
        go_wp2_with fail
        clear ph0 ph1 ph2 pd0 pd1 pd2
        have hbx : Box (r1.alloc (.cells #[.slice aX gs.length bX, .slice cX gd.length dX] 32)) r1.heap.size (.slice aX gs.length bX) (.slice cX gd.length dX) 32 := heap_alloc_new _ _
        have hb : Below r1.heap.size r1 (r1.alloc (.cells #[.slice aX gs.length bX, .slice cX gd.length dX] 32)) := bAlloc (Below.refl _ _) _
        generalize r1.alloc (.cells #[.slice aX gs.length bX, .slice cX gd.length dX] 32) = r2 at *
        have BR2 : Hid (Below w10.heap.size w10 r2) := bTrans BR1.out hb
        have AX2 : Hid (ArrI r2 (.agg #[.slice aX gs.length bX, .slice cX gd.length dX]) gs gd) := AX1.out.keep hb
        have QX2 : Hid (Box r2 r1.heap.size (.slice aX gs.length bX) (.slice cX gd.length dX) 32) := hbx
        clear hb hbx AX1
        refine (CGI.out _ _ (KB.out _ BR2.out).2.1).mono ?_
        rintro r r3 ⟨vY, rfl, ha, hb⟩
        obtain ⟨aY, bY, cY, dY, rfl⟩ := ha.form
        have BR3 : Hid (Below w10.heap.size w10 r3) := bTrans BR2.out hb
        have AY3 : Hid (ArrI r3 (.agg #[.slice aY gs'.length bY, .slice cY gd'.length dY]) gs' gd') := ha
        have AX3 : Hid (ArrI r3 (.agg #[.slice aX gs.length bX, .slice cX gd.length dX]) gs gd) := AX2.out.keep hb
        have QX3 : Hid (Box r3 r1.heap.size (.slice aX gs.length bX) (.slice cX gd.length dX) 32) := QX2.out.keep hb
        clear ha hb AX2 QX2
        by_cases hkj : k = j
        · subst hkj
          go_wp2
          go_roundw
          case rel => exact ⟨k + 1, by omega, by go_num, bAlloc BR3.out _⟩
          case measure => simp [intOf]; omega
        obtain ⟨rfl, rfl, rfl⟩ := EQ.out hkj
        have hkb : ((k : Int) != (j : Int)) = true := by simp; omega
        have ph0 := QX3.out.c0
        have ph1 := QX3.out.c1
        have pd0 : ∀ ob : Obj, (r3.alloc ob).cell? ⟨r1.heap.size, 0, none⟩ = some (.slice aX gs'.length bX) := fun ob => (QX3.out.keep (bAlloc (Below.refl _ _) ob)).c0
        have pd1 : ∀ ob : Obj, (r3.alloc ob).cell? ⟨r1.heap.size, 1, none⟩ = some (.slice cX gd'.length dX) := fun ob => (QX3.out.keep (bAlloc (Below.refl _ _) ob)).c1
        cases gb'
        · go_wp2
          go_roundw
          case rel => exact ⟨k + 1, by omega, by go_num, bAlloc BR3.out _⟩
          case measure => simp [intOf]; omega
        · go_wp2_with fail
          clear ph0 ph1 pd0 pd1
          have hb : Below r3.heap.size r3 (r3.alloc (.cells #[.slice aY gs'.length bY, .slice cY gd'.length dY] 32)) := bAlloc (Below.refl _ _) _
          generalize r3.alloc (.cells #[.slice aY gs'.length bY, .slice cY gd'.length dY] 32) = r4 at *
          have BR4 : Hid (Below w10.heap.size w10 r4) := bTrans BR3.out hb
          refine (hsame (AX3.out.keep hb) (AY3.out.keep hb) LE.out).mono ?_
          rintro r r5 ⟨rfl, hb5⟩
          have BR5 : Hid (Below w10.heap.size w10 r5) := bTrans BR4.out hb5
          clear hb hb5
          go_wp2
          go_roundw
          case rel => exact ⟨k + 1, by omega, by go_num, BR5.out⟩
          case measure => simp [intOf]; omega
      · have hj0 : (0 : Int) ≤ (j : Int) := by omega
        have hj1 : (j : Int) < (n : Int) := by have := NB.out.2; omega
        have hwr := UB.out
        go_wp2_with fail
        go_region_held3 (fun w' => (w'.cell? ⟨w1.heap.size, 0, none⟩ = some (.slice aH W.length bH) ∧ w'.cell? ⟨w1.heap.size, 1, none⟩ = some (.int .i64 t) ∧ w'.cell? ⟨w1.heap.size, 2, none⟩ = some (.slice (some ⟨oc, off, none⟩) n dH) ∧ w'.cell? ⟨w3.heap.size, 0, none⟩ = some (.slice aN W.length bN) ∧ w'.cell? ⟨w3.heap.size, 1, none⟩ = some (.int .i64 t) ∧ w'.cell? ⟨w3.heap.size, 2, none⟩ = some (.slice cN n dN)) ∧ w'.cell? ⟨oc, off + j * 3 + 1, none⟩ = some (.int .i64 LL))
          (first | (refine (KB.out _ ?_).2.2; (repeat first | with_reducible exact BR.out | with_reducible exact B3.out | with_reducible exact B2.out | with_reducible exact B1.out | with_reducible refine bAlloc ?_ _ | with_reducible refine Below.drew ?_); done) | go_keep)
          (first
            | (go_at_call 16; refine (CK.out _ _ (KB.out _ (by repeat first | with_reducible exact Below.refl _ _ | with_reducible exact BR.out | with_reducible refine bAlloc ?_ _ | with_reducible refine Below.drew ?_)).2.1).mono ?_; rintro r x1 ⟨rfl, hb1⟩; have B1 : Hid (Below w10.heap.size w10 x1) := bTrans (show Below w10.heap.size w10 _ from (by repeat first | with_reducible exact Below.refl _ _ | with_reducible exact BR.out | with_reducible refine bAlloc ?_ _ | with_reducible refine Below.drew ?_)) hb1; clear hb1)
            | (go_at_call_of 15 (Value.slice aN W.length bN); refine (CV.out _ _ (KB.out _ (by repeat first | with_reducible exact Below.refl _ _ | with_reducible exact B1.out | with_reducible refine bAlloc ?_ _ | with_reducible refine Below.drew ?_)).2.1).mono ?_; rintro r x2 ⟨rfl, hb2⟩; have B2 : Hid (Below w10.heap.size w10 x2) := bTrans (show Below w10.heap.size w10 _ from (by repeat first | with_reducible exact Below.refl _ _ | with_reducible exact B1.out | with_reducible refine bAlloc ?_ _ | with_reducible refine Below.drew ?_)) hb2; clear hb2)
            | (go_at_call_of 15 (Value.slice aH W.length bH); refine (CU.out _ _ (KB.out _ (by repeat first | with_reducible exact Below.refl _ _ | with_reducible exact B2.out | with_reducible refine bAlloc ?_ _ | with_reducible refine Below.drew ?_)).1).mono ?_; rintro r x3 ⟨rfl, hb3⟩; have B3 : Hid (Below w10.heap.size w10 x3) := bTrans (show Below w10.heap.size w10 _ from (by repeat first | with_reducible exact Below.refl _ _ | with_reducible exact B2.out | with_reducible refine bAlloc ?_ _ | with_reducible refine Below.drew ?_)) hb3; clear hb3))
        all_goals
          go_wp2
          go_ret
          exact ⟨by simp, bTrans HT_10.out B3.out⟩
  · skip
    have hB0 : (hOkB W.length t n E && liveB n E i) = false := by simpa using hB
    have hN := drop_none hB0
    obtain ⟨DW, hDW⟩ : ∃ y, y = drpW W t n E := ⟨_, rfl⟩
    obtain ⟨DT, hDT⟩ : ∃ y, y = drpT W t n E := ⟨_, rfl⟩
    obtain ⟨DN, hDN⟩ : ∃ y, y = drpN W t n E := ⟨_, rfl⟩
    obtain ⟨DE, hDE⟩ : ∃ y, y = dropE n E i := ⟨_, rfl⟩
    rw [← hDW, ← hDN] at hN
    have CDI : Hid (∀ (V : World) (v : Value), HI V v W t n E → Calls Try.prog 19 #[v, .int .i64 i] V fun e w' => ∃ v', e = .returned (.tuple #[v', .bool false]) ∧ HI w' v' DW DT DN DE ∧ Below V.heap.size V w') := fun V v h => by
      have q := hdropI HV.out h i
      rw [hB0, ← hDW, ← hDT, ← hDN, ← hDE] at q
      exact q
    have CDS : Hid (∀ (V : World) (v : Value), HI V v W t n E → Calls Try.prog 24 #[v, .int .i64 i] V fun e w' => ∃ v', e = .returned (.tuple #[v', .bool false]) ∧ HI w' v' DW DT DN DE ∧ Below V.heap.size V w') := fun V v h => by
      have q := hdropS HV.out h i
      rw [hB0, ← hDW, ← hDT, ← hDN, ← hDE] at q
      exact q
    have HN : Hid (DN = n ∨ DW.length = 0) := hN
    clear hDW hDT hDN hDE hB hB0 hN
    go_wp2_with fail
    have hb : Below w1.heap.size w1 (w1.alloc (.cells #[.slice aH W.length bH, .int .i64 t, .slice cH n dH] 28)) := bAlloc (Below.refl _ _) _
    have hbx : Box3 (w1.alloc (.cells #[.slice aH W.length bH, .int .i64 t, .slice cH n dH] 28)) w1.heap.size (.slice aH W.length bH) (.int .i64 t) (.slice cH n dH) 28 := heap_alloc_new _ _
    generalize w1.alloc (.cells #[.slice aH W.length bH, .int .i64 t, .slice cH n dH] 28) = w2 at *
    have HT_2 : Hid (Below w.heap.size w w2) := bTrans HT_1.out hb
    have GH_2 : Hid (HI w2 (.agg #[.slice aH W.length bH, .int .i64 t, .slice cH n dH]) W t n E) := GH_1.out.keep hb
    have QH_2 : Hid (Box3 w2 w1.heap.size (.slice aH W.length bH) (.int .i64 t) (.slice cH n dH) 28) := hbx
    clear hb hbx HT_1 GH_1
    refine (CDI.out _ _ GH_2.out).mono ?_
    rintro r w3 ⟨vN, rfl, hO, hb⟩
    obtain ⟨aN, bN, cN, dN, rfl⟩ := hO.form
    have HT_3 : Hid (Below w.heap.size w w3) := bTrans HT_2.out hb
    have GH_3 : Hid (HI w3 (.agg #[.slice aH W.length bH, .int .i64 t, .slice cH n dH]) W t n E) := GH_2.out.keep hb
    have QH_3 : Hid (Box3 w3 w1.heap.size (.slice aH W.length bH) (.int .i64 t) (.slice cH n dH) 28) := QH_2.out.keep hb
    have GN_3 : Hid (HI w3 (.agg #[.slice aN DW.length bN, .int .i64 DT, .slice cN DN dN]) DW DT DN DE) := hO
    clear hb hO HT_2 GH_2 QH_2
    have pQH0 := QH_3.out.c0
    have dQH0 : ∀ ob : Obj, (w3.alloc ob).cell? ⟨w1.heap.size, 0, none⟩ = some (.slice aH W.length bH) := fun ob => (QH_3.out.keep (bAlloc (Below.refl _ _) ob)).c0
    have pQH1 := QH_3.out.c1
    have dQH1 : ∀ ob : Obj, (w3.alloc ob).cell? ⟨w1.heap.size, 1, none⟩ = some (.int .i64 t) := fun ob => (QH_3.out.keep (bAlloc (Below.refl _ _) ob)).c1
    have pQH2 := QH_3.out.c2
    have dQH2 : ∀ ob : Obj, (w3.alloc ob).cell? ⟨w1.heap.size, 2, none⟩ = some (.slice cH n dH) := fun ob => (QH_3.out.keep (bAlloc (Below.refl _ _) ob)).c2
    go_wp2_with fail
    clear pQH0 dQH0 pQH1 dQH1 pQH2 dQH2
    have hb : Below w3.heap.size w3 (w3.alloc (.cells #[.slice aN DW.length bN, .int .i64 DT, .slice cN DN dN] 28)) := bAlloc (Below.refl _ _) _
    have hbx : Box3 (w3.alloc (.cells #[.slice aN DW.length bN, .int .i64 DT, .slice cN DN dN] 28)) w3.heap.size (.slice aN DW.length bN) (.int .i64 DT) (.slice cN DN dN) 28 := heap_alloc_new _ _
    generalize w3.alloc (.cells #[.slice aN DW.length bN, .int .i64 DT, .slice cN DN dN] 28) = w4 at *
    have HT_4 : Hid (Below w.heap.size w w4) := bTrans HT_3.out hb
    have GH_4 : Hid (HI w4 (.agg #[.slice aH W.length bH, .int .i64 t, .slice cH n dH]) W t n E) := GH_3.out.keep hb
    have QH_4 : Hid (Box3 w4 w1.heap.size (.slice aH W.length bH) (.int .i64 t) (.slice cH n dH) 28) := QH_3.out.keep hb
    have GN_4 : Hid (HI w4 (.agg #[.slice aN DW.length bN, .int .i64 DT, .slice cN DN dN]) DW DT DN DE) := GN_3.out.keep hb
    have QN_4 : Hid (Box3 w4 w3.heap.size (.slice aN DW.length bN) (.int .i64 DT) (.slice cN DN dN) 28) := hbx
    clear hb hbx HT_3 GH_3 QH_3 GN_3
    refine (CDS.out _ _ GH_4.out).mono ?_
    rintro r w5 ⟨vS, rfl, hO, hb⟩
    obtain ⟨aS, bS, cS, dS, rfl⟩ := hO.form
    have HT_5 : Hid (Below w.heap.size w w5) := bTrans HT_4.out hb
    have GH_5 : Hid (HI w5 (.agg #[.slice aH W.length bH, .int .i64 t, .slice cH n dH]) W t n E) := GH_4.out.keep hb
    have QH_5 : Hid (Box3 w5 w1.heap.size (.slice aH W.length bH) (.int .i64 t) (.slice cH n dH) 28) := QH_4.out.keep hb
    have GN_5 : Hid (HI w5 (.agg #[.slice aN DW.length bN, .int .i64 DT, .slice cN DN dN]) DW DT DN DE) := GN_4.out.keep hb
    have QN_5 : Hid (Box3 w5 w3.heap.size (.slice aN DW.length bN) (.int .i64 DT) (.slice cN DN dN) 28) := QN_4.out.keep hb
    clear hb hO HT_4 GH_4 QH_4 GN_4 QN_4
    have pQH0 := QH_5.out.c0
    have dQH0 : ∀ ob : Obj, (w5.alloc ob).cell? ⟨w1.heap.size, 0, none⟩ = some (.slice aH W.length bH) := fun ob => (QH_5.out.keep (bAlloc (Below.refl _ _) ob)).c0
    have pQH1 := QH_5.out.c1
    have dQH1 : ∀ ob : Obj, (w5.alloc ob).cell? ⟨w1.heap.size, 1, none⟩ = some (.int .i64 t) := fun ob => (QH_5.out.keep (bAlloc (Below.refl _ _) ob)).c1
    have pQH2 := QH_5.out.c2
    have dQH2 : ∀ ob : Obj, (w5.alloc ob).cell? ⟨w1.heap.size, 2, none⟩ = some (.slice cH n dH) := fun ob => (QH_5.out.keep (bAlloc (Below.refl _ _) ob)).c2
    have pQN0 := QN_5.out.c0
    have dQN0 : ∀ ob : Obj, (w5.alloc ob).cell? ⟨w3.heap.size, 0, none⟩ = some (.slice aN DW.length bN) := fun ob => (QN_5.out.keep (bAlloc (Below.refl _ _) ob)).c0
    have pQN1 := QN_5.out.c1
    have dQN1 : ∀ ob : Obj, (w5.alloc ob).cell? ⟨w3.heap.size, 1, none⟩ = some (.int .i64 DT) := fun ob => (QN_5.out.keep (bAlloc (Below.refl _ _) ob)).c1
    have pQN2 := QN_5.out.c2
    have dQN2 : ∀ ob : Obj, (w5.alloc ob).cell? ⟨w3.heap.size, 2, none⟩ = some (.slice cN DN dN) := fun ob => (QN_5.out.keep (bAlloc (Below.refl _ _) ob)).c2
    by_cases hn : ((DN : Int) == (n : Int)) = true
    · go_wp2
      go_ret
      exact ⟨rfl, bAlloc HT_5.out _⟩
    · have hn' : ((DN : Int) == (n : Int)) = false := by simpa using hn
      have hz : ((DW.length : Int) == 0) = true := by
        rcases HN.out with h | h
        · simp [h] at hn
        · simp [h]
      go_wp2
      go_ret
      exact ⟨rfl, bAlloc HT_5.out _⟩

/-! ### THE ROW's STEP: WRITTEN OUT: LEAVE IT -/
set_option maxRecDepth 100000 in
theorem lifted (os : Os) (started : os.Started) (H : Type) (enc : TypeId × Value → H) :
    ReturnsInHanded {} Try.checked os 5 .any (Rows.fnDroppedSpec.pre6 enc Try.prog Try.f5 Rows.fnDroppedRow.domain false) (Rows.fnDroppedSpec.post enc Try.prog Try.f5 false true false false) := by
  refine returnsInHanded_of_change (C := Try.checked) own started (by kernel_rfl) Try.func5
    (ChangeSpec.witness6 (enc := enc) (C := Try.checked) false ⟨#[], #[.slice none 0 0], []⟩ 8 (by kernel_rfl) (by kernel_rfl) (by kernel_rfl) (by kernel_rfl)) ?_
  intro W base args ds gs before hval0 hW hcnd _
  have hval : ∀ (j : Nat) t v, Try.f5.params[j]? = some t → args[j]? = some v → Value.okWide Try.prog W .any base t v := hval0
  have hW' := hW
  obtain ⟨p, q, hA0, hV, rfl, hfz, hnd⟩ := hW
  have hA : DataW.TrodAll enc Try.prog W 0 (fun _ => true) true Try.f5.params.toList args.toList ds p := hA0
  rw [Try.params5] at hA hval
  obtain ⟨v0, vs0, d0, ds0, p0, q0, hargs, rfl, rfl, h0, r0⟩ := trodAll_cons hA
  obtain ⟨rfl, rfl, rfl⟩ := trodAll_nil r0
  obtain rfl : args = #[v0] := by cases args; simp_all
  obtain ⟨rfl, rfl⟩ := trodVars_none hV
  obtain ⟨a0, len0, cap0, rfl⟩ := okWide_slice Try.underlying22 (hval 0 22 v0 rfl rfl)
  have k0 := h0
  have lt0 : ∀ x ∈ p0, x.block < W.heap.size := by obtain ⟨m, hm⟩ := k0; exact DataW.trod_lt m _ _ _ hm
  obtain ⟨z0, w0⟩ : ∃ zs, IsRow .u8 W a0 len0 cap0 zs := by
    obtain ⟨fuel, hf⟩ := h0
    rcases open_ints Try.underlying22 Try.underlying5 (by kernel_rfl) hf with ⟨hcs, _⟩ | ⟨x, l, c, zs, hcs, _, hl, hm, hz, _, hcell, hwz⟩
    · simp [Value.cells] at hcs
      obtain ⟨rfl, rfl, rfl⟩ := hcs
      exact ⟨[], .inl ⟨rfl, rfl, rfl, rfl⟩⟩
    · simp [Value.cells] at hcs
      obtain ⟨rfl, rfl, rfl⟩ := hcs
      exact ⟨zs, .inr ⟨_, rfl, hl, hm, by simpa using hz, hcell, hwz⟩⟩
  clear hA0 hval0
  refine (walk a0 len0 cap0 z0 W w0).mono fun e W' ⟨he, bel⟩ => ?_
  subst he
  exact ⟨_, rfl, _, _, _, [], _, [], hW', trodAll_mk1 (shut_bool Try.underlying4 _), (trodAll_cons_mk (Below.trod laidOut (by kernel_rfl) (of_decide_eq_true (by kernel_rfl)) k0 bel lt0) trodAll_mk0), rfl, bel.frame _, fun h => by cases h⟩

theorem over : Rows.fnDroppedRow.holds Try.pinned (OpenSpec.ofChange Rows.fnDroppedSpec) :=
  OpenClaim.holds_of_wide 5 Try.f5 rfl rfl rfl rfl rfl rfl rfl ⟨rfl, rfl, rfl, rfl, rfl⟩ rfl rfl rfl rfl rfl (by kernel_rfl) Try.func5 (by kernel_rfl)
    (of_decide_eq_true (by kernel_rfl)) (by unfold Func.isWrapper; first | (rw [if_pos (by decide +kernel)]; kernel_rfl) | (rw [if_neg (by decide +kernel)]; exact ⟨rfl, rfl⟩))
    (fun os started H enc _ => lifted os started H enc)

/-- ████ THE STATEMENT ████ -/
theorem proved : Rows.FnDroppedSaid := over
end Go.Proofs.Ytmmjidhpmbcoiaa.fnDropped
namespace Go.Proofs.Ytmmjidhpmbcoiaa
theorem fnDropped_holds : Rows.FnDroppedSaid := fnDropped.proved
#print axioms fnDropped_holds
end Go.Proofs.Ytmmjidhpmbcoiaa
