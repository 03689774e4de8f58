/-
  Proved: whatever code draws a list of tokens (DrawParse), the law FnBrackets returns true: the program's Parse answers with the code that the specification asks; a line in brackets is the same tree; a bracket that is never closed is wrong. The one listed variable holds what the program's text lays in it, as the tied card says.
-/
import Derived.Test.YtnebjnglcfebeaaDoorRows
import Derived.WalkKit
import Derived.ProofKit
import Derived.OpenShut
import Derived.ShutString
import Derived.ChangeOld
import Derived.Below
import Derived.Deep.Cut
import Derived.Test.YtnebjnglcfebeaaDoorTie
import Derived.Test.YtnebjnglcfebeaaDoorCards
import Derived.LaidLaws
import Derived.LaidHandle
import Derived.OpenVars
import Derived.ChangeVars
import Derived.Lib.LaidTab
import Derived.Lib.LaidIn
import Derived.SevenTiedAt
import Derived.Test.YtnebjnglcfebeaaDoorFrame
import Derived.Test.YtnebjnglcfebeaaDoorZ1
namespace Go.Proofs.YtnebjnglcfebeaaDoor.fnBrackets
open Go.ChangeShapes Go.WideShapes Go.ChangeAt Go.RowKit
open Go.ChangeMaps (open_string shut_string)
set_option linter.unusedVariables false
set_option linter.unusedSimpArgs false

theorem own : ownKnob Tryd.prog.godebug = none := by kernel_rfl
theorem laidOut : laidOutB Tryd.prog = true := by kernel_rfl

set_option maxRecDepth 20000 in
set_option maxHeartbeats 8000000 in
/-- The walk: the law returns true, and writes nothing that was there. -/
theorem walk (a0 : Option Addr) (len0 cap0 : Nat) (z0 : List Int) (w : World) (ht : ErrX w) (w0 : IsRow .u8 w a0 len0 cap0 z0) :
    Calls Tryd.prog 4 #[.slice a0 len0 cap0] w fun e w' => e = .returned (.bool true) ∧ Below w.heap.size w w' := by
  have HS : Hid (Src w.heap.size w a0 len0) := src_of_row w0
  have HE : Hid (ErrX w) := ht
  clear w0 ht
  by_cases hbig : (1048576 : Int) < (len0 : Int)
  · go_enter Tryd.func4, Tryd.ntmps4
    go_wp2_with (go_at_call 14; refine (big_laws _ _ _ _).mono ?_; rintro e w' ⟨rfl, hw⟩; subst w')
    go_ret
    exact ⟨rfl, Below.refl _ _⟩
  have hb20 : len0 ≤ 1048576 := by omega
  clear hbig
  go_enter Tryd.func4, Tryd.ntmps4
  go_wp2_with (go_at_call 14; refine (big_laws _ _ _ _).mono ?_; rintro e w' ⟨rfl, hw⟩; subst w')
  refine (drawPar_spec HS.out hb20).mono ?_
  rintro r w1 ⟨x, n, c, E, rfl, hn, hS, hb⟩
  have PS := parC_small n E
  have Q2 := fun h h2 => parC_in (n := n) (T := E) h h2
  have Q3 := fun h h2 => parC_open (n := n) (T := E) h h2
  have SP : Hid (∀ (W : World), SsA W x n E → Calls Tryd.prog 6 #[.slice x n c] W fun r w' => ∃ u, r = .returned (.tuple #[.agg #[u], .int .i64 (parC n E).1]) ∧ ExW W.heap.size w'.heap.size w' u (parC n E).2.length (ndE (parC n E).2) (ndN (parC n E).2) ∧ Below W.heap.size W w') := fun W hu => parse_specW hu (by omega)
  have P1 : Hid (∀ (W : World), SsA W x n E → Below w.heap.size w W → Calls Tryd.prog 8 #[.slice x n c] W fun r w' => ∃ u, r = .returned (.tuple #[.agg #[u], .int .i64 (parC n E).1]) ∧ OwnVT W.heap.size w'.heap.size w' u (parC n E).2.length (ndE (parC n E).2) (ndN (parC n E).2) ∧ Below W.heap.size W w') := fun W hu hb => parse_implX hu (by omega) (HE.out.on hb)
  have P2 : Hid ((parC n E).1 = 0 → n ≤ 298 → ∀ (W : World) (a' : Option Addr) (c' : Nat), SsA W a' (n + 1 + 1) (brIn n E) → Below w.heap.size w W → Calls Tryd.prog 8 #[.slice a' (n + 1 + 1) c'] W fun r w' => ∃ u, r = .returned (.tuple #[.agg #[u], .int .i64 0]) ∧ OwnVT W.heap.size w'.heap.size w' u (parC n E).2.length (ndE (parC n E).2) (ndN (parC n E).2) ∧ Below W.heap.size W w') := fun h h2 W a' c' hu hb => by
    have := parse_implX hu (by omega) (HE.out.on hb) (c := c')
    rw [Q2 h h2] at this
    exact this
  have P3 : Hid ((parC n E).1 = 0 → n ≤ 298 → ∀ (W : World) (a' : Option Addr) (c' : Nat), SsA W a' (n + 1) (brIn n E) → Below w.heap.size w W → Calls Tryd.prog 8 #[.slice a' (n + 1) c'] W fun r w' => ∃ a c, r = .returned (.tuple #[.agg #[.slice a 0 c], .int .i64 8]) ∧ Below W.heap.size W w') := fun h h2 W a' c' hu hb => by
    have := parse_implX hu (by omega) (HE.out.on hb) (c := c')
    rw [Q3 h h2] at this
    refine this.mono ?_
    rintro r w' ⟨u, rfl, hN, hb⟩
    obtain ⟨a, c, rfl⟩ := hN.slice
    exact ⟨a, c, rfl, hb⟩
  obtain ⟨V, hV⟩ : ∃ V, V = (parC n E).1 := ⟨_, rfl⟩
  obtain ⟨L, hL⟩ : ∃ L, L = (parC n E).2 := ⟨_, rfl⟩
  rw [← hV] at SP P1 P2 P3
  rw [← hL] at SP P1 P2 PS
  have LN : Hid (∀ i, (ndN L i).length ≤ 1048576) := fun i => by have := ndN_small PS.2 i; omega
  have LM : Hid (L.length ≤ 1048576) := by show _ ≤ _; have := PS.1; omega
  have vv : (V != V) = false := by simp
  clear hV hL Q2 Q3 PS HE
  generalize L.length = m at *
  generalize ndE L = TE at *
  generalize ndN L = TN at *
  have NN : Hid (n ≤ 30000) := hn
  clear hn
  have SZ1 : Hid (w.heap.size ≤ w1.heap.size) := hb.size
  have HT1 : Hid (Below w.heap.size w w1) := hb
  have S_1 : Hid (SsA w1 x n E) := hS
  clear hb hS
  go_wp2_with fail
  refine (P1.out _ S_1.out HT1.out).mono ?_
  rintro r w2 ⟨u, rfl, hN, hb⟩
  have SZ2 : Hid (w1.heap.size ≤ w2.heap.size) := hb.size
  have HT2 : Hid (Below w.heap.size w w2) := bTrans HT1.out hb
  have S_2 : Hid (SsA w2 x n E) := S_1.out.keep hb
  clear S_1
  obtain ⟨aT, cT, rfl⟩ := hN.slice
  have T_2 : Hid (OwnVT w1.heap.size w2.heap.size w2 (.slice aT m cT) m TE TN) := hN
  clear hN hb P1
  go_wp2_with fail
  have hbx := box1_new w2 (.slice aT m cT) 26
  have hb : Below w2.heap.size w2 (w2.alloc (.cells #[.slice aT m cT] 26)) := one_below
  generalize w2.alloc (.cells #[.slice aT m cT] 26) = w3 at *
  have SZ3 : Hid (w2.heap.size ≤ w3.heap.size) := hb.size
  have HT3 : Hid (Below w.heap.size w w3) := bTrans HT2.out hb
  have S_3 : Hid (SsA w3 x n E) := S_2.out.keep hb
  have T_3 : Hid (OwnVT w1.heap.size w2.heap.size w3 (.slice aT m cT) m TE TN) := T_2.out.keep hb
  clear S_2
  clear T_2
  have BT_3 : Hid (Box1 w3 w2.heap.size (.slice aT m cT) 26) := hbx
  have LBT : Hid (w2.heap.size < w3.heap.size) := hbx.lt
  clear hb hbx
  refine (SP.out _ S_3.out).mono ?_
  rintro r w4 ⟨u, rfl, hN, hb⟩
  obtain ⟨_, a9, c9, rfl, _⟩ : True ∧ ∃ a c, u = .slice a m c ∧ True := ⟨trivial, by obtain ⟨a, c, e, _⟩ := hN.list; exact ⟨a, c, e, trivial⟩⟩
  clear hN
  have SZ4 : Hid (w3.heap.size ≤ w4.heap.size) := hb.size
  have HT4 : Hid (Below w.heap.size w w4) := bTrans HT3.out hb
  have S_4 : Hid (SsA w4 x n E) := S_3.out.keep hb
  have T_4 : Hid (OwnVT w1.heap.size w2.heap.size w4 (.slice aT m cT) m TE TN) := T_3.out.keep hb
  have BT_4 : Hid (Box1 w4 w2.heap.size (.slice aT m cT) 26) := BT_3.out.keep hb
  clear S_3
  clear T_3
  clear BT_3
  clear hb SP
  by_cases hV : V = 0
  · by_cases hN : (n : Int) > 298
    · subst hV
      go_wp2
      go_ret
      exact ⟨rfl, bTrans HT4.out one_below⟩
    · have nle : n ≤ 298 := by omega
      have P2q := P2.out hV nle
      have P3q := P3.out hV nle
      have P22 : Hid _ := P2q
      have P33 : Hid _ := P3q
      subst hV
      clear P2 P3 P2q P3q
      obtain ⟨w5, e5⟩ : ∃ W, W = w4.alloc (.cells #[.slice a9 m c9] 26) := ⟨_, rfl⟩
      have hb : Below w4.heap.size w4 w5 := by rw [e5]; exact one_below
      have z5 : w4.heap.size + 1 = w5.heap.size := by rw [e5]; simp
      have SZ5 : Hid (w4.heap.size ≤ w5.heap.size) := hb.size
      have HT5 : Hid (Below w.heap.size w w5) := bTrans HT4.out hb
      have S_5 : Hid (SsA w5 x n E) := S_4.out.keep hb
      have T_5 : Hid (OwnVT w1.heap.size w2.heap.size w5 (.slice aT m cT) m TE TN) := T_4.out.keep hb
      have BT_5 : Hid (Box1 w5 w2.heap.size (.slice aT m cT) 26) := BT_4.out.keep hb
      clear S_4
      clear T_4
      clear BT_4
      clear hb
      obtain ⟨a3, c3, w6, r3, hN3, hb⟩ := aheadS (c := c) (⟨4, 0⟩ : Spn) S_5.out (by omega)
      have R3 : Hid (∀ ty, (Builtin.append_ #[29, 29] ty #[.slice (some ⟨w4.heap.size + 1, 0, none⟩) 1 1, .slice x n c]).run Tryd.prog ((w4.alloc (.cells #[.slice a9 m c9] 26)).alloc (.cells #[.int .i64 4, .int .i64 0] 40)) = .ok (.slice a3 (n + 1) c3) w6) := by rw [z5, ← e5]; exact r3
      clear z5 e5
      have SZ6 : Hid (w5.heap.size ≤ w6.heap.size) := hb.size
      have HT6 : Hid (Below w.heap.size w w6) := bTrans HT5.out hb
      have S_6 : Hid (SsA w6 x n E) := S_5.out.keep hb
      have T_6 : Hid (OwnVT w1.heap.size w2.heap.size w6 (.slice aT m cT) m TE TN) := T_5.out.keep hb
      have BT_6 : Hid (Box1 w6 w2.heap.size (.slice aT m cT) 26) := BT_5.out.keep hb
      clear S_5
      clear T_5
      clear BT_5
      have I_6 : Hid (SsA w6 a3 (n + 1) (fun i => if i = 0 then (⟨4, 0⟩ : Spn) else E (i - 1))) := hN3
      clear hb hN3 r3
      obtain ⟨a4, c4, w7, r4, hb, a5, c5, w8, r5, hN5, hb5⟩ := behindS (c := c3) (⟨5, 0⟩ : Spn) I_6.out (by omega)
      have R4 : Hid (∀ ty, (Builtin.append_ #[29, 29] ty #[.slice (some ⟨w6.heap.size, 0, none⟩) 0 0, .slice a3 (n + 1) c3]).run Tryd.prog (w6.alloc (.cells #[] 40)) = .ok (.slice a4 (n + 1) c4) w7) := r4
      have R5 : Hid (∀ ty, (Builtin.append_ #[29, 29] ty #[.slice a4 (n + 1) c4, .slice (some ⟨w7.heap.size, 0, none⟩) 1 1]).run Tryd.prog (w7.alloc (.cells #[.int .i64 5, .int .i64 0] 40)) = .ok (.slice a5 (n + 1 + 1) c5) w8) := r5
      have BE : Hid (SsA w8 a5 (n + 1 + 1) (brIn n E)) := hN5.congr fun i hi => by
        unfold brIn
        by_cases e0 : i = 0
        · subst e0; rfl
        · rw [if_neg e0]
          by_cases e1 : i ≤ n
          · rw [if_pos e1, if_pos (by omega), if_neg e0]
          · rw [if_neg e1, if_neg (by omega)]
      clear hb r4 r5 hN5
      have hb := hb5
      have SZ8 : Hid (w6.heap.size ≤ w8.heap.size) := hb.size
      have HT8 : Hid (Below w.heap.size w w8) := bTrans HT6.out hb
      have S_8 : Hid (SsA w8 x n E) := S_6.out.keep hb
      clear S_6
      have T_8 : Hid (OwnVT w1.heap.size w2.heap.size w8 (.slice aT m cT) m TE TN) := T_6.out.keep hb
      clear T_6
      have BT_8 : Hid (Box1 w8 w2.heap.size (.slice aT m cT) 26) := BT_6.out.keep hb
      clear BT_6
      have I_8 : Hid (SsA w8 a3 (n + 1) (fun i => if i = 0 then (⟨4, 0⟩ : Spn) else E (i - 1))) := I_6.out.keep hb
      clear I_6
      clear hb hb5
      go_wp2_with (at_builtin; refine wpList_append_ty rfl _ _ 29 29 rfl _ _ _ rfl rfl (R3.out _) ?_; clear R3; try (have R3 : Hid _ := R4; clear R4; try (have R4 : Hid _ := R5; clear R5)))
      refine (P22.out _ _ _ BE.out HT8.out).mono ?_
      rintro r w9 ⟨u, rfl, hN, hb⟩
      clear BE
      have SZ9 : Hid (w8.heap.size ≤ w9.heap.size) := hb.size
      have HT9 : Hid (Below w.heap.size w w9) := bTrans HT8.out hb
      have S_9 : Hid (SsA w9 x n E) := S_8.out.keep hb
      have T_9 : Hid (OwnVT w1.heap.size w2.heap.size w9 (.slice aT m cT) m TE TN) := T_8.out.keep hb
      have BT_9 : Hid (Box1 w9 w2.heap.size (.slice aT m cT) 26) := BT_8.out.keep hb
      have I_9 : Hid (SsA w9 a3 (n + 1) (fun i => if i = 0 then (⟨4, 0⟩ : Spn) else E (i - 1))) := I_8.out.keep hb
      clear S_8
      clear T_8
      clear BT_8
      clear I_8
      obtain ⟨aU, cU, rfl⟩ := hN.slice
      have U_9 : Hid (OwnVT w8.heap.size w9.heap.size w9 (.slice aU m cU) m TE TN) := hN
      clear hN hb P22
      go_wp2_with fail
      have hbx := box1_new w9 (.slice aU m cU) 26
      have hb : Below w9.heap.size w9 (w9.alloc (.cells #[.slice aU m cU] 26)) := one_below
      have oBT := (BT_9.out.keep hb).c0
      generalize w9.alloc (.cells #[.slice aU m cU] 26) = w10 at *
      clear oBT
      have SZ10 : Hid (w9.heap.size ≤ w10.heap.size) := hb.size
      have HT10 : Hid (Below w.heap.size w w10) := bTrans HT9.out hb
      have S_10 : Hid (SsA w10 x n E) := S_9.out.keep hb
      have T_10 : Hid (OwnVT w1.heap.size w2.heap.size w10 (.slice aT m cT) m TE TN) := T_9.out.keep hb
      have BT_10 : Hid (Box1 w10 w2.heap.size (.slice aT m cT) 26) := BT_9.out.keep hb
      have I_10 : Hid (SsA w10 a3 (n + 1) (fun i => if i = 0 then (⟨4, 0⟩ : Spn) else E (i - 1))) := I_9.out.keep hb
      have U_10 : Hid (OwnVT w8.heap.size w9.heap.size w10 (.slice aU m cU) m TE TN) := U_9.out.keep hb
      clear S_9
      clear T_9
      clear BT_9
      clear I_9
      clear U_9
      have BU_10 : Hid (Box1 w10 w9.heap.size (.slice aU m cU) 26) := hbx
      have LBU : Hid (w9.heap.size < w10.heap.size) := hbx.lt
      clear hb hbx
      refine (P33.out _ a3 c3 (I_10.out.congr fun i hi => ?_) HT10.out).mono ?_
      · unfold brIn
        by_cases e0 : i = 0
        · subst e0; rfl
        · rw [if_neg e0, if_pos (by omega), if_neg e0]
      rintro r w11 ⟨aN, cN, rfl, hb⟩
      have SZ11 : Hid (w10.heap.size ≤ w11.heap.size) := hb.size
      have HT11 : Hid (Below w.heap.size w w11) := bTrans HT10.out hb
      have S_11 : Hid (SsA w11 x n E) := S_10.out.keep hb
      have T_11 : Hid (OwnVT w1.heap.size w2.heap.size w11 (.slice aT m cT) m TE TN) := T_10.out.keep hb
      have BT_11 : Hid (Box1 w11 w2.heap.size (.slice aT m cT) 26) := BT_10.out.keep hb
      have I_11 : Hid (SsA w11 a3 (n + 1) (fun i => if i = 0 then (⟨4, 0⟩ : Spn) else E (i - 1))) := I_10.out.keep hb
      have U_11 : Hid (OwnVT w8.heap.size w9.heap.size w11 (.slice aU m cU) m TE TN) := U_10.out.keep hb
      have BU_11 : Hid (Box1 w11 w9.heap.size (.slice aU m cU) 26) := BU_10.out.keep hb
      clear S_10
      clear T_10
      clear BT_10
      clear I_10
      clear U_10
      clear BU_10
      clear hb P33
      clear I_11
      have hb : ∀ O : Obj, Below w11.heap.size w11 (w11.alloc O) := fun O => one_below
      have oBT := fun O => (BT_11.out.keep (hb O)).c0
      have oBU := fun O => (BU_11.out.keep (hb O)).c0
      go_wp2_with fail
      clear oBT oBU hb
      refine (sameTree_true (T_11.out.keep one_below).list (U_11.out.keep one_below).list LN.out LM.out).mono ?_
      rintro r w12 ⟨rfl, hb⟩
      have FIN : Hid (Below w.heap.size w w12) := bTrans (bTrans HT11.out one_below) hb
      clear hb
      go_wp2
      go_ret
      exact ⟨rfl, FIN.out⟩
  · have v0 : (V != 0) = true := by simp [hV]
    go_wp2
    go_ret
    exact ⟨rfl, bTrans HT4.out one_below⟩

set_option maxRecDepth 100000 in
theorem er_name : Tryd.prog.globalNamed "loop.example/g00182/impl.errNoLine" = some 0 := by kernel_rfl
theorem er_type : (Tryd.prog.globals[0]?).map (·.type) = some 96 := by kernel_rfl
set_option maxRecDepth 100000 in
theorem tab_laid {W : World} (h : laidMetH Tryd.prog Rows.fnBracketsRow.laid W) : ErrX W := by
  have h2 : laidMet Tryd.prog [("loop.example/g00182/impl.errNoLine", Rows.laid_loop_example_g00182_impl_errNoLine)] W := h
  obtain ⟨ps, ⟨g, t, cs, fuel, p, q, e1, e2, e3, e4, _, rfl⟩, _, _⟩ := h2
  obtain rfl := Option.some.inj (er_name.symm.trans e1)
  obtain rfl := Option.some.inj (er_type.symm.trans e2)
  obtain ⟨_, u, v, hcs, _, _⟩ := iface_of_trod Tryd.underlying96 e4
  have hc := World.var?_cell er_name e3 0
  rw [Array.eq_one_of_toList hcs] at hc
  exact ⟨u, v, by simpa [ErrN] using hc⟩
/-- A world that meets the condition: the settled one, the tables laid. -/
noncomputable def laidWorld (os : Os) : World :=
  let N := (World.settled Tryd.prog os).heap.size
  let w0 := World.holding Tryd.prog os ⟨#[.cells #[.string ⟨#[116, 104, 101, 115, 101, 32, 116, 111, 107, 101, 110, 115, 32, 97, 114, 101, 32, 110, 111, 32, 108, 105, 110, 101]⟩] 136], #[], []⟩
  { w0 with heap := w0.heap.modify 0 fun | .cells _ t frozen => .cells #[.iface 118 (.pointer (some ⟨N, 0, none⟩))] t frozen | o => o }
theorem laid_met (os : Os) (args : Array Value) : laidMetH Tryd.prog Rows.fnBracketsRow.laid ((laidWorld os).forCall (fun _ _ => 0) ⟨#[], args, []⟩).memory :=
  (show laidMet Tryd.prog Rows.fnBracketsRow.laid _ from (LaidIn.of_run [0, (World.settled Tryd.prog os).heap.size] 8 (by kernel_rfl) (by kernel_rfl) (by kernel_rfl) (by kernel_rfl)).met)
set_option maxRecDepth 100000 in
theorem lifted (os : Os) (started : os.Started) (H : Type) (enc : TypeId × Value → H) :
    ReturnsInHanded {} Tryd.checked os 4 .any (fun w args => (Rows.fnBracketsSpec.pre enc Tryd.prog Tryd.f4 Rows.fnBracketsRow.domain false w args ∧ laidMetH Tryd.prog Rows.fnBracketsRow.laid w) ∧ sizedMet enc Tryd.prog Tryd.f4 (OpenSpec.ofChange Rows.fnBracketsSpec) false w args) (Rows.fnBracketsSpec.post enc Tryd.prog Tryd.f4 false true false false) := by
  refine returnsInHanded_of_change_and (C := Tryd.checked) (X := fun w _ => laidMetH Tryd.prog Rows.fnBracketsRow.laid w) (fun _ _ _ hh h => h.of_heap hh) own started (by kernel_rfl) Tryd.func4
    (by
      have hok : Input.okWideB Tryd.checked.prog ((laidWorld os).forCall (fun _ _ => 0) ⟨#[], #[.slice none 0 0], []⟩) 4 ⟨#[], #[.slice none 0 0], []⟩ = true := by kernel_rfl
      exact ⟨laidWorld os, fun _ _ => 0, ⟨#[], #[.slice none 0 0], []⟩, rfl, World.shaped_of_RefB (by kernel_rfl) (by kernel_rfl), (Input.okWide_of_okWideB (base := 0) hok).1, (Input.okWide_of_okWideB hok).2, ⟨⟨ChangeSpec.pre_of_preB (fuel := 8) (by kernel_rfl), laid_met os _⟩, sizedMet_of_sizedB (fuel := 8) (by kernel_rfl)⟩, by simp only [Assume.holds]; exact ⟨by simp, by simp, fun _ => Modest.zero, by simp, by simp⟩⟩) ?_
  intro W base args ds gs before hval0 hW hcnd _ hL _
  have htb := tab_laid hL
  have hval : ∀ (j : Nat) t v, Tryd.f4.params[j]? = some t → args[j]? = some v → Value.okWide Tryd.prog W .any base t v := hval0
  have hW' := hW
  obtain ⟨p, q, hA0, hV, rfl, hfz, hnd⟩ := hW
  have hA : DataW.TrodAll enc Tryd.prog W 0 (fun _ => true) true Tryd.f4.params.toList args.toList ds p := hA0
  rw [Tryd.params4] at hA hval
  obtain ⟨v0, vs0, e0, es0, p0, q0, hargs, rfl, rfl, h0, r0⟩ := trodAll_cons hA
  obtain ⟨rfl, rfl, rfl⟩ := trodAll_nil r0
  obtain rfl : args = #[v0] := by cases args; simp_all
  have hV0 := hV
  obtain ⟨gv, tv, cv, fv, dv, pv, rfl, hgv, htv, hvv, hdv, rfl⟩ := trodVars_one hV
  have k0 := h0
  have lt0 : ∀ x ∈ p0, x.block < W.heap.size := by obtain ⟨m, hm⟩ := k0; exact DataW.trod_lt m _ _ _ hm
  obtain ⟨a0, len0, cap0, rfl⟩ := okWide_slice Tryd.underlying36 (hval 0 36 v0 rfl rfl)
  obtain ⟨z0, w0⟩ : ∃ zs, IsRow .u8 W a0 len0 cap0 zs := by
    obtain ⟨fuel, hf⟩ := h0
    rcases open_ints Tryd.underlying36 Tryd.underlying5 (by kernel_rfl) hf with ⟨hcs, _⟩ | ⟨x, l, c, zs, hcs, _, hl, hm, hz, _, hcell, hwz⟩
    · simp [Value.cells] at hcs
      obtain ⟨rfl, rfl, rfl⟩ := hcs
      exact ⟨[], .inl ⟨rfl, rfl, rfl, rfl⟩⟩
    · simp [Value.cells] at hcs
      obtain ⟨rfl, rfl, rfl⟩ := hcs
      exact ⟨zs, .inr ⟨_, rfl, hl, hm, by simpa using hz, hcell, hwz⟩⟩
  clear hA0 hval0
  refine (walk a0 len0 cap0 z0 W htb w0).mono fun e W' ⟨he, bel⟩ => ?_
  subst he
  exact ⟨_, rfl, _, _, _, [], _, _, hW', trodAll_mk1 (shut_bool Tryd.underlying4 _), (trodAll_cons_mk (Below.trod laidOut (by kernel_rfl) (of_decide_eq_true (by kernel_rfl)) k0 bel lt0) trodAll_mk0), Below.trodVars laidOut bel (by kernel_rfl) hV0, bel.frame _, fun h => by cases h⟩

theorem over : Rows.fnBracketsRow.holds Tryd.pinned (OpenSpec.ofChange Rows.fnBracketsSpec) :=
  OpenClaim.holds_of_wide 4 Tryd.f4 rfl rfl rfl rfl rfl rfl rfl ⟨rfl, rfl, rfl, rfl, rfl⟩ rfl rfl rfl rfl rfl (by kernel_rfl) Tryd.func4 (by kernel_rfl)
    (of_decide_eq_true (by kernel_rfl)) (by unfold Func.isWrapper; first | (rw [if_pos (by decide +kernel)]; kernel_rfl) | (rw [if_neg (by decide +kernel)]; exact ⟨rfl, rfl⟩))
    (fun os started H enc _ => lifted os started H enc)

/-- The tied card. -/
theorem proved : Rows.FnBracketsCardSaid :=
  Claim7.holds_tied_plain_at .later [] [.sentinel] true (true, "ba52a35fda4d0298d403bde8cb89450381edba48c3b4b74344ba820a2ad892cb") false
    over (fun _ h => by cases h) (by kernel_rfl) (fun _ h => by cases h) fnBrackets_row_tie rfl ⟨rfl, rfl⟩ (by kernel_rfl) rfl
    (fun f fn hf hfn => by
      obtain rfl : f = 4 := Option.some.inj ((show Tryd.prog.funcNamed "loop.example/g00182/laws.FnBrackets" = some 4 by kernel_rfl).symm.trans hf) |>.symm
      obtain rfl : fn = Tryd.f4 := (Option.some.inj (Tryd.func4.symm.trans hfn)).symm
      exact ⟨by kernel_rfl, fun j t ht => by
        rw [Tryd.params4] at ht
        have hm : t ∈ [36] := List.mem_of_getElem? (by simpa using ht)
        simp only [List.mem_cons, List.not_mem_nil, or_false] at hm
        have hz : ∀ x ∈ [36], Tryd.prog.wantsStandIn x = false := by
          intro x hx
          simp only [List.mem_cons, List.not_mem_nil, or_false] at hx
          first
            | (subst hx; kernel_rfl)
            | (rcases hx with rfl | rfl <;> kernel_rfl)
            | (rcases hx with rfl | rfl | rfl <;> kernel_rfl)
        exact hz t (by simpa using hm)⟩)
    (by kernel_rfl)
end Go.Proofs.YtnebjnglcfebeaaDoor.fnBrackets
namespace Go.Proofs.YtnebjnglcfebeaaDoor
theorem fnBrackets_holds : Rows.FnBracketsCardSaid := fnBrackets.proved
#print axioms fnBrackets_holds
end Go.Proofs.YtnebjnglcfebeaaDoor
