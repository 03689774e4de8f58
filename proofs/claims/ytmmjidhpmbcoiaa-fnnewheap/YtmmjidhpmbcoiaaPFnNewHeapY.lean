/-
  Proved: whatever code it is given, the law FnNewHeap returns true: a heap is made at a right room and at no other; a new one has that many words, uses none of them, is right, and takes a number where there are two words of room, as its first cell.
-/
import Derived.Test.YtmmjidhpmbcoiaaRows
import Derived.WalkKit
import Derived.ProofKit
import Derived.OpenShut
import Derived.ShutString
import Derived.ChangeOld
import Derived.Below
import Derived.Test.YtmmjidhpmbcoiaaZ1
import Derived.Test.YtmmjidhpmbcoiaaZ3
import Derived.Test.YtmmjidhpmbcoiaaZ2
import Derived.Test.YtmmjidhpmbcoiaaLaw3
namespace Go.Proofs.Ytmmjidhpmbcoiaa.fnNewHeap
open Go.ChangeShapes Go.WideShapes Go.ChangeAt Go.RowKit
open Go.ChangeMaps (open_string shut_string)
set_option linter.unusedVariables false
set_option linter.unusedSimpArgs false
set_option linter.unusedVariables false

theorem own : ownKnob Try.prog.godebug = none := by kernel_rfl
theorem laidOut : laidOutB Try.prog = true := by kernel_rfl

/-! ### STEP 1: THE WALK: the Go text returns true, AND WRITES NOTHING THAT WAS THERE: 'Below w.heap.size w w'' (Derived/Below.lean: '.refl', '.alloc', '.drew', '.setCell' at a new block, '.trans'). Open each 'IsRow' by 'rcases' AHEAD of 'go_enter'; part every test ahead of the walk. -/
set_option maxRecDepth 20000 in
set_option maxHeartbeats 8000000 in
theorem walk (a0 : Option Addr) (len0 cap0 : Nat) (z0 : List Int) (w : World) (w0 : IsRow .u8 w a0 len0 cap0 z0) :
    Calls Try.prog 3 #[.slice a0 len0 cap0] w fun e w' => e = .returned (.bool true) ∧ Below w.heap.size w w' := by
  have HS : Hid (Src w.heap.size w a0 len0) := src_of_row w0
  clear w0
  by_cases hbig : (1048576 : Int) < (len0 : Int)
  · go_enter Try.func3, Try.ntmps3
    go_wp2_with (go_at_call 9; refine (big_laws _ _ _ _).mono ?_; rintro e w' ⟨rfl, hw⟩; subst w')
    go_ret
    exact ⟨rfl, Below.refl _ _⟩
  have hb20 : len0 ≤ 1048576 := by omega
  go_enter Try.func3, Try.ntmps3
  go_wp2_with (go_at_call 9; refine (big_laws _ _ _ _).mono ?_; rintro e w' ⟨rfl, hw⟩; subst w')
  refine (drawRoom_spec HS.out hb20).mono ?_
  rintro r w1 ⟨x, rfl, hx, hb⟩
  have HT1 : Hid (Below w.heap.size w w1) := hb
  clear hb hx HS hbig hb20
  obtain ⟨RW, hRW⟩ : ∃ RW, RW = newW x := ⟨_, rfl⟩
  have LW : Hid (RW.length ≤ 1048576) := by rw [hRW]; exact newW_len x
  obtain ⟨RT, hRT⟩ : ∃ RT : Int, RT = 0 := ⟨_, rfl⟩
  obtain ⟨RN, hRN⟩ : ∃ RN : Nat, RN = 0 := ⟨_, rfl⟩
  obtain ⟨RE, hRE⟩ : ∃ RE : Nat → Cel, RE = fun _ => cel0 := ⟨_, rfl⟩
  have IN : Hid ((∀ i, in64 (RE i).f ∧ in64 (RE i).l) ∧ in64 RT) := by
    show _ ∧ _
    rw [hRE, hRT]
    exact ⟨fun i => ⟨by unfold in64 cel0; simp, by unfold in64 cel0; simp⟩, by unfold in64; simp⟩
  by_cases hk : 0 ≤ x ∧ x ≤ 6000
  · by_cases h2 : 2 ≤ x
    · skip
      have SP : Hid (∀ (W : World), Calls Try.prog 12 #[.int .i64 x] W fun r w' => ∃ v, r = .returned (.tuple #[v, .bool true]) ∧ HP W.heap.size w'.heap.size w' v RW RT RN RE ∧ Below W.heap.size W w') := fun W => by have h := heapNew_spec x W; rw [decide_eq_true hk] at h; rw [hRW, hRT, hRN, hRE]; exact h
      have IM : Hid (∀ (W : World), Calls Try.prog 11 #[.int .i64 x] W fun r w' => ∃ v, r = .returned (.tuple #[v, .bool true]) ∧ HP W.heap.size w'.heap.size w' v RW RT RN RE ∧ Below W.heap.size W w') := fun W => by have h := heapNew_impl x W; rw [decide_eq_true hk] at h; rw [hRW, hRT, hRN, hRE]; exact h
      have HL : Hid ((RW.length : Int) = x) := by show _ = _; rw [hRW, newW_size hk]
      have hPB : outB RW RT RN RE [] [7] = true := by rw [hRW, hRT, hRN, hRE, outB_room hk]; exact decide_eq_true h2
      have hQI : outI RW RT RN RE [] [7] = 0 := by rw [hRW, hRT, hRN, hRE]; exact outI_room ⟨h2, hk.2⟩
      have SC : Hid (∀ (W : World), Calls Try.prog 13 #[.int .i64 7] W fun e w' => ∃ v, e = .returned (.tuple #[v, .bool true]) ∧ Arr W.heap.size w'.heap.size w' v [] [7] ∧ Below W.heap.size W w') := fun W => by
        have h := scalarOf_impl 7 W
        rw [show ok 7 = true by decide, if_pos rfl] at h
        exact h
      obtain ⟨OW, hOW⟩ : ∃ y, y = outW RW RT RN RE [] [7] := ⟨_, rfl⟩
      obtain ⟨OT, hOT⟩ : ∃ y, y = outT RW RT RN RE [] [7] := ⟨_, rfl⟩
      obtain ⟨ON, hON⟩ : ∃ y, y = outN RW RT RN RE [] [7] := ⟨_, rfl⟩
      obtain ⟨OE, hOE⟩ : ∃ y, y = outE RW RT RN RE [] [7] := ⟨_, rfl⟩
      have CP : Hid (∀ (W : World) (v u : Value), HI W v RW RT RN RE → ArrI W u [] [7] → Calls Try.prog 14 #[v, u] W fun e w' => ∃ v', e = .returned (.tuple #[v', .int .i64 0, .bool true]) ∧ HX W.heap.size w'.heap.size w' v' OW OT ON OE ∧ Below W.heap.size W w') := fun W v u h k => by
        have q := heapPut_impl sorts_by sorts_none h IN.out LW.out (by rw [hRN]; exact Nat.zero_le _) k (by simp)
        rw [hPB, hQI, ← hOW, ← hOT, ← hON, ← hOE] at q
        exact q
      have CU : Hid (∀ (W : World) (v : Value), HI W v RW RT RN RE → Calls Try.prog 15 #[v] W fun e w' => e = .returned (.int .i64 0) ∧ Below W.heap.size W w') := fun W v h => by
        have q := heapUsed_impl sorts_by sorts_none h IN.out LW.out (by rw [hRN]; exact Nat.zero_le _)
        rw [show usedH RW.length RT RN RE = 0 by rw [hRW, hRT, hRN, hRE]; exact used_room hk] at q
        exact q
      have CK : Hid (∀ (W : World) (v : Value), HI W v RW RT RN RE → Calls Try.prog 16 #[v] W fun e w' => e = .returned (.bool true) ∧ Below W.heap.size W w') := fun W v h => by
        have q := heapOk_impl sorts_by sorts_none h IN.out LW.out (by rw [hRN]; exact Nat.zero_le _)
        rw [show hOkB RW.length RT RN RE = true by rw [hRW, hRT, hRN, hRE]; exact hOkB_true (hOk_room hk)] at q
        exact q
      clear hPB hQI hOW hOT hON hOE 
      clear hRW hRT hRN hRE IN LW
      go_wp2_with fail
      refine (IM.out _).mono ?_
      rintro r w2 ⟨vG, rfl, hO, hb⟩
      obtain ⟨aG, bG, cG, dG, rfl⟩ := hO.form
      have HT2 : Hid (Below w.heap.size w w2) := bTrans HT1.out hb
      have G_2 : Hid (HP w1.heap.size w2.heap.size w2 (.agg #[.slice aG RW.length bG, .int .i64 RT, .slice cG RN dG]) RW RT RN RE) := hO
      clear hO hb
      go_wp2_with fail
      have hbx : Box3 (w2.alloc (.cells #[.slice aG RW.length bG, .int .i64 RT, .slice cG RN dG] 28)) w2.heap.size (.slice aG RW.length bG) (.int .i64 RT) (.slice cG RN dG) 28 := heap_alloc_new _ _
      have hb : Below w2.heap.size w2 (w2.alloc (.cells #[.slice aG RW.length bG, .int .i64 RT, .slice cG RN dG] 28)) := bAlloc (Below.refl _ _) _
      generalize w2.alloc (.cells #[.slice aG RW.length bG, .int .i64 RT, .slice cG RN dG] 28) = w3 at *
      have HT3 : Hid (Below w.heap.size w w3) := bTrans HT2.out hb
      have G_3 : Hid (HP w1.heap.size w2.heap.size w3 (.agg #[.slice aG RW.length bG, .int .i64 RT, .slice cG RN dG]) RW RT RN RE) := G_2.out.keep hb
      have Q_3 : Hid (Box3 w3 w2.heap.size (.slice aG RW.length bG) (.int .i64 RT) (.slice cG RN dG) 28) := hbx
      clear hb hbx G_2
      refine (SP.out _).mono ?_
      rintro r w4 ⟨vW, rfl, hO, hb⟩
      obtain ⟨aW, bW, cW, dW, rfl⟩ := hO.form
      have HT4 : Hid (Below w.heap.size w w4) := bTrans HT3.out hb
      have G_4 : Hid (HP w1.heap.size w2.heap.size w4 (.agg #[.slice aG RW.length bG, .int .i64 RT, .slice cG RN dG]) RW RT RN RE) := G_3.out.keep hb
      have Q_4 : Hid (Box3 w4 w2.heap.size (.slice aG RW.length bG) (.int .i64 RT) (.slice cG RN dG) 28) := Q_3.out.keep hb
      clear hb hO G_3 Q_3
      have p0 := Q_4.out.c0
      have d0 : ∀ ob : Obj, (w4.alloc ob).cell? ⟨w2.heap.size, 0, none⟩ = some (.slice aG RW.length bG) := fun ob => (Q_4.out.keep (bAlloc (Below.refl _ _) ob)).c0
      have p1 := Q_4.out.c1
      have d1 : ∀ ob : Obj, (w4.alloc ob).cell? ⟨w2.heap.size, 1, none⟩ = some (.int .i64 RT) := fun ob => (Q_4.out.keep (bAlloc (Below.refl _ _) ob)).c1
      have p2 := Q_4.out.c2
      have d2 : ∀ ob : Obj, (w4.alloc ob).cell? ⟨w2.heap.size, 2, none⟩ = some (.slice cG RN dG) := fun ob => (Q_4.out.keep (bAlloc (Below.refl _ _) ob)).c2
      go_wp2_with fail
      clear p0 p1 p2 d0 d1 d2
      have hb : Below w4.heap.size w4 (w4.alloc (.cells #[.slice aW RW.length bW, .int .i64 RT, .slice cW RN dW] 28)) := bAlloc (Below.refl _ _) _
      generalize w4.alloc (.cells #[.slice aW RW.length bW, .int .i64 RT, .slice cW RN dW] 28) = w5 at *
      have HT5 : Hid (Below w.heap.size w w5) := bTrans HT4.out hb
      have G_5 : Hid (HP w1.heap.size w2.heap.size w5 (.agg #[.slice aG RW.length bG, .int .i64 RT, .slice cG RN dG]) RW RT RN RE) := G_4.out.keep hb
      have Q_5 : Hid (Box3 w5 w2.heap.size (.slice aG RW.length bG) (.int .i64 RT) (.slice cG RN dG) 28) := Q_4.out.keep hb
      clear hb G_4 Q_4
      refine (SC.out _).mono ?_
      rintro r w6 ⟨vA, rfl, ha, hb⟩
      obtain ⟨a1, c1, b1, e1, rfl, _, _, _, _⟩ := ha.arrI
      have HT6 : Hid (Below w.heap.size w w6) := bTrans HT5.out hb
      have G_6 : Hid (HP w1.heap.size w2.heap.size w6 (.agg #[.slice aG RW.length bG, .int .i64 RT, .slice cG RN dG]) RW RT RN RE) := G_5.out.keep hb
      have Q_6 : Hid (Box3 w6 w2.heap.size (.slice aG RW.length bG) (.int .i64 RT) (.slice cG RN dG) 28) := Q_5.out.keep hb
      have A_6 : Hid (Arr w5.heap.size w6.heap.size w6 (.agg #[.slice a1 ([] : List Int).length c1, .slice b1 ([7] : List Int).length e1]) [] [7]) := ha
      clear hb ha G_5 Q_5
      have p0 := Q_6.out.c0
      have d0 : ∀ ob : Obj, (w6.alloc ob).cell? ⟨w2.heap.size, 0, none⟩ = some (.slice aG RW.length bG) := fun ob => (Q_6.out.keep (bAlloc (Below.refl _ _) ob)).c0
      have p1 := Q_6.out.c1
      have d1 : ∀ ob : Obj, (w6.alloc ob).cell? ⟨w2.heap.size, 1, none⟩ = some (.int .i64 RT) := fun ob => (Q_6.out.keep (bAlloc (Below.refl _ _) ob)).c1
      have p2 := Q_6.out.c2
      have d2 : ∀ ob : Obj, (w6.alloc ob).cell? ⟨w2.heap.size, 2, none⟩ = some (.slice cG RN dG) := fun ob => (Q_6.out.keep (bAlloc (Below.refl _ _) ob)).c2
      go_wp2_with fail
      clear p0 p1 p2 d0 d1 d2
      have hb : Below w6.heap.size w6 (w6.alloc (.cells #[.slice a1 ([] : List Int).length c1, .slice b1 ([7] : List Int).length e1] 32)) := bAlloc (Below.refl _ _) _
      generalize w6.alloc (.cells #[.slice a1 ([] : List Int).length c1, .slice b1 ([7] : List Int).length e1] 32) = w7 at *
      have HT7 : Hid (Below w.heap.size w w7) := bTrans HT6.out hb
      have G_7 : Hid (HP w1.heap.size w2.heap.size w7 (.agg #[.slice aG RW.length bG, .int .i64 RT, .slice cG RN dG]) RW RT RN RE) := G_6.out.keep hb
      have Q_7 : Hid (Box3 w7 w2.heap.size (.slice aG RW.length bG) (.int .i64 RT) (.slice cG RN dG) 28) := Q_6.out.keep hb
      have A_7 : Hid (Arr w5.heap.size w6.heap.size w7 (.agg #[.slice a1 ([] : List Int).length c1, .slice b1 ([7] : List Int).length e1]) [] [7]) := A_6.out.keep hb
      clear hb G_6 Q_6 A_6
      refine (CP.out _ _ _ G_7.out.hi A_7.out.arrI).mono ?_
      rintro r w8 ⟨vP, rfl, hO, hb⟩
      obtain ⟨aP, bP, cP, dP, rfl⟩ := hO.form
      have HT8 : Hid (Below w.heap.size w w8) := bTrans HT7.out hb
      have G_8 : Hid (HP w1.heap.size w2.heap.size w8 (.agg #[.slice aG RW.length bG, .int .i64 RT, .slice cG RN dG]) RW RT RN RE) := G_7.out.keep hb
      have Q_8 : Hid (Box3 w8 w2.heap.size (.slice aG RW.length bG) (.int .i64 RT) (.slice cG RN dG) 28) := Q_7.out.keep hb
      clear hb hO G_7 Q_7 A_7
      have p0 := Q_8.out.c0
      have d0 : ∀ ob : Obj, (w8.alloc ob).cell? ⟨w2.heap.size, 0, none⟩ = some (.slice aG RW.length bG) := fun ob => (Q_8.out.keep (bAlloc (Below.refl _ _) ob)).c0
      have p1 := Q_8.out.c1
      have d1 : ∀ ob : Obj, (w8.alloc ob).cell? ⟨w2.heap.size, 1, none⟩ = some (.int .i64 RT) := fun ob => (Q_8.out.keep (bAlloc (Below.refl _ _) ob)).c1
      have p2 := Q_8.out.c2
      have d2 : ∀ ob : Obj, (w8.alloc ob).cell? ⟨w2.heap.size, 2, none⟩ = some (.slice cG RN dG) := fun ob => (Q_8.out.keep (bAlloc (Below.refl _ _) ob)).c2
      have hL := HL.out
      go_wp2_with fail
      clear p0 p1 p2 d0 d1 d2
      have hb : Below w8.heap.size w8 (w8.alloc (.cells #[.slice aP OW.length bP, .int .i64 OT, .slice cP ON dP] 28)) := bAlloc (Below.refl _ _) _
      generalize w8.alloc (.cells #[.slice aP OW.length bP, .int .i64 OT, .slice cP ON dP] 28) = w9 at *
      have HT9 : Hid (Below w.heap.size w w9) := bTrans HT8.out hb
      have G_9 : Hid (HP w1.heap.size w2.heap.size w9 (.agg #[.slice aG RW.length bG, .int .i64 RT, .slice cG RN dG]) RW RT RN RE) := G_8.out.keep hb
      have Q_9 : Hid (Box3 w9 w2.heap.size (.slice aG RW.length bG) (.int .i64 RT) (.slice cG RN dG) 28) := Q_8.out.keep hb
      clear hb G_8 Q_8
      refine (CU.out _ _ G_9.out.hi).mono ?_
      rintro r w10 ⟨rfl, hb⟩
      have HT10 : Hid (Below w.heap.size w w10) := bTrans HT9.out hb
      have G_10 : Hid (HP w1.heap.size w2.heap.size w10 (.agg #[.slice aG RW.length bG, .int .i64 RT, .slice cG RN dG]) RW RT RN RE) := G_9.out.keep hb
      have Q_10 : Hid (Box3 w10 w2.heap.size (.slice aG RW.length bG) (.int .i64 RT) (.slice cG RN dG) 28) := Q_9.out.keep hb
      clear hb G_9 Q_9
      have p0 := Q_10.out.c0
      have d0 : ∀ ob : Obj, (w10.alloc ob).cell? ⟨w2.heap.size, 0, none⟩ = some (.slice aG RW.length bG) := fun ob => (Q_10.out.keep (bAlloc (Below.refl _ _) ob)).c0
      have p1 := Q_10.out.c1
      have d1 : ∀ ob : Obj, (w10.alloc ob).cell? ⟨w2.heap.size, 1, none⟩ = some (.int .i64 RT) := fun ob => (Q_10.out.keep (bAlloc (Below.refl _ _) ob)).c1
      have p2 := Q_10.out.c2
      have d2 : ∀ ob : Obj, (w10.alloc ob).cell? ⟨w2.heap.size, 2, none⟩ = some (.slice cG RN dG) := fun ob => (Q_10.out.keep (bAlloc (Below.refl _ _) ob)).c2
      go_wp2_with fail
      clear p0 p1 p2 d0 d1 d2
      refine (CK.out _ _ G_10.out.hi).mono ?_
      rintro r w11 ⟨rfl, hb⟩
      have HT11 : Hid (Below w.heap.size w w11) := bTrans HT10.out hb
      clear hb
      go_wp2
      go_ret
      exact ⟨rfl, HT11.out⟩
    · skip
      have SP : Hid (∀ (W : World), Calls Try.prog 12 #[.int .i64 x] W fun r w' => ∃ v, r = .returned (.tuple #[v, .bool true]) ∧ HP W.heap.size w'.heap.size w' v RW RT RN RE ∧ Below W.heap.size W w') := fun W => by have h := heapNew_spec x W; rw [decide_eq_true hk] at h; rw [hRW, hRT, hRN, hRE]; exact h
      have IM : Hid (∀ (W : World), Calls Try.prog 11 #[.int .i64 x] W fun r w' => ∃ v, r = .returned (.tuple #[v, .bool true]) ∧ HP W.heap.size w'.heap.size w' v RW RT RN RE ∧ Below W.heap.size W w') := fun W => by have h := heapNew_impl x W; rw [decide_eq_true hk] at h; rw [hRW, hRT, hRN, hRE]; exact h
      obtain ⟨PI, hPI⟩ : ∃ PI, PI = outI RW RT RN RE [] [7] := ⟨_, rfl⟩
      have HL : Hid ((RW.length : Int) = x) := by show _ = _; rw [hRW, newW_size hk]
      have hPB : outB RW RT RN RE [] [7] = false := by rw [hRW, hRT, hRN, hRE, outB_room hk]; exact decide_eq_false h2
      have hQI : outI RW RT RN RE [] [7] = PI := hPI.symm
      have SC : Hid (∀ (W : World), Calls Try.prog 13 #[.int .i64 7] W fun e w' => ∃ v, e = .returned (.tuple #[v, .bool true]) ∧ Arr W.heap.size w'.heap.size w' v [] [7] ∧ Below W.heap.size W w') := fun W => by
        have h := scalarOf_impl 7 W
        rw [show ok 7 = true by decide, if_pos rfl] at h
        exact h
      obtain ⟨OW, hOW⟩ : ∃ y, y = outW RW RT RN RE [] [7] := ⟨_, rfl⟩
      obtain ⟨OT, hOT⟩ : ∃ y, y = outT RW RT RN RE [] [7] := ⟨_, rfl⟩
      obtain ⟨ON, hON⟩ : ∃ y, y = outN RW RT RN RE [] [7] := ⟨_, rfl⟩
      obtain ⟨OE, hOE⟩ : ∃ y, y = outE RW RT RN RE [] [7] := ⟨_, rfl⟩
      have CP : Hid (∀ (W : World) (v u : Value), HI W v RW RT RN RE → ArrI W u [] [7] → Calls Try.prog 14 #[v, u] W fun e w' => ∃ v', e = .returned (.tuple #[v', .int .i64 PI, .bool false]) ∧ HX W.heap.size w'.heap.size w' v' OW OT ON OE ∧ Below W.heap.size W w') := fun W v u h k => by
        have q := heapPut_impl sorts_by sorts_none h IN.out LW.out (by rw [hRN]; exact Nat.zero_le _) k (by simp)
        rw [hPB, hQI, ← hOW, ← hOT, ← hON, ← hOE] at q
        exact q
      have CU : Hid (∀ (W : World) (v : Value), HI W v RW RT RN RE → Calls Try.prog 15 #[v] W fun e w' => e = .returned (.int .i64 0) ∧ Below W.heap.size W w') := fun W v h => by
        have q := heapUsed_impl sorts_by sorts_none h IN.out LW.out (by rw [hRN]; exact Nat.zero_le _)
        rw [show usedH RW.length RT RN RE = 0 by rw [hRW, hRT, hRN, hRE]; exact used_room hk] at q
        exact q
      have CK : Hid (∀ (W : World) (v : Value), HI W v RW RT RN RE → Calls Try.prog 16 #[v] W fun e w' => e = .returned (.bool true) ∧ Below W.heap.size W w') := fun W v h => by
        have q := heapOk_impl sorts_by sorts_none h IN.out LW.out (by rw [hRN]; exact Nat.zero_le _)
        rw [show hOkB RW.length RT RN RE = true by rw [hRW, hRT, hRN, hRE]; exact hOkB_true (hOk_room hk)] at q
        exact q
      clear hPB hQI hOW hOT hON hOE hPI
      clear hRW hRT hRN hRE IN LW
      go_wp2_with fail
      refine (IM.out _).mono ?_
      rintro r w2 ⟨vG, rfl, hO, hb⟩
      obtain ⟨aG, bG, cG, dG, rfl⟩ := hO.form
      have HT2 : Hid (Below w.heap.size w w2) := bTrans HT1.out hb
      have G_2 : Hid (HP w1.heap.size w2.heap.size w2 (.agg #[.slice aG RW.length bG, .int .i64 RT, .slice cG RN dG]) RW RT RN RE) := hO
      clear hO hb
      go_wp2_with fail
      have hbx : Box3 (w2.alloc (.cells #[.slice aG RW.length bG, .int .i64 RT, .slice cG RN dG] 28)) w2.heap.size (.slice aG RW.length bG) (.int .i64 RT) (.slice cG RN dG) 28 := heap_alloc_new _ _
      have hb : Below w2.heap.size w2 (w2.alloc (.cells #[.slice aG RW.length bG, .int .i64 RT, .slice cG RN dG] 28)) := bAlloc (Below.refl _ _) _
      generalize w2.alloc (.cells #[.slice aG RW.length bG, .int .i64 RT, .slice cG RN dG] 28) = w3 at *
      have HT3 : Hid (Below w.heap.size w w3) := bTrans HT2.out hb
      have G_3 : Hid (HP w1.heap.size w2.heap.size w3 (.agg #[.slice aG RW.length bG, .int .i64 RT, .slice cG RN dG]) RW RT RN RE) := G_2.out.keep hb
      have Q_3 : Hid (Box3 w3 w2.heap.size (.slice aG RW.length bG) (.int .i64 RT) (.slice cG RN dG) 28) := hbx
      clear hb hbx G_2
      refine (SP.out _).mono ?_
      rintro r w4 ⟨vW, rfl, hO, hb⟩
      obtain ⟨aW, bW, cW, dW, rfl⟩ := hO.form
      have HT4 : Hid (Below w.heap.size w w4) := bTrans HT3.out hb
      have G_4 : Hid (HP w1.heap.size w2.heap.size w4 (.agg #[.slice aG RW.length bG, .int .i64 RT, .slice cG RN dG]) RW RT RN RE) := G_3.out.keep hb
      have Q_4 : Hid (Box3 w4 w2.heap.size (.slice aG RW.length bG) (.int .i64 RT) (.slice cG RN dG) 28) := Q_3.out.keep hb
      clear hb hO G_3 Q_3
      have p0 := Q_4.out.c0
      have d0 : ∀ ob : Obj, (w4.alloc ob).cell? ⟨w2.heap.size, 0, none⟩ = some (.slice aG RW.length bG) := fun ob => (Q_4.out.keep (bAlloc (Below.refl _ _) ob)).c0
      have p1 := Q_4.out.c1
      have d1 : ∀ ob : Obj, (w4.alloc ob).cell? ⟨w2.heap.size, 1, none⟩ = some (.int .i64 RT) := fun ob => (Q_4.out.keep (bAlloc (Below.refl _ _) ob)).c1
      have p2 := Q_4.out.c2
      have d2 : ∀ ob : Obj, (w4.alloc ob).cell? ⟨w2.heap.size, 2, none⟩ = some (.slice cG RN dG) := fun ob => (Q_4.out.keep (bAlloc (Below.refl _ _) ob)).c2
      go_wp2_with fail
      clear p0 p1 p2 d0 d1 d2
      have hb : Below w4.heap.size w4 (w4.alloc (.cells #[.slice aW RW.length bW, .int .i64 RT, .slice cW RN dW] 28)) := bAlloc (Below.refl _ _) _
      generalize w4.alloc (.cells #[.slice aW RW.length bW, .int .i64 RT, .slice cW RN dW] 28) = w5 at *
      have HT5 : Hid (Below w.heap.size w w5) := bTrans HT4.out hb
      have G_5 : Hid (HP w1.heap.size w2.heap.size w5 (.agg #[.slice aG RW.length bG, .int .i64 RT, .slice cG RN dG]) RW RT RN RE) := G_4.out.keep hb
      have Q_5 : Hid (Box3 w5 w2.heap.size (.slice aG RW.length bG) (.int .i64 RT) (.slice cG RN dG) 28) := Q_4.out.keep hb
      clear hb G_4 Q_4
      refine (SC.out _).mono ?_
      rintro r w6 ⟨vA, rfl, ha, hb⟩
      obtain ⟨a1, c1, b1, e1, rfl, _, _, _, _⟩ := ha.arrI
      have HT6 : Hid (Below w.heap.size w w6) := bTrans HT5.out hb
      have G_6 : Hid (HP w1.heap.size w2.heap.size w6 (.agg #[.slice aG RW.length bG, .int .i64 RT, .slice cG RN dG]) RW RT RN RE) := G_5.out.keep hb
      have Q_6 : Hid (Box3 w6 w2.heap.size (.slice aG RW.length bG) (.int .i64 RT) (.slice cG RN dG) 28) := Q_5.out.keep hb
      have A_6 : Hid (Arr w5.heap.size w6.heap.size w6 (.agg #[.slice a1 ([] : List Int).length c1, .slice b1 ([7] : List Int).length e1]) [] [7]) := ha
      clear hb ha G_5 Q_5
      have p0 := Q_6.out.c0
      have d0 : ∀ ob : Obj, (w6.alloc ob).cell? ⟨w2.heap.size, 0, none⟩ = some (.slice aG RW.length bG) := fun ob => (Q_6.out.keep (bAlloc (Below.refl _ _) ob)).c0
      have p1 := Q_6.out.c1
      have d1 : ∀ ob : Obj, (w6.alloc ob).cell? ⟨w2.heap.size, 1, none⟩ = some (.int .i64 RT) := fun ob => (Q_6.out.keep (bAlloc (Below.refl _ _) ob)).c1
      have p2 := Q_6.out.c2
      have d2 : ∀ ob : Obj, (w6.alloc ob).cell? ⟨w2.heap.size, 2, none⟩ = some (.slice cG RN dG) := fun ob => (Q_6.out.keep (bAlloc (Below.refl _ _) ob)).c2
      go_wp2_with fail
      clear p0 p1 p2 d0 d1 d2
      have hb : Below w6.heap.size w6 (w6.alloc (.cells #[.slice a1 ([] : List Int).length c1, .slice b1 ([7] : List Int).length e1] 32)) := bAlloc (Below.refl _ _) _
      generalize w6.alloc (.cells #[.slice a1 ([] : List Int).length c1, .slice b1 ([7] : List Int).length e1] 32) = w7 at *
      have HT7 : Hid (Below w.heap.size w w7) := bTrans HT6.out hb
      have G_7 : Hid (HP w1.heap.size w2.heap.size w7 (.agg #[.slice aG RW.length bG, .int .i64 RT, .slice cG RN dG]) RW RT RN RE) := G_6.out.keep hb
      have Q_7 : Hid (Box3 w7 w2.heap.size (.slice aG RW.length bG) (.int .i64 RT) (.slice cG RN dG) 28) := Q_6.out.keep hb
      have A_7 : Hid (Arr w5.heap.size w6.heap.size w7 (.agg #[.slice a1 ([] : List Int).length c1, .slice b1 ([7] : List Int).length e1]) [] [7]) := A_6.out.keep hb
      clear hb G_6 Q_6 A_6
      refine (CP.out _ _ _ G_7.out.hi A_7.out.arrI).mono ?_
      rintro r w8 ⟨vP, rfl, hO, hb⟩
      obtain ⟨aP, bP, cP, dP, rfl⟩ := hO.form
      have HT8 : Hid (Below w.heap.size w w8) := bTrans HT7.out hb
      have G_8 : Hid (HP w1.heap.size w2.heap.size w8 (.agg #[.slice aG RW.length bG, .int .i64 RT, .slice cG RN dG]) RW RT RN RE) := G_7.out.keep hb
      have Q_8 : Hid (Box3 w8 w2.heap.size (.slice aG RW.length bG) (.int .i64 RT) (.slice cG RN dG) 28) := Q_7.out.keep hb
      clear hb hO G_7 Q_7 A_7
      have p0 := Q_8.out.c0
      have d0 : ∀ ob : Obj, (w8.alloc ob).cell? ⟨w2.heap.size, 0, none⟩ = some (.slice aG RW.length bG) := fun ob => (Q_8.out.keep (bAlloc (Below.refl _ _) ob)).c0
      have p1 := Q_8.out.c1
      have d1 : ∀ ob : Obj, (w8.alloc ob).cell? ⟨w2.heap.size, 1, none⟩ = some (.int .i64 RT) := fun ob => (Q_8.out.keep (bAlloc (Below.refl _ _) ob)).c1
      have p2 := Q_8.out.c2
      have d2 : ∀ ob : Obj, (w8.alloc ob).cell? ⟨w2.heap.size, 2, none⟩ = some (.slice cG RN dG) := fun ob => (Q_8.out.keep (bAlloc (Below.refl _ _) ob)).c2
      have hL := HL.out
      go_wp2_with fail
      clear p0 p1 p2 d0 d1 d2
      have hb : Below w8.heap.size w8 (w8.alloc (.cells #[.slice aP OW.length bP, .int .i64 OT, .slice cP ON dP] 28)) := bAlloc (Below.refl _ _) _
      generalize w8.alloc (.cells #[.slice aP OW.length bP, .int .i64 OT, .slice cP ON dP] 28) = w9 at *
      have HT9 : Hid (Below w.heap.size w w9) := bTrans HT8.out hb
      have G_9 : Hid (HP w1.heap.size w2.heap.size w9 (.agg #[.slice aG RW.length bG, .int .i64 RT, .slice cG RN dG]) RW RT RN RE) := G_8.out.keep hb
      have Q_9 : Hid (Box3 w9 w2.heap.size (.slice aG RW.length bG) (.int .i64 RT) (.slice cG RN dG) 28) := Q_8.out.keep hb
      clear hb G_8 Q_8
      refine (CU.out _ _ G_9.out.hi).mono ?_
      rintro r w10 ⟨rfl, hb⟩
      have HT10 : Hid (Below w.heap.size w w10) := bTrans HT9.out hb
      have G_10 : Hid (HP w1.heap.size w2.heap.size w10 (.agg #[.slice aG RW.length bG, .int .i64 RT, .slice cG RN dG]) RW RT RN RE) := G_9.out.keep hb
      have Q_10 : Hid (Box3 w10 w2.heap.size (.slice aG RW.length bG) (.int .i64 RT) (.slice cG RN dG) 28) := Q_9.out.keep hb
      clear hb G_9 Q_9
      have p0 := Q_10.out.c0
      have d0 : ∀ ob : Obj, (w10.alloc ob).cell? ⟨w2.heap.size, 0, none⟩ = some (.slice aG RW.length bG) := fun ob => (Q_10.out.keep (bAlloc (Below.refl _ _) ob)).c0
      have p1 := Q_10.out.c1
      have d1 : ∀ ob : Obj, (w10.alloc ob).cell? ⟨w2.heap.size, 1, none⟩ = some (.int .i64 RT) := fun ob => (Q_10.out.keep (bAlloc (Below.refl _ _) ob)).c1
      have p2 := Q_10.out.c2
      have d2 : ∀ ob : Obj, (w10.alloc ob).cell? ⟨w2.heap.size, 2, none⟩ = some (.slice cG RN dG) := fun ob => (Q_10.out.keep (bAlloc (Below.refl _ _) ob)).c2
      go_wp2_with fail
      clear p0 p1 p2 d0 d1 d2
      refine (CK.out _ _ G_10.out.hi).mono ?_
      rintro r w11 ⟨rfl, hb⟩
      have HT11 : Hid (Below w.heap.size w w11) := bTrans HT10.out hb
      clear hb
      go_wp2
      go_ret
      exact ⟨by rw [decide_eq_false (by omega)]; rfl, HT11.out⟩
  · skip
    have SP : Hid (∀ (W : World), Calls Try.prog 12 #[.int .i64 x] W fun r w' => ∃ v, r = .returned (.tuple #[v, .bool false]) ∧ HP W.heap.size w'.heap.size w' v RW RT RN RE ∧ Below W.heap.size W w') := fun W => by have h := heapNew_spec x W; rw [decide_eq_false hk] at h; rw [hRW, hRT, hRN, hRE]; exact h
    have IM : Hid (∀ (W : World), Calls Try.prog 11 #[.int .i64 x] W fun r w' => ∃ v, r = .returned (.tuple #[v, .bool false]) ∧ HP W.heap.size w'.heap.size w' v RW RT RN RE ∧ Below W.heap.size W w') := fun W => by have h := heapNew_impl x W; rw [decide_eq_false hk] at h; rw [hRW, hRT, hRN, hRE]; exact h
    have HL : Hid ((RW.length : Int) = 0) := by show _ = _; rw [hRW, newW_none hk]; rfl
    clear hRW hRT hRN hRE IN LW
    go_wp2_with fail
    refine (IM.out _).mono ?_
    rintro r w2 ⟨vG, rfl, hO, hb⟩
    obtain ⟨aG, bG, cG, dG, rfl⟩ := hO.form
    have HT2 : Hid (Below w.heap.size w w2) := bTrans HT1.out hb
    have G_2 : Hid (HP w1.heap.size w2.heap.size w2 (.agg #[.slice aG RW.length bG, .int .i64 RT, .slice cG RN dG]) RW RT RN RE) := hO
    clear hO hb
    go_wp2_with fail
    have hbx : Box3 (w2.alloc (.cells #[.slice aG RW.length bG, .int .i64 RT, .slice cG RN dG] 28)) w2.heap.size (.slice aG RW.length bG) (.int .i64 RT) (.slice cG RN dG) 28 := heap_alloc_new _ _
    have hb : Below w2.heap.size w2 (w2.alloc (.cells #[.slice aG RW.length bG, .int .i64 RT, .slice cG RN dG] 28)) := bAlloc (Below.refl _ _) _
    generalize w2.alloc (.cells #[.slice aG RW.length bG, .int .i64 RT, .slice cG RN dG] 28) = w3 at *
    have HT3 : Hid (Below w.heap.size w w3) := bTrans HT2.out hb
    have G_3 : Hid (HP w1.heap.size w2.heap.size w3 (.agg #[.slice aG RW.length bG, .int .i64 RT, .slice cG RN dG]) RW RT RN RE) := G_2.out.keep hb
    have Q_3 : Hid (Box3 w3 w2.heap.size (.slice aG RW.length bG) (.int .i64 RT) (.slice cG RN dG) 28) := hbx
    clear hb hbx G_2
    refine (SP.out _).mono ?_
    rintro r w4 ⟨vW, rfl, hO, hb⟩
    obtain ⟨aW, bW, cW, dW, rfl⟩ := hO.form
    have HT4 : Hid (Below w.heap.size w w4) := bTrans HT3.out hb
    have G_4 : Hid (HP w1.heap.size w2.heap.size w4 (.agg #[.slice aG RW.length bG, .int .i64 RT, .slice cG RN dG]) RW RT RN RE) := G_3.out.keep hb
    have Q_4 : Hid (Box3 w4 w2.heap.size (.slice aG RW.length bG) (.int .i64 RT) (.slice cG RN dG) 28) := Q_3.out.keep hb
    clear hb hO G_3 Q_3
    have p0 := Q_4.out.c0
    have d0 : ∀ ob : Obj, (w4.alloc ob).cell? ⟨w2.heap.size, 0, none⟩ = some (.slice aG RW.length bG) := fun ob => (Q_4.out.keep (bAlloc (Below.refl _ _) ob)).c0
    have p1 := Q_4.out.c1
    have d1 : ∀ ob : Obj, (w4.alloc ob).cell? ⟨w2.heap.size, 1, none⟩ = some (.int .i64 RT) := fun ob => (Q_4.out.keep (bAlloc (Below.refl _ _) ob)).c1
    have p2 := Q_4.out.c2
    have d2 : ∀ ob : Obj, (w4.alloc ob).cell? ⟨w2.heap.size, 2, none⟩ = some (.slice cG RN dG) := fun ob => (Q_4.out.keep (bAlloc (Below.refl _ _) ob)).c2
    have hL := HL.out
    go_wp2
    go_ret
    exact ⟨rfl, bAlloc HT4.out _⟩

/-! ### THE ROW's STEP: WRITTEN OUT: LEAVE IT -/
set_option maxRecDepth 100000 in
theorem lifted (os : Os) (started : os.Started) (H : Type) (enc : TypeId × Value → H) :
    ReturnsInHanded {} Try.checked os 3 .any (Rows.fnNewHeapSpec.pre6 enc Try.prog Try.f3 Rows.fnNewHeapRow.domain false) (Rows.fnNewHeapSpec.post enc Try.prog Try.f3 false true false false) := by
  refine returnsInHanded_of_change (C := Try.checked) own started (by kernel_rfl) Try.func3
    (ChangeSpec.witness6 (enc := enc) (C := Try.checked) false ⟨#[], #[.slice none 0 0], []⟩ 8 (by kernel_rfl) (by kernel_rfl) (by kernel_rfl) (by kernel_rfl)) ?_
  intro W base args ds gs before hval0 hW hcnd _
  have hval : ∀ (j : Nat) t v, Try.f3.params[j]? = some t → args[j]? = some v → Value.okWide Try.prog W .any base t v := hval0
  have hW' := hW
  obtain ⟨p, q, hA0, hV, rfl, hfz, hnd⟩ := hW
  have hA : DataW.TrodAll enc Try.prog W 0 (fun _ => true) true Try.f3.params.toList args.toList ds p := hA0
  rw [Try.params3] at hA hval
  obtain ⟨v0, vs0, d0, ds0, p0, q0, hargs, rfl, rfl, h0, r0⟩ := trodAll_cons hA
  obtain ⟨rfl, rfl, rfl⟩ := trodAll_nil r0
  obtain rfl : args = #[v0] := by cases args; simp_all
  obtain ⟨rfl, rfl⟩ := trodVars_none hV
  obtain ⟨a0, len0, cap0, rfl⟩ := okWide_slice Try.underlying22 (hval 0 22 v0 rfl rfl)
  have k0 := h0
  have lt0 : ∀ x ∈ p0, x.block < W.heap.size := by obtain ⟨m, hm⟩ := k0; exact DataW.trod_lt m _ _ _ hm
  obtain ⟨z0, w0⟩ : ∃ zs, IsRow .u8 W a0 len0 cap0 zs := by
    obtain ⟨fuel, hf⟩ := h0
    rcases open_ints Try.underlying22 Try.underlying5 (by kernel_rfl) hf with ⟨hcs, _⟩ | ⟨x, l, c, zs, hcs, _, hl, hm, hz, _, hcell, hwz⟩
    · simp [Value.cells] at hcs
      obtain ⟨rfl, rfl, rfl⟩ := hcs
      exact ⟨[], .inl ⟨rfl, rfl, rfl, rfl⟩⟩
    · simp [Value.cells] at hcs
      obtain ⟨rfl, rfl, rfl⟩ := hcs
      exact ⟨zs, .inr ⟨_, rfl, hl, hm, by simpa using hz, hcell, hwz⟩⟩
  clear hA0 hval0
  refine (walk a0 len0 cap0 z0 W w0).mono fun e W' ⟨he, bel⟩ => ?_
  subst he
  exact ⟨_, rfl, _, _, _, [], _, [], hW', trodAll_mk1 (shut_bool Try.underlying4 _), (trodAll_cons_mk (Below.trod laidOut (by kernel_rfl) (of_decide_eq_true (by kernel_rfl)) k0 bel lt0) trodAll_mk0), rfl, bel.frame _, fun h => by cases h⟩

theorem over : Rows.fnNewHeapRow.holds Try.pinned (OpenSpec.ofChange Rows.fnNewHeapSpec) :=
  OpenClaim.holds_of_wide 3 Try.f3 rfl rfl rfl rfl rfl rfl rfl ⟨rfl, rfl, rfl, rfl, rfl⟩ rfl rfl rfl rfl rfl (by kernel_rfl) Try.func3 (by kernel_rfl)
    (of_decide_eq_true (by kernel_rfl)) (by unfold Func.isWrapper; first | (rw [if_pos (by decide +kernel)]; kernel_rfl) | (rw [if_neg (by decide +kernel)]; exact ⟨rfl, rfl⟩))
    (fun os started H enc _ => lifted os started H enc)

/-- ████ THE STATEMENT ████ -/
theorem proved : Rows.FnNewHeapSaid := over
end Go.Proofs.Ytmmjidhpmbcoiaa.fnNewHeap
namespace Go.Proofs.Ytmmjidhpmbcoiaa
theorem fnNewHeap_holds : Rows.FnNewHeapSaid := fnNewHeap.proved
#print axioms fnNewHeap_holds
end Go.Proofs.Ytmmjidhpmbcoiaa
