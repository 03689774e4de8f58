/-
  Proved: whatever heap it is given, the law FnExactHeapPack returns true (the program's HeapPack answers as the specification's, every field, writes into no argument, and its answer owns its memory), and what it is given reads as before. No condition.
-/
import Derived.Test.YtlnaodjhkchgjaaRows
import Derived.WalkKit
import Derived.ProofKit
import Derived.OpenShut
import Derived.ShutString
import Derived.ChangeOld
import Derived.Below
import Derived.Deep.Cut
import Derived.Test.YtlnaodjhkchgjaaFrame
import Derived.Test.YtlnaodjhkchgjaaHeapP
import Derived.Test.YtlnaodjhkchgjaaSortL
namespace Go.Proofs.Ytlnaodjhkchgjaa.fnExactHeapPack
open Go.ChangeShapes Go.WideShapes Go.ChangeAt Go.RowKit
open Go.ChangeMaps (open_string shut_string)
set_option linter.unusedVariables false
set_option linter.unusedSimpArgs false

theorem own : ownKnob Try.prog.godebug = none := by kernel_rfl
theorem laidOut : laidOutB Try.prog = true := by kernel_rfl

set_option maxRecDepth 20000 in
set_option maxHeartbeats 8000000 in
/-- The walk: the law returns true, and writes nothing that was there. -/
theorem walk (v0 : Value) (W0 : List Int) (t0 : Int) (n0 : Nat) (E0 : Nat → Cel) (w : World) (w0 : HI w v0 W0 t0 n0 E0) (b0 : W0.length ≤ 9223372036854775807) (c0 : n0 ≤ 9223372036854775807) (d0 : ∀ i, in64 (E0 i).f ∧ in64 (E0 i).l) (e0 : in64 t0) :
    Calls Try.prog 3 #[v0] w fun e w' => e = .returned (.bool true) ∧ Below w.heap.size w w' := by
  have H : Hid (HI w v0 W0 t0 n0 E0) := w0
  have HE : Hid ((∀ i, in64 (E0 i).f ∧ in64 (E0 i).l) ∧ in64 t0) := ⟨d0, e0⟩
  obtain ⟨ya, yc, za, zc, rfl, _⟩ := w0
  clear d0 e0
  go_enter Try.func3, Try.ntmps3
  go_wp2_with fail
  have hbx : Box3 (w.alloc (.cells #[.slice ya W0.length yc, .int .i64 t0, .slice za n0 zc] 25)) w.heap.size (.slice ya W0.length yc) (.int .i64 t0) (.slice za n0 zc) 25 := heap_alloc_new _ _
  have hb : Below w.heap.size w (w.alloc (.cells #[.slice ya W0.length yc, .int .i64 t0, .slice za n0 zc] 25)) := bAlloc (Below.refl _ _) _
  generalize w.alloc (.cells #[.slice ya W0.length yc, .int .i64 t0, .slice za n0 zc] 25) = w1 at *
  have SZ1 : Hid (w.heap.size ≤ w1.heap.size) := hb.size
  have HT1 : Hid (Below w.heap.size w w1) := hb
  have A_1 : Hid (Box3 w1 w.heap.size (.slice ya W0.length yc) (.int .i64 t0) (.slice za n0 zc) 25) := hbx
  have LA : Hid (w.heap.size < w1.heap.size) := hbx.lt
  clear hb hbx
  refine (szHeap_at (H.out.keep HT1.out) b0 c0).mono ?_
  rintro r w2 ⟨rfl, hb⟩
  have SZ2 : Hid (w1.heap.size ≤ w2.heap.size) := hb.size
  have HT2 : Hid (Below w.heap.size w w2) := bTrans HT1.out hb
  have A_2 : Hid (Box3 w2 w.heap.size (.slice ya W0.length yc) (.int .i64 t0) (.slice za n0 zc) 25) := A_1.out.keep hb
  clear A_1
  clear hb
  by_cases h0 : szV (W0.length + n0) 1048576 < 0
  · generalize szV (W0.length + n0) 1048576 = X at *
    go_wp2
    go_ret
    exact ⟨rfl, HT2.out⟩
  have BW : Hid (W0.length ≤ 1048576) := by show _ ≤ _; unfold szV at h0; split at h0 <;> omega
  have BN : Hid (n0 ≤ 1048576) := by show _ ≤ _; unfold szV at h0; split at h0 <;> omega
  generalize szV (W0.length + n0) 1048576 = X at *
  clear b0 c0
  obtain ⟨V, hV⟩ : ∃ V, V = (hOkB W0.length t0 n0 E0) := ⟨_, rfl⟩
  obtain ⟨RW, hRW⟩ : ∃ RW, RW = packW W0 t0 n0 E0 := ⟨_, rfl⟩
  obtain ⟨RT, hRT⟩ : ∃ RT : Int, RT = packT W0 t0 n0 E0 := ⟨_, rfl⟩
  obtain ⟨RN, hRN⟩ : ∃ RN : Nat, RN = packN W0 t0 n0 E0 := ⟨_, rfl⟩
  obtain ⟨RE, hRE⟩ : ∃ RE : Nat → Cel, RE = packE E0 n0 := ⟨_, rfl⟩
  have LW : Hid (RW.length ≤ 1048576) := by show _ ≤ _; rw [hRW]; exact packW_len BW.out
  have LN : Hid (RN ≤ 1048576) := by show _ ≤ _; rw [hRN]; exact packN_le BN.out
  have SP : Hid (∀ (W : World) (u : Value), HI W u W0 t0 n0 E0 → Calls Try.prog 8 #[u] W fun r w' => ∃ v, r = .returned (.tuple #[v, .bool V]) ∧ HX W.heap.size w'.heap.size w' v RW RT RN RE ∧ Below W.heap.size W w') := fun W u hu => by rw [hV, hRW, hRT, hRN, hRE]; exact heapPack_spec hu HE.out BW.out BN.out
  have IM : Hid (∀ (W : World) (u : Value), HI W u W0 t0 n0 E0 → Calls Try.prog 10 #[u] W fun r w' => ∃ v, r = .returned (.tuple #[v, .bool V]) ∧ HX W.heap.size w'.heap.size w' v RW RT RN RE ∧ Below W.heap.size W w') := fun W u hu => by rw [hV, hRW, hRT, hRN, hRE]; exact heapPack_impl sorts_by sorts_none hu HE.out BW.out BN.out
  clear hV hRW hRT hRN hRE
  have hneV : (V != V) = false := by simp
  have pA0 := A_2.out.c0
  have pA1 := A_2.out.c1
  have pA2 := A_2.out.c2
  go_wp2_with fail
  refine (toHeap_own (H.out.keep HT2.out) BW.out BN.out).mono ?_
  rintro r w3 ⟨vT, rfl, hO, hb⟩
  obtain ⟨aT, bT, cT, dT, rfl⟩ := hO.form
  clear pA0 pA1 pA2
  have SZ3 : Hid (w2.heap.size ≤ w3.heap.size) := hb.size
  have HT3 : Hid (Below w.heap.size w w3) := bTrans HT2.out hb
  have A_3 : Hid (Box3 w3 w.heap.size (.slice ya W0.length yc) (.int .i64 t0) (.slice za n0 zc) 25) := A_2.out.keep hb
  clear A_2
  have T_3 : Hid (HP w2.heap.size w3.heap.size w3 (.agg #[.slice aT W0.length bT, .int .i64 t0, .slice cT n0 dT]) W0 t0 n0 E0) := hO
  clear hO hb
  have pA0 := A_3.out.c0
  have pA1 := A_3.out.c1
  have pA2 := A_3.out.c2
  go_wp2_with fail
  refine (SP.out _ _ T_3.out.hi).mono ?_
  rintro r w4 ⟨vW, rfl, hO, hb⟩
  obtain ⟨aW, bW, cW, dW, rfl⟩ := hO.form
  clear pA0 pA1 pA2
  have SZ4 : Hid (w3.heap.size ≤ w4.heap.size) := hb.size
  have HT4 : Hid (Below w.heap.size w w4) := bTrans HT3.out hb
  have A_4 : Hid (Box3 w4 w.heap.size (.slice ya W0.length yc) (.int .i64 t0) (.slice za n0 zc) 25) := A_3.out.keep hb
  have T_4 : Hid (HP w2.heap.size w3.heap.size w4 (.agg #[.slice aT W0.length bT, .int .i64 t0, .slice cT n0 dT]) W0 t0 n0 E0) := T_3.out.keep hb
  clear A_3
  clear T_3
  have W_4 : Hid (HX w3.heap.size w4.heap.size w4 (.agg #[.slice aW RW.length bW, .int .i64 RT, .slice cW RN dW]) RW RT RN RE) := hO
  clear hO hb
  have pA0 := A_4.out.c0
  have dA0 : ∀ ob : Obj, (w4.alloc ob).cell? ⟨w.heap.size, 0, none⟩ = some (.slice ya W0.length yc) := fun ob => (A_4.out.keep (bAlloc (Below.refl _ _) ob)).c0
  have pA1 := A_4.out.c1
  have dA1 : ∀ ob : Obj, (w4.alloc ob).cell? ⟨w.heap.size, 1, none⟩ = some (.int .i64 t0) := fun ob => (A_4.out.keep (bAlloc (Below.refl _ _) ob)).c1
  have pA2 := A_4.out.c2
  have dA2 : ∀ ob : Obj, (w4.alloc ob).cell? ⟨w.heap.size, 2, none⟩ = some (.slice za n0 zc) := fun ob => (A_4.out.keep (bAlloc (Below.refl _ _) ob)).c2
  go_wp2_with fail
  clear pA0 pA1 pA2
  clear dA0 dA1 dA2
  have hbx : Box3 (w4.alloc (.cells #[.slice aW RW.length bW, .int .i64 RT, .slice cW RN dW] 29)) w4.heap.size (.slice aW RW.length bW) (.int .i64 RT) (.slice cW RN dW) 29 := heap_alloc_new _ _
  have hb : Below w4.heap.size w4 (w4.alloc (.cells #[.slice aW RW.length bW, .int .i64 RT, .slice cW RN dW] 29)) := bAlloc (Below.refl _ _) _
  generalize w4.alloc (.cells #[.slice aW RW.length bW, .int .i64 RT, .slice cW RN dW] 29) = w5 at *
  have SZ5 : Hid (w4.heap.size ≤ w5.heap.size) := hb.size
  have HT5 : Hid (Below w.heap.size w w5) := bTrans HT4.out hb
  have A_5 : Hid (Box3 w5 w.heap.size (.slice ya W0.length yc) (.int .i64 t0) (.slice za n0 zc) 25) := A_4.out.keep hb
  have T_5 : Hid (HP w2.heap.size w3.heap.size w5 (.agg #[.slice aT W0.length bT, .int .i64 t0, .slice cT n0 dT]) W0 t0 n0 E0) := T_4.out.keep hb
  have W_5 : Hid (HX w3.heap.size w4.heap.size w5 (.agg #[.slice aW RW.length bW, .int .i64 RT, .slice cW RN dW]) RW RT RN RE) := W_4.out.keep hb
  clear A_4
  clear T_4
  clear W_4
  have QW_5 : Hid (Box3 w5 w4.heap.size (.slice aW RW.length bW) (.int .i64 RT) (.slice cW RN dW) 29) := hbx
  have LQW : Hid (w4.heap.size < w5.heap.size) := hbx.lt
  clear hb hbx
  clear T_5
  refine (toHeap_own (H.out.keep HT5.out) BW.out BN.out).mono ?_
  rintro r w6 ⟨vX, rfl, hO, hb⟩
  obtain ⟨aX, bX, cX, dX, rfl⟩ := hO.form
  have SZ6 : Hid (w5.heap.size ≤ w6.heap.size) := hb.size
  have HT6 : Hid (Below w.heap.size w w6) := bTrans HT5.out hb
  have A_6 : Hid (Box3 w6 w.heap.size (.slice ya W0.length yc) (.int .i64 t0) (.slice za n0 zc) 25) := A_5.out.keep hb
  have W_6 : Hid (HX w3.heap.size w4.heap.size w6 (.agg #[.slice aW RW.length bW, .int .i64 RT, .slice cW RN dW]) RW RT RN RE) := W_5.out.keep hb
  have QW_6 : Hid (Box3 w6 w4.heap.size (.slice aW RW.length bW) (.int .i64 RT) (.slice cW RN dW) 29) := QW_5.out.keep hb
  clear A_5
  clear W_5
  clear QW_5
  have X_6 : Hid (HP w5.heap.size w6.heap.size w6 (.agg #[.slice aX W0.length bX, .int .i64 t0, .slice cX n0 dX]) W0 t0 n0 E0) := hO
  clear hO hb
  have pA0 := A_6.out.c0
  have dA0 : ∀ ob : Obj, (w6.alloc ob).cell? ⟨w.heap.size, 0, none⟩ = some (.slice ya W0.length yc) := fun ob => (A_6.out.keep (bAlloc (Below.refl _ _) ob)).c0
  have pA1 := A_6.out.c1
  have dA1 : ∀ ob : Obj, (w6.alloc ob).cell? ⟨w.heap.size, 1, none⟩ = some (.int .i64 t0) := fun ob => (A_6.out.keep (bAlloc (Below.refl _ _) ob)).c1
  have pA2 := A_6.out.c2
  have dA2 : ∀ ob : Obj, (w6.alloc ob).cell? ⟨w.heap.size, 2, none⟩ = some (.slice za n0 zc) := fun ob => (A_6.out.keep (bAlloc (Below.refl _ _) ob)).c2
  have pQW0 := QW_6.out.c0
  have dQW0 : ∀ ob : Obj, (w6.alloc ob).cell? ⟨w4.heap.size, 0, none⟩ = some (.slice aW RW.length bW) := fun ob => (QW_6.out.keep (bAlloc (Below.refl _ _) ob)).c0
  have pQW1 := QW_6.out.c1
  have dQW1 : ∀ ob : Obj, (w6.alloc ob).cell? ⟨w4.heap.size, 1, none⟩ = some (.int .i64 RT) := fun ob => (QW_6.out.keep (bAlloc (Below.refl _ _) ob)).c1
  have pQW2 := QW_6.out.c2
  have dQW2 : ∀ ob : Obj, (w6.alloc ob).cell? ⟨w4.heap.size, 2, none⟩ = some (.slice cW RN dW) := fun ob => (QW_6.out.keep (bAlloc (Below.refl _ _) ob)).c2
  go_wp2_with fail
  clear pA0 pA1 pA2
  clear dA0 dA1 dA2
  clear pQW0 pQW1 pQW2
  clear dQW0 dQW1 dQW2
  have hbx : Box3 (w6.alloc (.cells #[.slice aX W0.length bX, .int .i64 t0, .slice cX n0 dX] 29)) w6.heap.size (.slice aX W0.length bX) (.int .i64 t0) (.slice cX n0 dX) 29 := heap_alloc_new _ _
  have hb : Below w6.heap.size w6 (w6.alloc (.cells #[.slice aX W0.length bX, .int .i64 t0, .slice cX n0 dX] 29)) := bAlloc (Below.refl _ _) _
  generalize w6.alloc (.cells #[.slice aX W0.length bX, .int .i64 t0, .slice cX n0 dX] 29) = w7 at *
  have SZ7 : Hid (w6.heap.size ≤ w7.heap.size) := hb.size
  have HT7 : Hid (Below w.heap.size w w7) := bTrans HT6.out hb
  have A_7 : Hid (Box3 w7 w.heap.size (.slice ya W0.length yc) (.int .i64 t0) (.slice za n0 zc) 25) := A_6.out.keep hb
  have W_7 : Hid (HX w3.heap.size w4.heap.size w7 (.agg #[.slice aW RW.length bW, .int .i64 RT, .slice cW RN dW]) RW RT RN RE) := W_6.out.keep hb
  have QW_7 : Hid (Box3 w7 w4.heap.size (.slice aW RW.length bW) (.int .i64 RT) (.slice cW RN dW) 29) := QW_6.out.keep hb
  have X_7 : Hid (HP w5.heap.size w6.heap.size w7 (.agg #[.slice aX W0.length bX, .int .i64 t0, .slice cX n0 dX]) W0 t0 n0 E0) := X_6.out.keep hb
  clear A_6
  clear W_6
  clear QW_6
  clear X_6
  have P_7 : Hid (Box3 w7 w6.heap.size (.slice aX W0.length bX) (.int .i64 t0) (.slice cX n0 dX) 29) := hbx
  have LP : Hid (w6.heap.size < w7.heap.size) := hbx.lt
  clear hb hbx
  refine (IM.out _ _ X_7.out.hi).mono ?_
  rintro r w8 ⟨vG, rfl, hO, hb⟩
  obtain ⟨aG, bG, cG, dG, rfl⟩ := hO.form
  have SZ8 : Hid (w7.heap.size ≤ w8.heap.size) := hb.size
  have HT8 : Hid (Below w.heap.size w w8) := bTrans HT7.out hb
  have A_8 : Hid (Box3 w8 w.heap.size (.slice ya W0.length yc) (.int .i64 t0) (.slice za n0 zc) 25) := A_7.out.keep hb
  have W_8 : Hid (HX w3.heap.size w4.heap.size w8 (.agg #[.slice aW RW.length bW, .int .i64 RT, .slice cW RN dW]) RW RT RN RE) := W_7.out.keep hb
  have QW_8 : Hid (Box3 w8 w4.heap.size (.slice aW RW.length bW) (.int .i64 RT) (.slice cW RN dW) 29) := QW_7.out.keep hb
  have X_8 : Hid (HP w5.heap.size w6.heap.size w8 (.agg #[.slice aX W0.length bX, .int .i64 t0, .slice cX n0 dX]) W0 t0 n0 E0) := X_7.out.keep hb
  have P_8 : Hid (Box3 w8 w6.heap.size (.slice aX W0.length bX) (.int .i64 t0) (.slice cX n0 dX) 29) := P_7.out.keep hb
  clear A_7
  clear W_7
  clear QW_7
  clear X_7
  clear P_7
  have G_8 : Hid (HX w7.heap.size w8.heap.size w8 (.agg #[.slice aG RW.length bG, .int .i64 RT, .slice cG RN dG]) RW RT RN RE) := hO
  clear hO hb
  have pA0 := A_8.out.c0
  have dA0 : ∀ ob : Obj, (w8.alloc ob).cell? ⟨w.heap.size, 0, none⟩ = some (.slice ya W0.length yc) := fun ob => (A_8.out.keep (bAlloc (Below.refl _ _) ob)).c0
  have pA1 := A_8.out.c1
  have dA1 : ∀ ob : Obj, (w8.alloc ob).cell? ⟨w.heap.size, 1, none⟩ = some (.int .i64 t0) := fun ob => (A_8.out.keep (bAlloc (Below.refl _ _) ob)).c1
  have pA2 := A_8.out.c2
  have dA2 : ∀ ob : Obj, (w8.alloc ob).cell? ⟨w.heap.size, 2, none⟩ = some (.slice za n0 zc) := fun ob => (A_8.out.keep (bAlloc (Below.refl _ _) ob)).c2
  have pQW0 := QW_8.out.c0
  have dQW0 : ∀ ob : Obj, (w8.alloc ob).cell? ⟨w4.heap.size, 0, none⟩ = some (.slice aW RW.length bW) := fun ob => (QW_8.out.keep (bAlloc (Below.refl _ _) ob)).c0
  have pQW1 := QW_8.out.c1
  have dQW1 : ∀ ob : Obj, (w8.alloc ob).cell? ⟨w4.heap.size, 1, none⟩ = some (.int .i64 RT) := fun ob => (QW_8.out.keep (bAlloc (Below.refl _ _) ob)).c1
  have pQW2 := QW_8.out.c2
  have dQW2 : ∀ ob : Obj, (w8.alloc ob).cell? ⟨w4.heap.size, 2, none⟩ = some (.slice cW RN dW) := fun ob => (QW_8.out.keep (bAlloc (Below.refl _ _) ob)).c2
  have pP0 := P_8.out.c0
  have dP0 : ∀ ob : Obj, (w8.alloc ob).cell? ⟨w6.heap.size, 0, none⟩ = some (.slice aX W0.length bX) := fun ob => (P_8.out.keep (bAlloc (Below.refl _ _) ob)).c0
  have pP1 := P_8.out.c1
  have dP1 : ∀ ob : Obj, (w8.alloc ob).cell? ⟨w6.heap.size, 1, none⟩ = some (.int .i64 t0) := fun ob => (P_8.out.keep (bAlloc (Below.refl _ _) ob)).c1
  have pP2 := P_8.out.c2
  have dP2 : ∀ ob : Obj, (w8.alloc ob).cell? ⟨w6.heap.size, 2, none⟩ = some (.slice cX n0 dX) := fun ob => (P_8.out.keep (bAlloc (Below.refl _ _) ob)).c2
  go_wp2_with fail
  clear pA0 pA1 pA2
  clear dA0 dA1 dA2
  clear pQW0 pQW1 pQW2
  clear dQW0 dQW1 dQW2
  clear pP0 pP1 pP2
  clear dP0 dP1 dP2
  have hbx : Box3 (w8.alloc (.cells #[.slice aG RW.length bG, .int .i64 RT, .slice cG RN dG] 29)) w8.heap.size (.slice aG RW.length bG) (.int .i64 RT) (.slice cG RN dG) 29 := heap_alloc_new _ _
  have hb : Below w8.heap.size w8 (w8.alloc (.cells #[.slice aG RW.length bG, .int .i64 RT, .slice cG RN dG] 29)) := bAlloc (Below.refl _ _) _
  generalize w8.alloc (.cells #[.slice aG RW.length bG, .int .i64 RT, .slice cG RN dG] 29) = w9 at *
  have SZ9 : Hid (w8.heap.size ≤ w9.heap.size) := hb.size
  have HT9 : Hid (Below w.heap.size w w9) := bTrans HT8.out hb
  have A_9 : Hid (Box3 w9 w.heap.size (.slice ya W0.length yc) (.int .i64 t0) (.slice za n0 zc) 25) := A_8.out.keep hb
  have W_9 : Hid (HX w3.heap.size w4.heap.size w9 (.agg #[.slice aW RW.length bW, .int .i64 RT, .slice cW RN dW]) RW RT RN RE) := W_8.out.keep hb
  have QW_9 : Hid (Box3 w9 w4.heap.size (.slice aW RW.length bW) (.int .i64 RT) (.slice cW RN dW) 29) := QW_8.out.keep hb
  have X_9 : Hid (HP w5.heap.size w6.heap.size w9 (.agg #[.slice aX W0.length bX, .int .i64 t0, .slice cX n0 dX]) W0 t0 n0 E0) := X_8.out.keep hb
  have P_9 : Hid (Box3 w9 w6.heap.size (.slice aX W0.length bX) (.int .i64 t0) (.slice cX n0 dX) 29) := P_8.out.keep hb
  have G_9 : Hid (HX w7.heap.size w8.heap.size w9 (.agg #[.slice aG RW.length bG, .int .i64 RT, .slice cG RN dG]) RW RT RN RE) := G_8.out.keep hb
  clear A_8
  clear W_8
  clear QW_8
  clear X_8
  clear P_8
  clear G_8
  have QG_9 : Hid (Box3 w9 w8.heap.size (.slice aG RW.length bG) (.int .i64 RT) (.slice cG RN dG) 29) := hbx
  have LQG : Hid (w8.heap.size < w9.heap.size) := hbx.lt
  clear hb hbx
  refine (eqHeap_same G_9.out.hi W_9.out.hi LW.out LN.out).mono ?_
  rintro r w10 ⟨rfl, hb⟩
  have SZ10 : Hid (w9.heap.size ≤ w10.heap.size) := hb.size
  have HT10 : Hid (Below w.heap.size w w10) := bTrans HT9.out hb
  have A_10 : Hid (Box3 w10 w.heap.size (.slice ya W0.length yc) (.int .i64 t0) (.slice za n0 zc) 25) := A_9.out.keep hb
  have W_10 : Hid (HX w3.heap.size w4.heap.size w10 (.agg #[.slice aW RW.length bW, .int .i64 RT, .slice cW RN dW]) RW RT RN RE) := W_9.out.keep hb
  have QW_10 : Hid (Box3 w10 w4.heap.size (.slice aW RW.length bW) (.int .i64 RT) (.slice cW RN dW) 29) := QW_9.out.keep hb
  have X_10 : Hid (HP w5.heap.size w6.heap.size w10 (.agg #[.slice aX W0.length bX, .int .i64 t0, .slice cX n0 dX]) W0 t0 n0 E0) := X_9.out.keep hb
  have P_10 : Hid (Box3 w10 w6.heap.size (.slice aX W0.length bX) (.int .i64 t0) (.slice cX n0 dX) 29) := P_9.out.keep hb
  have G_10 : Hid (HX w7.heap.size w8.heap.size w10 (.agg #[.slice aG RW.length bG, .int .i64 RT, .slice cG RN dG]) RW RT RN RE) := G_9.out.keep hb
  have QG_10 : Hid (Box3 w10 w8.heap.size (.slice aG RW.length bG) (.int .i64 RT) (.slice cG RN dG) 29) := QG_9.out.keep hb
  clear A_9
  clear W_9
  clear QW_9
  clear X_9
  clear P_9
  clear G_9
  clear QG_9
  clear hb
  have SK : Hid (∀ W, Below w10.heap.size w10 W → W.cell? ⟨w.heap.size, 0, none⟩ = some (.slice ya W0.length yc) ∧ W.cell? ⟨w.heap.size, 1, none⟩ = some (.int .i64 t0) ∧ W.cell? ⟨w.heap.size, 2, none⟩ = some (.slice za n0 zc) ∧ W.cell? ⟨w6.heap.size, 0, none⟩ = some (.slice aX W0.length bX) ∧ W.cell? ⟨w6.heap.size, 1, none⟩ = some (.int .i64 t0) ∧ W.cell? ⟨w6.heap.size, 2, none⟩ = some (.slice cX n0 dX)) := fun W hb => ⟨(A_10.out.keep hb).c0, (A_10.out.keep hb).c1, (A_10.out.keep hb).c2, (P_10.out.keep hb).c0, (P_10.out.keep hb).c1, (P_10.out.keep hb).c2⟩
  go_wp2_with fail
  go_region_held3 (fun w' => w'.cell? ⟨w.heap.size, 0, none⟩ = some (.slice ya W0.length yc) ∧ w'.cell? ⟨w.heap.size, 1, none⟩ = some (.int .i64 t0) ∧ w'.cell? ⟨w.heap.size, 2, none⟩ = some (.slice za n0 zc) ∧ w'.cell? ⟨w6.heap.size, 0, none⟩ = some (.slice aX W0.length bX) ∧ w'.cell? ⟨w6.heap.size, 1, none⟩ = some (.int .i64 t0) ∧ w'.cell? ⟨w6.heap.size, 2, none⟩ = some (.slice cX n0 dX))
    ((refine SK.out _ ?_; (repeat first | with_reducible exact HBb.out | with_reducible exact HBa.out | with_reducible exact Below.refl _ _ | with_reducible refine Below.drew ?_)))
    (first
      | (go_at_call 9; refine (toHeap_own (H.out.keep (bTrans HT10.out ((Below.refl w10.heap.size w10).drew))) BW.out BN.out).mono ?_; rintro r wa ⟨v3, rfl, hu, hb⟩; have U3 : Hid (HI wa v3 W0 t0 n0 E0) := hu.hi; have HBa : Hid (Below w10.heap.size w10 wa) := bTrans ((Below.refl w10.heap.size w10).drew) hb; clear hu hb)
      | (go_at_call 11; refine (eqHeap_same ((X_10.out.keep HBa.out).hi) U3.out BW.out BN.out).mono ?_; rintro r w11 ⟨rfl, hb⟩; have HBb : Hid (Below w10.heap.size w10 w11) := bTrans HBa.out hb; clear hb))
  all_goals
    clear SK U3 HBa
    have hb := HBb.out
    clear HBb
    have SZ11 : Hid (w10.heap.size ≤ w11.heap.size) := hb.size
    have HT11 : Hid (Below w.heap.size w w11) := bTrans HT10.out hb
    have A_11 : Hid (Box3 w11 w.heap.size (.slice ya W0.length yc) (.int .i64 t0) (.slice za n0 zc) 25) := A_10.out.keep hb
    have W_11 : Hid (HX w3.heap.size w4.heap.size w11 (.agg #[.slice aW RW.length bW, .int .i64 RT, .slice cW RN dW]) RW RT RN RE) := W_10.out.keep hb
    have QW_11 : Hid (Box3 w11 w4.heap.size (.slice aW RW.length bW) (.int .i64 RT) (.slice cW RN dW) 29) := QW_10.out.keep hb
    have X_11 : Hid (HP w5.heap.size w6.heap.size w11 (.agg #[.slice aX W0.length bX, .int .i64 t0, .slice cX n0 dX]) W0 t0 n0 E0) := X_10.out.keep hb
    have P_11 : Hid (Box3 w11 w6.heap.size (.slice aX W0.length bX) (.int .i64 t0) (.slice cX n0 dX) 29) := P_10.out.keep hb
    have G_11 : Hid (HX w7.heap.size w8.heap.size w11 (.agg #[.slice aG RW.length bG, .int .i64 RT, .slice cG RN dG]) RW RT RN RE) := G_10.out.keep hb
    have QG_11 : Hid (Box3 w11 w8.heap.size (.slice aG RW.length bG) (.int .i64 RT) (.slice cG RN dG) 29) := QG_10.out.keep hb
    clear A_10
    clear W_10
    clear QW_10
    clear X_10
    clear P_10
    clear G_10
    clear QG_10
    clear hb
    have pA0 := A_11.out.c0
    have pA1 := A_11.out.c1
    have pA2 := A_11.out.c2
    have pQW0 := QW_11.out.c0
    have pQW1 := QW_11.out.c1
    have pQW2 := QW_11.out.c2
    have pP0 := P_11.out.c0
    have pP1 := P_11.out.c1
    have pP2 := P_11.out.c2
    have pQG0 := QG_11.out.c0
    have pQG1 := QG_11.out.c1
    have pQG2 := QG_11.out.c2
    go_wp2_with fail
    refine (markHeap_own X_11.out (by have := SZ1.out; have := LA.out; have := SZ2.out; have := SZ3.out; have := SZ4.out; have := SZ5.out; have := LQW.out; have := SZ6.out; have := SZ7.out; have := LP.out; have := SZ8.out; have := SZ9.out; have := LQG.out; have := SZ10.out; have := SZ11.out; omega) BW.out BN.out 1 (by decide) (by decide)).mono ?_
    rintro r w12 ⟨rfl, _, hw⟩
    clear pA0 pA1 pA2
    clear pQW0 pQW1 pQW2
    clear pP0 pP1 pP2
    clear pQG0 pQG1 pQG2
    have SZ12 : Hid (w11.heap.size ≤ w12.heap.size) := hw.size
    have HT12 : Hid (Below w.heap.size w w12) := HT11.out.trans (hw.below (by have := SZ1.out; have := LA.out; have := SZ2.out; have := SZ3.out; have := SZ4.out; have := SZ5.out; have := LQW.out; have := SZ6.out; have := SZ7.out; have := LP.out; have := SZ8.out; have := SZ9.out; have := LQG.out; have := SZ10.out; have := SZ11.out; omega) HT11.out.size)
    have A_12 : Hid (Box3 w12 w.heap.size (.slice ya W0.length yc) (.int .i64 t0) (.slice za n0 zc) 25) := A_11.out.win hw (by have := SZ1.out; have := LA.out; have := SZ2.out; have := SZ3.out; have := SZ4.out; have := SZ5.out; have := LQW.out; have := SZ6.out; have := SZ7.out; have := LP.out; have := SZ8.out; have := SZ9.out; have := LQG.out; have := SZ10.out; have := SZ11.out; omega)
    have W_12 : Hid (HX w3.heap.size w4.heap.size w12 (.agg #[.slice aW RW.length bW, .int .i64 RT, .slice cW RN dW]) RW RT RN RE) := W_11.out.win hw (by have := SZ1.out; have := LA.out; have := SZ2.out; have := SZ3.out; have := SZ4.out; have := SZ5.out; have := LQW.out; have := SZ6.out; have := SZ7.out; have := LP.out; have := SZ8.out; have := SZ9.out; have := LQG.out; have := SZ10.out; have := SZ11.out; omega)
    have QW_12 : Hid (Box3 w12 w4.heap.size (.slice aW RW.length bW) (.int .i64 RT) (.slice cW RN dW) 29) := QW_11.out.win hw (by have := SZ1.out; have := LA.out; have := SZ2.out; have := SZ3.out; have := SZ4.out; have := SZ5.out; have := LQW.out; have := SZ6.out; have := SZ7.out; have := LP.out; have := SZ8.out; have := SZ9.out; have := LQG.out; have := SZ10.out; have := SZ11.out; omega)
    have P_12 : Hid (Box3 w12 w6.heap.size (.slice aX W0.length bX) (.int .i64 t0) (.slice cX n0 dX) 29) := P_11.out.win hw (by have := SZ1.out; have := LA.out; have := SZ2.out; have := SZ3.out; have := SZ4.out; have := SZ5.out; have := LQW.out; have := SZ6.out; have := SZ7.out; have := LP.out; have := SZ8.out; have := SZ9.out; have := LQG.out; have := SZ10.out; have := SZ11.out; omega)
    have G_12 : Hid (HX w7.heap.size w8.heap.size w12 (.agg #[.slice aG RW.length bG, .int .i64 RT, .slice cG RN dG]) RW RT RN RE) := G_11.out.win hw (by have := SZ1.out; have := LA.out; have := SZ2.out; have := SZ3.out; have := SZ4.out; have := SZ5.out; have := LQW.out; have := SZ6.out; have := SZ7.out; have := LP.out; have := SZ8.out; have := SZ9.out; have := LQG.out; have := SZ10.out; have := SZ11.out; omega)
    have QG_12 : Hid (Box3 w12 w8.heap.size (.slice aG RW.length bG) (.int .i64 RT) (.slice cG RN dG) 29) := QG_11.out.win hw (by have := SZ1.out; have := LA.out; have := SZ2.out; have := SZ3.out; have := SZ4.out; have := SZ5.out; have := LQW.out; have := SZ6.out; have := SZ7.out; have := LP.out; have := SZ8.out; have := SZ9.out; have := LQG.out; have := SZ10.out; have := SZ11.out; omega)
    clear A_11
    clear W_11
    clear QW_11
    clear X_11
    clear P_11
    clear G_11
    clear QG_11
    clear hw
    have kn : ¬ (1 + ((W0.length + 3 * n0 : Nat) : Int) < 0) := by omega
    generalize (1 + ((W0.length + 3 * n0 : Nat) : Int)) = KK at *
    have pA0 := A_12.out.c0
    have pA1 := A_12.out.c1
    have pA2 := A_12.out.c2
    have pQW0 := QW_12.out.c0
    have pQW1 := QW_12.out.c1
    have pQW2 := QW_12.out.c2
    have pP0 := P_12.out.c0
    have pP1 := P_12.out.c1
    have pP2 := P_12.out.c2
    have pQG0 := QG_12.out.c0
    have pQG1 := QG_12.out.c1
    have pQG2 := QG_12.out.c2
    go_wp2_with fail
    refine (eqHeap_same G_12.out.hi W_12.out.hi LW.out LN.out).mono ?_
    rintro r w13 ⟨rfl, hb⟩
    clear pA0 pA1 pA2
    clear pQW0 pQW1 pQW2
    clear pP0 pP1 pP2
    clear pQG0 pQG1 pQG2
    have SZ13 : Hid (w12.heap.size ≤ w13.heap.size) := hb.size
    have HT13 : Hid (Below w.heap.size w w13) := bTrans HT12.out hb
    have A_13 : Hid (Box3 w13 w.heap.size (.slice ya W0.length yc) (.int .i64 t0) (.slice za n0 zc) 25) := A_12.out.keep hb
    have W_13 : Hid (HX w3.heap.size w4.heap.size w13 (.agg #[.slice aW RW.length bW, .int .i64 RT, .slice cW RN dW]) RW RT RN RE) := W_12.out.keep hb
    have QW_13 : Hid (Box3 w13 w4.heap.size (.slice aW RW.length bW) (.int .i64 RT) (.slice cW RN dW) 29) := QW_12.out.keep hb
    have P_13 : Hid (Box3 w13 w6.heap.size (.slice aX W0.length bX) (.int .i64 t0) (.slice cX n0 dX) 29) := P_12.out.keep hb
    have G_13 : Hid (HX w7.heap.size w8.heap.size w13 (.agg #[.slice aG RW.length bG, .int .i64 RT, .slice cG RN dG]) RW RT RN RE) := G_12.out.keep hb
    have QG_13 : Hid (Box3 w13 w8.heap.size (.slice aG RW.length bG) (.int .i64 RT) (.slice cG RN dG) 29) := QG_12.out.keep hb
    clear A_12
    clear W_12
    clear QW_12
    clear P_12
    clear G_12
    clear QG_12
    clear hb
    have pA0 := A_13.out.c0
    have pA1 := A_13.out.c1
    have pA2 := A_13.out.c2
    have pQW0 := QW_13.out.c0
    have pQW1 := QW_13.out.c1
    have pQW2 := QW_13.out.c2
    have pP0 := P_13.out.c0
    have pP1 := P_13.out.c1
    have pP2 := P_13.out.c2
    have pQG0 := QG_13.out.c0
    have pQG1 := QG_13.out.c1
    have pQG2 := QG_13.out.c2
    go_wp2_with fail
    refine (markHX_own G_13.out (by have := SZ1.out; have := LA.out; have := SZ2.out; have := SZ3.out; have := SZ4.out; have := SZ5.out; have := LQW.out; have := SZ6.out; have := SZ7.out; have := LP.out; have := SZ8.out; have := SZ9.out; have := LQG.out; have := SZ10.out; have := SZ11.out; have := SZ12.out; have := SZ13.out; omega) LW.out LN.out 1 (by decide) (by decide)).mono ?_
    rintro r w14 ⟨rfl, hG, hw⟩
    clear pA0 pA1 pA2
    clear pQW0 pQW1 pQW2
    clear pP0 pP1 pP2
    clear pQG0 pQG1 pQG2
    have SZ14 : Hid (w13.heap.size ≤ w14.heap.size) := hw.size
    have HT14 : Hid (Below w.heap.size w w14) := HT13.out.trans (hw.below (by have := SZ1.out; have := LA.out; have := SZ2.out; have := SZ3.out; have := SZ4.out; have := SZ5.out; have := LQW.out; have := SZ6.out; have := SZ7.out; have := LP.out; have := SZ8.out; have := SZ9.out; have := LQG.out; have := SZ10.out; have := SZ11.out; have := SZ12.out; have := SZ13.out; omega) HT13.out.size)
    have A_14 : Hid (Box3 w14 w.heap.size (.slice ya W0.length yc) (.int .i64 t0) (.slice za n0 zc) 25) := A_13.out.win hw (by have := SZ1.out; have := LA.out; have := SZ2.out; have := SZ3.out; have := SZ4.out; have := SZ5.out; have := LQW.out; have := SZ6.out; have := SZ7.out; have := LP.out; have := SZ8.out; have := SZ9.out; have := LQG.out; have := SZ10.out; have := SZ11.out; have := SZ12.out; have := SZ13.out; omega)
    have W_14 : Hid (HX w3.heap.size w4.heap.size w14 (.agg #[.slice aW RW.length bW, .int .i64 RT, .slice cW RN dW]) RW RT RN RE) := W_13.out.win hw (by have := SZ1.out; have := LA.out; have := SZ2.out; have := SZ3.out; have := SZ4.out; have := SZ5.out; have := LQW.out; have := SZ6.out; have := SZ7.out; have := LP.out; have := SZ8.out; have := SZ9.out; have := LQG.out; have := SZ10.out; have := SZ11.out; have := SZ12.out; have := SZ13.out; omega)
    have QW_14 : Hid (Box3 w14 w4.heap.size (.slice aW RW.length bW) (.int .i64 RT) (.slice cW RN dW) 29) := QW_13.out.win hw (by have := SZ1.out; have := LA.out; have := SZ2.out; have := SZ3.out; have := SZ4.out; have := SZ5.out; have := LQW.out; have := SZ6.out; have := SZ7.out; have := LP.out; have := SZ8.out; have := SZ9.out; have := LQG.out; have := SZ10.out; have := SZ11.out; have := SZ12.out; have := SZ13.out; omega)
    have P_14 : Hid (Box3 w14 w6.heap.size (.slice aX W0.length bX) (.int .i64 t0) (.slice cX n0 dX) 29) := P_13.out.win hw (by have := SZ1.out; have := LA.out; have := SZ2.out; have := SZ3.out; have := SZ4.out; have := SZ5.out; have := LQW.out; have := SZ6.out; have := SZ7.out; have := LP.out; have := SZ8.out; have := SZ9.out; have := LQG.out; have := SZ10.out; have := SZ11.out; have := SZ12.out; have := SZ13.out; omega)
    have QG_14 : Hid (Box3 w14 w8.heap.size (.slice aG RW.length bG) (.int .i64 RT) (.slice cG RN dG) 29) := QG_13.out.win hw (by have := SZ1.out; have := LA.out; have := SZ2.out; have := SZ3.out; have := SZ4.out; have := SZ5.out; have := LQW.out; have := SZ6.out; have := SZ7.out; have := LP.out; have := SZ8.out; have := SZ9.out; have := LQG.out; have := SZ10.out; have := SZ11.out; have := SZ12.out; have := SZ13.out; omega)
    clear A_13
    clear W_13
    clear QW_13
    clear P_13
    clear G_13
    clear QG_13
    have G_14 : Hid (HX w7.heap.size w8.heap.size w14 (.agg #[.slice aG RW.length bG, .int .i64 RT, .slice cG RN dG]) (upFrom 1 RW.length) RT RN (mkC (1 + RW.length))) := hG
    clear hG hw
    have qn : ¬ (1 + ((RW.length + 3 * RN : Nat) : Int) < 0) := by omega
    have qm : ((1 + ((RW.length + 3 * RN : Nat) : Int)) != (1 + ((RW.length + 3 * RN : Nat) : Int))) = false := by simp
    have pA0 := A_14.out.c0
    have pA1 := A_14.out.c1
    have pA2 := A_14.out.c2
    have pQW0 := QW_14.out.c0
    have pQW1 := QW_14.out.c1
    have pQW2 := QW_14.out.c2
    have pP0 := P_14.out.c0
    have pP1 := P_14.out.c1
    have pP2 := P_14.out.c2
    have pQG0 := QG_14.out.c0
    have pQG1 := QG_14.out.c1
    have pQG2 := QG_14.out.c2
    go_wp2_with fail
    refine (heldHX_own 1 G_14.out LW.out LN.out (by decide) (by decide)).mono ?_
    rintro r w15 ⟨rfl, hb⟩
    clear pA0 pA1 pA2
    clear pQW0 pQW1 pQW2
    clear pP0 pP1 pP2
    clear pQG0 pQG1 pQG2
    have SZ15 : Hid (w14.heap.size ≤ w15.heap.size) := hb.size
    have HT15 : Hid (Below w.heap.size w w15) := bTrans HT14.out hb
    have A_15 : Hid (Box3 w15 w.heap.size (.slice ya W0.length yc) (.int .i64 t0) (.slice za n0 zc) 25) := A_14.out.keep hb
    have W_15 : Hid (HX w3.heap.size w4.heap.size w15 (.agg #[.slice aW RW.length bW, .int .i64 RT, .slice cW RN dW]) RW RT RN RE) := W_14.out.keep hb
    have QW_15 : Hid (Box3 w15 w4.heap.size (.slice aW RW.length bW) (.int .i64 RT) (.slice cW RN dW) 29) := QW_14.out.keep hb
    have P_15 : Hid (Box3 w15 w6.heap.size (.slice aX W0.length bX) (.int .i64 t0) (.slice cX n0 dX) 29) := P_14.out.keep hb
    have QG_15 : Hid (Box3 w15 w8.heap.size (.slice aG RW.length bG) (.int .i64 RT) (.slice cG RN dG) 29) := QG_14.out.keep hb
    have G_15 : Hid (HX w7.heap.size w8.heap.size w15 (.agg #[.slice aG RW.length bG, .int .i64 RT, .slice cG RN dG]) (upFrom 1 RW.length) RT RN (mkC (1 + RW.length))) := G_14.out.keep hb
    clear A_14
    clear W_14
    clear QW_14
    clear P_14
    clear QG_14
    clear G_14
    clear hb
    have pA0 := A_15.out.c0
    have pA1 := A_15.out.c1
    have pA2 := A_15.out.c2
    have pQW0 := QW_15.out.c0
    have pQW1 := QW_15.out.c1
    have pQW2 := QW_15.out.c2
    have pP0 := P_15.out.c0
    have pP1 := P_15.out.c1
    have pP2 := P_15.out.c2
    have pQG0 := QG_15.out.c0
    have pQG1 := QG_15.out.c1
    have pQG2 := QG_15.out.c2
    go_wp2_with fail
    refine (toHeap_own (H.out.keep HT15.out) BW.out BN.out).mono ?_
    rintro r w16 ⟨vZ, rfl, hO, hb⟩
    obtain ⟨aZ, bZ, cZ, dZ, rfl⟩ := hO.form
    clear pA0 pA1 pA2
    clear pQW0 pQW1 pQW2
    clear pP0 pP1 pP2
    clear pQG0 pQG1 pQG2
    have SZ16 : Hid (w15.heap.size ≤ w16.heap.size) := hb.size
    have HT16 : Hid (Below w.heap.size w w16) := bTrans HT15.out hb
    have A_16 : Hid (Box3 w16 w.heap.size (.slice ya W0.length yc) (.int .i64 t0) (.slice za n0 zc) 25) := A_15.out.keep hb
    have W_16 : Hid (HX w3.heap.size w4.heap.size w16 (.agg #[.slice aW RW.length bW, .int .i64 RT, .slice cW RN dW]) RW RT RN RE) := W_15.out.keep hb
    have QW_16 : Hid (Box3 w16 w4.heap.size (.slice aW RW.length bW) (.int .i64 RT) (.slice cW RN dW) 29) := QW_15.out.keep hb
    have P_16 : Hid (Box3 w16 w6.heap.size (.slice aX W0.length bX) (.int .i64 t0) (.slice cX n0 dX) 29) := P_15.out.keep hb
    have QG_16 : Hid (Box3 w16 w8.heap.size (.slice aG RW.length bG) (.int .i64 RT) (.slice cG RN dG) 29) := QG_15.out.keep hb
    have G_16 : Hid (HX w7.heap.size w8.heap.size w16 (.agg #[.slice aG RW.length bG, .int .i64 RT, .slice cG RN dG]) (upFrom 1 RW.length) RT RN (mkC (1 + RW.length))) := G_15.out.keep hb
    clear A_15
    clear W_15
    clear QW_15
    clear P_15
    clear QG_15
    clear G_15
    have Z_16 : Hid (HP w15.heap.size w16.heap.size w16 (.agg #[.slice aZ W0.length bZ, .int .i64 t0, .slice cZ n0 dZ]) W0 t0 n0 E0) := hO
    clear hO hb
    have pA0 := A_16.out.c0
    have pA1 := A_16.out.c1
    have pA2 := A_16.out.c2
    have pQW0 := QW_16.out.c0
    have pQW1 := QW_16.out.c1
    have pQW2 := QW_16.out.c2
    have pP0 := P_16.out.c0
    have pP1 := P_16.out.c1
    have pP2 := P_16.out.c2
    have pQG0 := QG_16.out.c0
    have pQG1 := QG_16.out.c1
    have pQG2 := QG_16.out.c2
    go_wp2_with fail
    refine (IM.out _ _ Z_16.out.hi).mono ?_
    rintro r w17 ⟨vJ, rfl, hO, hb⟩
    obtain ⟨aJ, bJ, cJ, dJ, rfl⟩ := hO.form
    clear pA0 pA1 pA2
    clear pQW0 pQW1 pQW2
    clear pP0 pP1 pP2
    clear pQG0 pQG1 pQG2
    have SZ17 : Hid (w16.heap.size ≤ w17.heap.size) := hb.size
    have HT17 : Hid (Below w.heap.size w w17) := bTrans HT16.out hb
    have A_17 : Hid (Box3 w17 w.heap.size (.slice ya W0.length yc) (.int .i64 t0) (.slice za n0 zc) 25) := A_16.out.keep hb
    have W_17 : Hid (HX w3.heap.size w4.heap.size w17 (.agg #[.slice aW RW.length bW, .int .i64 RT, .slice cW RN dW]) RW RT RN RE) := W_16.out.keep hb
    have QW_17 : Hid (Box3 w17 w4.heap.size (.slice aW RW.length bW) (.int .i64 RT) (.slice cW RN dW) 29) := QW_16.out.keep hb
    have P_17 : Hid (Box3 w17 w6.heap.size (.slice aX W0.length bX) (.int .i64 t0) (.slice cX n0 dX) 29) := P_16.out.keep hb
    have QG_17 : Hid (Box3 w17 w8.heap.size (.slice aG RW.length bG) (.int .i64 RT) (.slice cG RN dG) 29) := QG_16.out.keep hb
    have G_17 : Hid (HX w7.heap.size w8.heap.size w17 (.agg #[.slice aG RW.length bG, .int .i64 RT, .slice cG RN dG]) (upFrom 1 RW.length) RT RN (mkC (1 + RW.length))) := G_16.out.keep hb
    have Z_17 : Hid (HP w15.heap.size w16.heap.size w17 (.agg #[.slice aZ W0.length bZ, .int .i64 t0, .slice cZ n0 dZ]) W0 t0 n0 E0) := Z_16.out.keep hb
    clear A_16
    clear W_16
    clear QW_16
    clear P_16
    clear QG_16
    clear G_16
    clear Z_16
    have J_17 : Hid (HX w16.heap.size w17.heap.size w17 (.agg #[.slice aJ RW.length bJ, .int .i64 RT, .slice cJ RN dJ]) RW RT RN RE) := hO
    clear hO hb
    have pA0 := A_17.out.c0
    have dA0 : ∀ ob : Obj, (w17.alloc ob).cell? ⟨w.heap.size, 0, none⟩ = some (.slice ya W0.length yc) := fun ob => (A_17.out.keep (bAlloc (Below.refl _ _) ob)).c0
    have pA1 := A_17.out.c1
    have dA1 : ∀ ob : Obj, (w17.alloc ob).cell? ⟨w.heap.size, 1, none⟩ = some (.int .i64 t0) := fun ob => (A_17.out.keep (bAlloc (Below.refl _ _) ob)).c1
    have pA2 := A_17.out.c2
    have dA2 : ∀ ob : Obj, (w17.alloc ob).cell? ⟨w.heap.size, 2, none⟩ = some (.slice za n0 zc) := fun ob => (A_17.out.keep (bAlloc (Below.refl _ _) ob)).c2
    have pQW0 := QW_17.out.c0
    have dQW0 : ∀ ob : Obj, (w17.alloc ob).cell? ⟨w4.heap.size, 0, none⟩ = some (.slice aW RW.length bW) := fun ob => (QW_17.out.keep (bAlloc (Below.refl _ _) ob)).c0
    have pQW1 := QW_17.out.c1
    have dQW1 : ∀ ob : Obj, (w17.alloc ob).cell? ⟨w4.heap.size, 1, none⟩ = some (.int .i64 RT) := fun ob => (QW_17.out.keep (bAlloc (Below.refl _ _) ob)).c1
    have pQW2 := QW_17.out.c2
    have dQW2 : ∀ ob : Obj, (w17.alloc ob).cell? ⟨w4.heap.size, 2, none⟩ = some (.slice cW RN dW) := fun ob => (QW_17.out.keep (bAlloc (Below.refl _ _) ob)).c2
    have pP0 := P_17.out.c0
    have dP0 : ∀ ob : Obj, (w17.alloc ob).cell? ⟨w6.heap.size, 0, none⟩ = some (.slice aX W0.length bX) := fun ob => (P_17.out.keep (bAlloc (Below.refl _ _) ob)).c0
    have pP1 := P_17.out.c1
    have dP1 : ∀ ob : Obj, (w17.alloc ob).cell? ⟨w6.heap.size, 1, none⟩ = some (.int .i64 t0) := fun ob => (P_17.out.keep (bAlloc (Below.refl _ _) ob)).c1
    have pP2 := P_17.out.c2
    have dP2 : ∀ ob : Obj, (w17.alloc ob).cell? ⟨w6.heap.size, 2, none⟩ = some (.slice cX n0 dX) := fun ob => (P_17.out.keep (bAlloc (Below.refl _ _) ob)).c2
    have pQG0 := QG_17.out.c0
    have dQG0 : ∀ ob : Obj, (w17.alloc ob).cell? ⟨w8.heap.size, 0, none⟩ = some (.slice aG RW.length bG) := fun ob => (QG_17.out.keep (bAlloc (Below.refl _ _) ob)).c0
    have pQG1 := QG_17.out.c1
    have dQG1 : ∀ ob : Obj, (w17.alloc ob).cell? ⟨w8.heap.size, 1, none⟩ = some (.int .i64 RT) := fun ob => (QG_17.out.keep (bAlloc (Below.refl _ _) ob)).c1
    have pQG2 := QG_17.out.c2
    have dQG2 : ∀ ob : Obj, (w17.alloc ob).cell? ⟨w8.heap.size, 2, none⟩ = some (.slice cG RN dG) := fun ob => (QG_17.out.keep (bAlloc (Below.refl _ _) ob)).c2
    go_wp2_with fail
    clear pA0 pA1 pA2
    clear dA0 dA1 dA2
    clear pQW0 pQW1 pQW2
    clear dQW0 dQW1 dQW2
    clear pP0 pP1 pP2
    clear dP0 dP1 dP2
    clear pQG0 pQG1 pQG2
    clear dQG0 dQG1 dQG2
    have hbx : Box3 (w17.alloc (.cells #[.slice aJ RW.length bJ, .int .i64 RT, .slice cJ RN dJ] 29)) w17.heap.size (.slice aJ RW.length bJ) (.int .i64 RT) (.slice cJ RN dJ) 29 := heap_alloc_new _ _
    have hb : Below w17.heap.size w17 (w17.alloc (.cells #[.slice aJ RW.length bJ, .int .i64 RT, .slice cJ RN dJ] 29)) := bAlloc (Below.refl _ _) _
    generalize w17.alloc (.cells #[.slice aJ RW.length bJ, .int .i64 RT, .slice cJ RN dJ] 29) = w18 at *
    have SZ18 : Hid (w17.heap.size ≤ w18.heap.size) := hb.size
    have HT18 : Hid (Below w.heap.size w w18) := bTrans HT17.out hb
    have A_18 : Hid (Box3 w18 w.heap.size (.slice ya W0.length yc) (.int .i64 t0) (.slice za n0 zc) 25) := A_17.out.keep hb
    have W_18 : Hid (HX w3.heap.size w4.heap.size w18 (.agg #[.slice aW RW.length bW, .int .i64 RT, .slice cW RN dW]) RW RT RN RE) := W_17.out.keep hb
    have QW_18 : Hid (Box3 w18 w4.heap.size (.slice aW RW.length bW) (.int .i64 RT) (.slice cW RN dW) 29) := QW_17.out.keep hb
    have P_18 : Hid (Box3 w18 w6.heap.size (.slice aX W0.length bX) (.int .i64 t0) (.slice cX n0 dX) 29) := P_17.out.keep hb
    have QG_18 : Hid (Box3 w18 w8.heap.size (.slice aG RW.length bG) (.int .i64 RT) (.slice cG RN dG) 29) := QG_17.out.keep hb
    have G_18 : Hid (HX w7.heap.size w8.heap.size w18 (.agg #[.slice aG RW.length bG, .int .i64 RT, .slice cG RN dG]) (upFrom 1 RW.length) RT RN (mkC (1 + RW.length))) := G_17.out.keep hb
    have Z_18 : Hid (HP w15.heap.size w16.heap.size w18 (.agg #[.slice aZ W0.length bZ, .int .i64 t0, .slice cZ n0 dZ]) W0 t0 n0 E0) := Z_17.out.keep hb
    have J_18 : Hid (HX w16.heap.size w17.heap.size w18 (.agg #[.slice aJ RW.length bJ, .int .i64 RT, .slice cJ RN dJ]) RW RT RN RE) := J_17.out.keep hb
    clear A_17
    clear W_17
    clear QW_17
    clear P_17
    clear QG_17
    clear G_17
    clear Z_17
    clear J_17
    have QJ_18 : Hid (Box3 w18 w17.heap.size (.slice aJ RW.length bJ) (.int .i64 RT) (.slice cJ RN dJ) 29) := hbx
    have LQJ : Hid (w17.heap.size < w18.heap.size) := hbx.lt
    clear hb hbx
    refine (eqHeap_same J_18.out.hi W_18.out.hi LW.out LN.out).mono ?_
    rintro r w19 ⟨rfl, hb⟩
    have SZ19 : Hid (w18.heap.size ≤ w19.heap.size) := hb.size
    have HT19 : Hid (Below w.heap.size w w19) := bTrans HT18.out hb
    have A_19 : Hid (Box3 w19 w.heap.size (.slice ya W0.length yc) (.int .i64 t0) (.slice za n0 zc) 25) := A_18.out.keep hb
    have W_19 : Hid (HX w3.heap.size w4.heap.size w19 (.agg #[.slice aW RW.length bW, .int .i64 RT, .slice cW RN dW]) RW RT RN RE) := W_18.out.keep hb
    have QW_19 : Hid (Box3 w19 w4.heap.size (.slice aW RW.length bW) (.int .i64 RT) (.slice cW RN dW) 29) := QW_18.out.keep hb
    have P_19 : Hid (Box3 w19 w6.heap.size (.slice aX W0.length bX) (.int .i64 t0) (.slice cX n0 dX) 29) := P_18.out.keep hb
    have QG_19 : Hid (Box3 w19 w8.heap.size (.slice aG RW.length bG) (.int .i64 RT) (.slice cG RN dG) 29) := QG_18.out.keep hb
    have G_19 : Hid (HX w7.heap.size w8.heap.size w19 (.agg #[.slice aG RW.length bG, .int .i64 RT, .slice cG RN dG]) (upFrom 1 RW.length) RT RN (mkC (1 + RW.length))) := G_18.out.keep hb
    have Z_19 : Hid (HP w15.heap.size w16.heap.size w19 (.agg #[.slice aZ W0.length bZ, .int .i64 t0, .slice cZ n0 dZ]) W0 t0 n0 E0) := Z_18.out.keep hb
    have J_19 : Hid (HX w16.heap.size w17.heap.size w19 (.agg #[.slice aJ RW.length bJ, .int .i64 RT, .slice cJ RN dJ]) RW RT RN RE) := J_18.out.keep hb
    have QJ_19 : Hid (Box3 w19 w17.heap.size (.slice aJ RW.length bJ) (.int .i64 RT) (.slice cJ RN dJ) 29) := QJ_18.out.keep hb
    clear A_18
    clear W_18
    clear QW_18
    clear P_18
    clear QG_18
    clear G_18
    clear Z_18
    clear J_18
    clear QJ_18
    clear hb
    have pA0 := A_19.out.c0
    have pA1 := A_19.out.c1
    have pA2 := A_19.out.c2
    have pQW0 := QW_19.out.c0
    have pQW1 := QW_19.out.c1
    have pQW2 := QW_19.out.c2
    have pP0 := P_19.out.c0
    have pP1 := P_19.out.c1
    have pP2 := P_19.out.c2
    have pQG0 := QG_19.out.c0
    have pQG1 := QG_19.out.c1
    have pQG2 := QG_19.out.c2
    have pQJ0 := QJ_19.out.c0
    have pQJ1 := QJ_19.out.c1
    have pQJ2 := QJ_19.out.c2
    go_wp2_with fail
    refine (heldHX_own 1 G_19.out LW.out LN.out (by decide) (by decide)).mono ?_
    rintro r w20 ⟨rfl, hb⟩
    clear pA0 pA1 pA2
    clear pQW0 pQW1 pQW2
    clear pP0 pP1 pP2
    clear pQG0 pQG1 pQG2
    clear pQJ0 pQJ1 pQJ2
    have SZ20 : Hid (w19.heap.size ≤ w20.heap.size) := hb.size
    have HT20 : Hid (Below w.heap.size w w20) := bTrans HT19.out hb
    have A_20 : Hid (Box3 w20 w.heap.size (.slice ya W0.length yc) (.int .i64 t0) (.slice za n0 zc) 25) := A_19.out.keep hb
    have W_20 : Hid (HX w3.heap.size w4.heap.size w20 (.agg #[.slice aW RW.length bW, .int .i64 RT, .slice cW RN dW]) RW RT RN RE) := W_19.out.keep hb
    have QW_20 : Hid (Box3 w20 w4.heap.size (.slice aW RW.length bW) (.int .i64 RT) (.slice cW RN dW) 29) := QW_19.out.keep hb
    have P_20 : Hid (Box3 w20 w6.heap.size (.slice aX W0.length bX) (.int .i64 t0) (.slice cX n0 dX) 29) := P_19.out.keep hb
    have QG_20 : Hid (Box3 w20 w8.heap.size (.slice aG RW.length bG) (.int .i64 RT) (.slice cG RN dG) 29) := QG_19.out.keep hb
    have G_20 : Hid (HX w7.heap.size w8.heap.size w20 (.agg #[.slice aG RW.length bG, .int .i64 RT, .slice cG RN dG]) (upFrom 1 RW.length) RT RN (mkC (1 + RW.length))) := G_19.out.keep hb
    have Z_20 : Hid (HP w15.heap.size w16.heap.size w20 (.agg #[.slice aZ W0.length bZ, .int .i64 t0, .slice cZ n0 dZ]) W0 t0 n0 E0) := Z_19.out.keep hb
    have J_20 : Hid (HX w16.heap.size w17.heap.size w20 (.agg #[.slice aJ RW.length bJ, .int .i64 RT, .slice cJ RN dJ]) RW RT RN RE) := J_19.out.keep hb
    have QJ_20 : Hid (Box3 w20 w17.heap.size (.slice aJ RW.length bJ) (.int .i64 RT) (.slice cJ RN dJ) 29) := QJ_19.out.keep hb
    clear A_19
    clear W_19
    clear QW_19
    clear P_19
    clear QG_19
    clear G_19
    clear Z_19
    clear J_19
    clear QJ_19
    clear hb
    have pA0 := A_20.out.c0
    have pA1 := A_20.out.c1
    have pA2 := A_20.out.c2
    have pQW0 := QW_20.out.c0
    have pQW1 := QW_20.out.c1
    have pQW2 := QW_20.out.c2
    have pP0 := P_20.out.c0
    have pP1 := P_20.out.c1
    have pP2 := P_20.out.c2
    have pQG0 := QG_20.out.c0
    have pQG1 := QG_20.out.c1
    have pQG2 := QG_20.out.c2
    have pQJ0 := QJ_20.out.c0
    have pQJ1 := QJ_20.out.c1
    have pQJ2 := QJ_20.out.c2
    go_wp2
    go_ret
    exact ⟨rfl, HT20.out⟩

set_option maxRecDepth 100000 in
theorem lifted (os : Os) (started : os.Started) (H : Type) (enc : TypeId × Value → H) :
    ReturnsInHanded {} Try.checked os 3 .any (Rows.fnExactHeapPackSpec.pre6 enc Try.prog Try.f3 Rows.fnExactHeapPackRow.domain false) (Rows.fnExactHeapPackSpec.post enc Try.prog Try.f3 false true false false) := by
  refine returnsInHanded_of_change (C := Try.checked) own started (by kernel_rfl) Try.func3
    (ChangeSpec.witness6 (enc := enc) (C := Try.checked) false ⟨#[], #[.agg #[.slice none 0 0, .int .i64 0, .slice none 0 0]], []⟩ 8 (by kernel_rfl) (by kernel_rfl) (by kernel_rfl) (by kernel_rfl)) ?_
  intro W base args ds gs before hval0 hW hcnd _
  have hval : ∀ (j : Nat) t v, Try.f3.params[j]? = some t → args[j]? = some v → Value.okWide Try.prog W .any base t v := hval0
  have hW' := hW
  obtain ⟨p, q, hA0, hV, rfl, hfz, hnd⟩ := hW
  have hA : DataW.TrodAll enc Try.prog W 0 (fun _ => true) true Try.f3.params.toList args.toList ds p := hA0
  rw [Try.params3] at hA hval
  obtain ⟨v0, vs0, e0, es0, p0, q0, hargs, rfl, rfl, h0, r0⟩ := trodAll_cons hA
  obtain ⟨rfl, rfl, rfl⟩ := trodAll_nil r0
  obtain rfl : args = #[v0] := by cases args; simp_all
  obtain ⟨rfl, rfl⟩ := trodVars_none hV
  have k0 := h0
  have lt0 : ∀ x ∈ p0, x.block < W.heap.size := by obtain ⟨m, hm⟩ := k0; exact DataW.trod_lt m _ _ _ hm
  obtain ⟨x0, y0, z0, f0, g0, i0, m0, rfl, rfl, rfl, hf0, hg0, hi0⟩ := Joins.open_agg3 Try.underlying25 (by kernel_rfl) (by kernel_rfl) (hval 0 25 v0 rfl rfl) h0
  obtain ⟨t0, et0, _, wt0⟩ := DataW.trod_int Try.underlying3 hg0
  simp at et0
  subst et0
  obtain ⟨W0, iw0, b0⟩ := cell_ints hf0
  obtain ⟨n0, E0, ic0, c0, d0⟩ := cell_cels hi0
  have w0 : HI W (.agg #[x0, .int .i64 t0, z0]) W0 t0 n0 E0 := by obtain ⟨a, c, rfl, g, i⟩ := iw0; obtain ⟨a2, c2, rfl, g2, i2⟩ := ic0; exact ⟨a, c, a2, c2, rfl, i, g, i2, g2⟩
  clear hA0 hval0
  refine (walk _ W0 t0 n0 E0 W w0 b0 c0 d0 (in64_wf wt0)).mono fun e W' ⟨he, bel⟩ => ?_
  subst he
  exact ⟨_, rfl, _, _, _, [], _, [], hW', trodAll_mk1 (shut_bool Try.underlying4 _), (trodAll_cons_mk (Below.trod laidOut (by kernel_rfl) (of_decide_eq_true (by kernel_rfl)) k0 bel lt0) trodAll_mk0), rfl, bel.frame _, fun h => by cases h⟩

theorem over : Rows.fnExactHeapPackRow.holds Try.pinned (OpenSpec.ofChange Rows.fnExactHeapPackSpec) :=
  OpenClaim.holds_of_wide 3 Try.f3 rfl rfl rfl rfl rfl rfl rfl ⟨rfl, rfl, rfl, rfl, rfl⟩ rfl rfl rfl rfl rfl (by kernel_rfl) Try.func3 (by kernel_rfl)
    (of_decide_eq_true (by kernel_rfl)) (by unfold Func.isWrapper; first | (rw [if_pos (by decide +kernel)]; kernel_rfl) | (rw [if_neg (by decide +kernel)]; exact ⟨rfl, rfl⟩))
    (fun os started H enc _ => lifted os started H enc)

/-- The statement. -/
theorem proved : Rows.FnExactHeapPackSaid := over
end Go.Proofs.Ytlnaodjhkchgjaa.fnExactHeapPack
namespace Go.Proofs.Ytlnaodjhkchgjaa
theorem fnExactHeapPack_holds : Rows.FnExactHeapPackSaid := fnExactHeapPack.proved
#print axioms fnExactHeapPack_holds
end Go.Proofs.Ytlnaodjhkchgjaa
