/-
  Proved: whatever number it is given, the law FnExactHeapNew returns true (the program's HeapNew answers as the specification's, every field, writes into no argument, and its answer owns its memory), and what it is given reads as before. No condition.
-/
import Derived.Test.YtfmfppndcbmohaaRows
import Derived.WalkKit
import Derived.ProofKit
import Derived.OpenShut
import Derived.ShutString
import Derived.ChangeOld
import Derived.Below
import Derived.Deep.Cut
import Derived.Lib.SmallJoins
import Derived.Test.YtfmfppndcbmohaaHeapN
namespace Go.Proofs.Ytfmfppndcbmohaa.fnExactHeapNew
open Go.ChangeShapes Go.WideShapes Go.ChangeAt Go.RowKit
open Go.ChangeMaps (open_string shut_string)
set_option linter.unusedVariables false
set_option linter.unusedSimpArgs false

theorem own : ownKnob Try.prog.godebug = none := by kernel_rfl
theorem laidOut : laidOutB Try.prog = true := by kernel_rfl

set_option maxRecDepth 20000 in
set_option maxHeartbeats 8000000 in
/-- The walk: the law returns true, and writes nothing that was there. -/
theorem walk (a0 : Int) (w : World) (w0 : (Lit.int .i64 a0).wf = true) :
    Calls Try.prog 4 #[.int .i64 a0] w fun e w' => e = .returned (.bool true) ∧ Below w.heap.size w w' := by
  obtain ⟨V, hV⟩ : ∃ V, V = decide (0 ≤ a0 ∧ a0 ≤ 6000) := ⟨_, rfl⟩
  obtain ⟨RW, hRW⟩ : ∃ RW, RW = newW a0 := ⟨_, rfl⟩
  have LW : Hid (RW.length ≤ 1048576) := by rw [hRW]; exact newW_len a0
  obtain ⟨RT, hRT⟩ : ∃ RT : Int, RT = 0 := ⟨_, rfl⟩
  obtain ⟨RN, hRN⟩ : ∃ RN : Nat, RN = 0 := ⟨_, rfl⟩
  have LN : Hid (RN ≤ 1048576) := by show _ ≤ _; omega
  obtain ⟨RE, hRE⟩ : ∃ RE : Nat → Cel, RE = fun _ => cel0 := ⟨_, rfl⟩
  have SP : Hid (∀ (W : World), Calls Try.prog 14 #[.int .i64 a0] W fun r w' => ∃ v, r = .returned (.tuple #[v, .bool V]) ∧ HP W.heap.size w'.heap.size w' v RW RT RN RE ∧ Below W.heap.size W w') := fun W => by rw [hV, hRW, hRT, hRN, hRE]; exact heapNew_spec a0 W
  have IM : Hid (∀ (W : World), Calls Try.prog 15 #[.int .i64 a0] W fun r w' => ∃ v, r = .returned (.tuple #[v, .bool V]) ∧ HP W.heap.size w'.heap.size w' v RW RT RN RE ∧ Below W.heap.size W w') := fun W => by rw [hV, hRW, hRT, hRN, hRE]; exact heapNew_impl a0 W
  clear hV hRW hRT hRN hRE
  have hneV : (V != V) = false := by simp
  go_enter Try.func4, Try.ntmps4
  go_wp2_with fail
  refine (SP.out _ ).mono ?_
  rintro r w1 ⟨vW, rfl, hO, hb⟩
  obtain ⟨aW, bW, cW, dW, rfl⟩ := hO.form
  have SZ1 : Hid (w.heap.size ≤ w1.heap.size) := hb.size
  have HT1 : Hid (Below w.heap.size w w1) := hb
  have W_1 : Hid (HP w.heap.size w1.heap.size w1 (.agg #[.slice aW RW.length bW, .int .i64 RT, .slice cW RN dW]) RW RT RN RE) := hO
  clear hO hb
  go_wp2_with fail
  have hbx : Box3 (w1.alloc (.cells #[.slice aW RW.length bW, .int .i64 RT, .slice cW RN dW] 30)) w1.heap.size (.slice aW RW.length bW) (.int .i64 RT) (.slice cW RN dW) 30 := heap_alloc_new _ _
  have hb : Below w1.heap.size w1 (w1.alloc (.cells #[.slice aW RW.length bW, .int .i64 RT, .slice cW RN dW] 30)) := bAlloc (Below.refl _ _) _
  generalize w1.alloc (.cells #[.slice aW RW.length bW, .int .i64 RT, .slice cW RN dW] 30) = w2 at *
  have SZ2 : Hid (w1.heap.size ≤ w2.heap.size) := hb.size
  have HT2 : Hid (Below w.heap.size w w2) := bTrans HT1.out hb
  have W_2 : Hid (HP w.heap.size w1.heap.size w2 (.agg #[.slice aW RW.length bW, .int .i64 RT, .slice cW RN dW]) RW RT RN RE) := W_1.out.keep hb
  clear W_1
  have QW_2 : Hid (Box3 w2 w1.heap.size (.slice aW RW.length bW) (.int .i64 RT) (.slice cW RN dW) 30) := hbx
  have LQW : Hid (w1.heap.size < w2.heap.size) := hbx.lt
  clear hb hbx
  refine (IM.out _ ).mono ?_
  rintro r w3 ⟨vG, rfl, hO, hb⟩
  obtain ⟨aG, bG, cG, dG, rfl⟩ := hO.form
  have SZ3 : Hid (w2.heap.size ≤ w3.heap.size) := hb.size
  have HT3 : Hid (Below w.heap.size w w3) := bTrans HT2.out hb
  have W_3 : Hid (HP w.heap.size w1.heap.size w3 (.agg #[.slice aW RW.length bW, .int .i64 RT, .slice cW RN dW]) RW RT RN RE) := W_2.out.keep hb
  have QW_3 : Hid (Box3 w3 w1.heap.size (.slice aW RW.length bW) (.int .i64 RT) (.slice cW RN dW) 30) := QW_2.out.keep hb
  clear W_2
  clear QW_2
  have G_3 : Hid (HP w2.heap.size w3.heap.size w3 (.agg #[.slice aG RW.length bG, .int .i64 RT, .slice cG RN dG]) RW RT RN RE) := hO
  clear hO hb
  have pQW0 := QW_3.out.c0
  have dQW0 : ∀ ob : Obj, (w3.alloc ob).cell? ⟨w1.heap.size, 0, none⟩ = some (.slice aW RW.length bW) := fun ob => (QW_3.out.keep (bAlloc (Below.refl _ _) ob)).c0
  have pQW1 := QW_3.out.c1
  have dQW1 : ∀ ob : Obj, (w3.alloc ob).cell? ⟨w1.heap.size, 1, none⟩ = some (.int .i64 RT) := fun ob => (QW_3.out.keep (bAlloc (Below.refl _ _) ob)).c1
  have pQW2 := QW_3.out.c2
  have dQW2 : ∀ ob : Obj, (w3.alloc ob).cell? ⟨w1.heap.size, 2, none⟩ = some (.slice cW RN dW) := fun ob => (QW_3.out.keep (bAlloc (Below.refl _ _) ob)).c2
  go_wp2_with fail
  clear pQW0 pQW1 pQW2
  clear dQW0 dQW1 dQW2
  have hbx : Box3 (w3.alloc (.cells #[.slice aG RW.length bG, .int .i64 RT, .slice cG RN dG] 30)) w3.heap.size (.slice aG RW.length bG) (.int .i64 RT) (.slice cG RN dG) 30 := heap_alloc_new _ _
  have hb : Below w3.heap.size w3 (w3.alloc (.cells #[.slice aG RW.length bG, .int .i64 RT, .slice cG RN dG] 30)) := bAlloc (Below.refl _ _) _
  generalize w3.alloc (.cells #[.slice aG RW.length bG, .int .i64 RT, .slice cG RN dG] 30) = w4 at *
  have SZ4 : Hid (w3.heap.size ≤ w4.heap.size) := hb.size
  have HT4 : Hid (Below w.heap.size w w4) := bTrans HT3.out hb
  have W_4 : Hid (HP w.heap.size w1.heap.size w4 (.agg #[.slice aW RW.length bW, .int .i64 RT, .slice cW RN dW]) RW RT RN RE) := W_3.out.keep hb
  have QW_4 : Hid (Box3 w4 w1.heap.size (.slice aW RW.length bW) (.int .i64 RT) (.slice cW RN dW) 30) := QW_3.out.keep hb
  have G_4 : Hid (HP w2.heap.size w3.heap.size w4 (.agg #[.slice aG RW.length bG, .int .i64 RT, .slice cG RN dG]) RW RT RN RE) := G_3.out.keep hb
  clear W_3
  clear QW_3
  clear G_3
  have QG_4 : Hid (Box3 w4 w3.heap.size (.slice aG RW.length bG) (.int .i64 RT) (.slice cG RN dG) 30) := hbx
  have LQG : Hid (w3.heap.size < w4.heap.size) := hbx.lt
  clear hb hbx
  refine (eqHeap_same G_4.out.hi W_4.out.hi LW.out LN.out).mono ?_
  rintro r w5 ⟨rfl, hb⟩
  have SZ5 : Hid (w4.heap.size ≤ w5.heap.size) := hb.size
  have HT5 : Hid (Below w.heap.size w w5) := bTrans HT4.out hb
  have W_5 : Hid (HP w.heap.size w1.heap.size w5 (.agg #[.slice aW RW.length bW, .int .i64 RT, .slice cW RN dW]) RW RT RN RE) := W_4.out.keep hb
  have QW_5 : Hid (Box3 w5 w1.heap.size (.slice aW RW.length bW) (.int .i64 RT) (.slice cW RN dW) 30) := QW_4.out.keep hb
  have G_5 : Hid (HP w2.heap.size w3.heap.size w5 (.agg #[.slice aG RW.length bG, .int .i64 RT, .slice cG RN dG]) RW RT RN RE) := G_4.out.keep hb
  have QG_5 : Hid (Box3 w5 w3.heap.size (.slice aG RW.length bG) (.int .i64 RT) (.slice cG RN dG) 30) := QG_4.out.keep hb
  clear W_4
  clear QW_4
  clear G_4
  clear QG_4
  clear hb
  have pQW0 := QW_5.out.c0
  have pQW1 := QW_5.out.c1
  have pQW2 := QW_5.out.c2
  have pQG0 := QG_5.out.c0
  have pQG1 := QG_5.out.c1
  have pQG2 := QG_5.out.c2
  go_wp2_with fail
  refine (markHeap_own G_5.out (by have := SZ1.out; have := SZ2.out; have := LQW.out; have := SZ3.out; have := SZ4.out; have := LQG.out; have := SZ5.out; omega) LW.out LN.out 1 (by decide) (by decide)).mono ?_
  rintro r w6 ⟨rfl, hG, hw⟩
  clear pQW0 pQW1 pQW2
  clear pQG0 pQG1 pQG2
  have SZ6 : Hid (w5.heap.size ≤ w6.heap.size) := hw.size
  have HT6 : Hid (Below w.heap.size w w6) := HT5.out.trans (hw.below (by have := SZ1.out; have := SZ2.out; have := LQW.out; have := SZ3.out; have := SZ4.out; have := LQG.out; have := SZ5.out; omega) HT5.out.size)
  have W_6 : Hid (HP w.heap.size w1.heap.size w6 (.agg #[.slice aW RW.length bW, .int .i64 RT, .slice cW RN dW]) RW RT RN RE) := W_5.out.win hw (by have := SZ1.out; have := SZ2.out; have := LQW.out; have := SZ3.out; have := SZ4.out; have := LQG.out; have := SZ5.out; omega)
  have QW_6 : Hid (Box3 w6 w1.heap.size (.slice aW RW.length bW) (.int .i64 RT) (.slice cW RN dW) 30) := QW_5.out.win hw (by have := SZ1.out; have := SZ2.out; have := LQW.out; have := SZ3.out; have := SZ4.out; have := LQG.out; have := SZ5.out; omega)
  have QG_6 : Hid (Box3 w6 w3.heap.size (.slice aG RW.length bG) (.int .i64 RT) (.slice cG RN dG) 30) := QG_5.out.win hw (by have := SZ1.out; have := SZ2.out; have := LQW.out; have := SZ3.out; have := SZ4.out; have := LQG.out; have := SZ5.out; omega)
  clear W_5
  clear QW_5
  clear G_5
  clear QG_5
  have G_6 : Hid (HP w2.heap.size w3.heap.size w6 (.agg #[.slice aG RW.length bG, .int .i64 RT, .slice cG RN dG]) (upFrom 1 RW.length) RT RN (mkC (1 + RW.length))) := hG
  clear hG hw
  have qn : ¬ (1 + ((RW.length + 3 * RN : Nat) : Int) < 0) := by omega
  have qm : ((1 + ((RW.length + 3 * RN : Nat) : Int)) != (1 + ((RW.length + 3 * RN : Nat) : Int))) = false := by simp
  have pQW0 := QW_6.out.c0
  have pQW1 := QW_6.out.c1
  have pQW2 := QW_6.out.c2
  have pQG0 := QG_6.out.c0
  have pQG1 := QG_6.out.c1
  have pQG2 := QG_6.out.c2
  go_wp2_with fail
  refine (heldHeap_own 1 G_6.out LW.out LN.out (by decide) (by decide)).mono ?_
  rintro r w7 ⟨rfl, hb⟩
  clear pQW0 pQW1 pQW2
  clear pQG0 pQG1 pQG2
  have SZ7 : Hid (w6.heap.size ≤ w7.heap.size) := hb.size
  have HT7 : Hid (Below w.heap.size w w7) := bTrans HT6.out hb
  have W_7 : Hid (HP w.heap.size w1.heap.size w7 (.agg #[.slice aW RW.length bW, .int .i64 RT, .slice cW RN dW]) RW RT RN RE) := W_6.out.keep hb
  have QW_7 : Hid (Box3 w7 w1.heap.size (.slice aW RW.length bW) (.int .i64 RT) (.slice cW RN dW) 30) := QW_6.out.keep hb
  have QG_7 : Hid (Box3 w7 w3.heap.size (.slice aG RW.length bG) (.int .i64 RT) (.slice cG RN dG) 30) := QG_6.out.keep hb
  have G_7 : Hid (HP w2.heap.size w3.heap.size w7 (.agg #[.slice aG RW.length bG, .int .i64 RT, .slice cG RN dG]) (upFrom 1 RW.length) RT RN (mkC (1 + RW.length))) := G_6.out.keep hb
  clear W_6
  clear QW_6
  clear QG_6
  clear G_6
  clear hb
  have pQW0 := QW_7.out.c0
  have pQW1 := QW_7.out.c1
  have pQW2 := QW_7.out.c2
  have pQG0 := QG_7.out.c0
  have pQG1 := QG_7.out.c1
  have pQG2 := QG_7.out.c2
  go_wp2_with fail
  refine (IM.out _ ).mono ?_
  rintro r w8 ⟨vJ, rfl, hO, hb⟩
  obtain ⟨aJ, bJ, cJ, dJ, rfl⟩ := hO.form
  clear pQW0 pQW1 pQW2
  clear pQG0 pQG1 pQG2
  have SZ8 : Hid (w7.heap.size ≤ w8.heap.size) := hb.size
  have HT8 : Hid (Below w.heap.size w w8) := bTrans HT7.out hb
  have W_8 : Hid (HP w.heap.size w1.heap.size w8 (.agg #[.slice aW RW.length bW, .int .i64 RT, .slice cW RN dW]) RW RT RN RE) := W_7.out.keep hb
  have QW_8 : Hid (Box3 w8 w1.heap.size (.slice aW RW.length bW) (.int .i64 RT) (.slice cW RN dW) 30) := QW_7.out.keep hb
  have QG_8 : Hid (Box3 w8 w3.heap.size (.slice aG RW.length bG) (.int .i64 RT) (.slice cG RN dG) 30) := QG_7.out.keep hb
  have G_8 : Hid (HP w2.heap.size w3.heap.size w8 (.agg #[.slice aG RW.length bG, .int .i64 RT, .slice cG RN dG]) (upFrom 1 RW.length) RT RN (mkC (1 + RW.length))) := G_7.out.keep hb
  clear W_7
  clear QW_7
  clear QG_7
  clear G_7
  have J_8 : Hid (HP w7.heap.size w8.heap.size w8 (.agg #[.slice aJ RW.length bJ, .int .i64 RT, .slice cJ RN dJ]) RW RT RN RE) := hO
  clear hO hb
  have pQW0 := QW_8.out.c0
  have dQW0 : ∀ ob : Obj, (w8.alloc ob).cell? ⟨w1.heap.size, 0, none⟩ = some (.slice aW RW.length bW) := fun ob => (QW_8.out.keep (bAlloc (Below.refl _ _) ob)).c0
  have pQW1 := QW_8.out.c1
  have dQW1 : ∀ ob : Obj, (w8.alloc ob).cell? ⟨w1.heap.size, 1, none⟩ = some (.int .i64 RT) := fun ob => (QW_8.out.keep (bAlloc (Below.refl _ _) ob)).c1
  have pQW2 := QW_8.out.c2
  have dQW2 : ∀ ob : Obj, (w8.alloc ob).cell? ⟨w1.heap.size, 2, none⟩ = some (.slice cW RN dW) := fun ob => (QW_8.out.keep (bAlloc (Below.refl _ _) ob)).c2
  have pQG0 := QG_8.out.c0
  have dQG0 : ∀ ob : Obj, (w8.alloc ob).cell? ⟨w3.heap.size, 0, none⟩ = some (.slice aG RW.length bG) := fun ob => (QG_8.out.keep (bAlloc (Below.refl _ _) ob)).c0
  have pQG1 := QG_8.out.c1
  have dQG1 : ∀ ob : Obj, (w8.alloc ob).cell? ⟨w3.heap.size, 1, none⟩ = some (.int .i64 RT) := fun ob => (QG_8.out.keep (bAlloc (Below.refl _ _) ob)).c1
  have pQG2 := QG_8.out.c2
  have dQG2 : ∀ ob : Obj, (w8.alloc ob).cell? ⟨w3.heap.size, 2, none⟩ = some (.slice cG RN dG) := fun ob => (QG_8.out.keep (bAlloc (Below.refl _ _) ob)).c2
  go_wp2_with fail
  clear pQW0 pQW1 pQW2
  clear dQW0 dQW1 dQW2
  clear pQG0 pQG1 pQG2
  clear dQG0 dQG1 dQG2
  have hbx : Box3 (w8.alloc (.cells #[.slice aJ RW.length bJ, .int .i64 RT, .slice cJ RN dJ] 30)) w8.heap.size (.slice aJ RW.length bJ) (.int .i64 RT) (.slice cJ RN dJ) 30 := heap_alloc_new _ _
  have hb : Below w8.heap.size w8 (w8.alloc (.cells #[.slice aJ RW.length bJ, .int .i64 RT, .slice cJ RN dJ] 30)) := bAlloc (Below.refl _ _) _
  generalize w8.alloc (.cells #[.slice aJ RW.length bJ, .int .i64 RT, .slice cJ RN dJ] 30) = w9 at *
  have SZ9 : Hid (w8.heap.size ≤ w9.heap.size) := hb.size
  have HT9 : Hid (Below w.heap.size w w9) := bTrans HT8.out hb
  have W_9 : Hid (HP w.heap.size w1.heap.size w9 (.agg #[.slice aW RW.length bW, .int .i64 RT, .slice cW RN dW]) RW RT RN RE) := W_8.out.keep hb
  have QW_9 : Hid (Box3 w9 w1.heap.size (.slice aW RW.length bW) (.int .i64 RT) (.slice cW RN dW) 30) := QW_8.out.keep hb
  have QG_9 : Hid (Box3 w9 w3.heap.size (.slice aG RW.length bG) (.int .i64 RT) (.slice cG RN dG) 30) := QG_8.out.keep hb
  have G_9 : Hid (HP w2.heap.size w3.heap.size w9 (.agg #[.slice aG RW.length bG, .int .i64 RT, .slice cG RN dG]) (upFrom 1 RW.length) RT RN (mkC (1 + RW.length))) := G_8.out.keep hb
  have J_9 : Hid (HP w7.heap.size w8.heap.size w9 (.agg #[.slice aJ RW.length bJ, .int .i64 RT, .slice cJ RN dJ]) RW RT RN RE) := J_8.out.keep hb
  clear W_8
  clear QW_8
  clear QG_8
  clear G_8
  clear J_8
  have QJ_9 : Hid (Box3 w9 w8.heap.size (.slice aJ RW.length bJ) (.int .i64 RT) (.slice cJ RN dJ) 30) := hbx
  have LQJ : Hid (w8.heap.size < w9.heap.size) := hbx.lt
  clear hb hbx
  refine (eqHeap_same J_9.out.hi W_9.out.hi LW.out LN.out).mono ?_
  rintro r w10 ⟨rfl, hb⟩
  have SZ10 : Hid (w9.heap.size ≤ w10.heap.size) := hb.size
  have HT10 : Hid (Below w.heap.size w w10) := bTrans HT9.out hb
  have W_10 : Hid (HP w.heap.size w1.heap.size w10 (.agg #[.slice aW RW.length bW, .int .i64 RT, .slice cW RN dW]) RW RT RN RE) := W_9.out.keep hb
  have QW_10 : Hid (Box3 w10 w1.heap.size (.slice aW RW.length bW) (.int .i64 RT) (.slice cW RN dW) 30) := QW_9.out.keep hb
  have QG_10 : Hid (Box3 w10 w3.heap.size (.slice aG RW.length bG) (.int .i64 RT) (.slice cG RN dG) 30) := QG_9.out.keep hb
  have G_10 : Hid (HP w2.heap.size w3.heap.size w10 (.agg #[.slice aG RW.length bG, .int .i64 RT, .slice cG RN dG]) (upFrom 1 RW.length) RT RN (mkC (1 + RW.length))) := G_9.out.keep hb
  have J_10 : Hid (HP w7.heap.size w8.heap.size w10 (.agg #[.slice aJ RW.length bJ, .int .i64 RT, .slice cJ RN dJ]) RW RT RN RE) := J_9.out.keep hb
  have QJ_10 : Hid (Box3 w10 w8.heap.size (.slice aJ RW.length bJ) (.int .i64 RT) (.slice cJ RN dJ) 30) := QJ_9.out.keep hb
  clear W_9
  clear QW_9
  clear QG_9
  clear G_9
  clear J_9
  clear QJ_9
  clear hb
  have pQW0 := QW_10.out.c0
  have pQW1 := QW_10.out.c1
  have pQW2 := QW_10.out.c2
  have pQG0 := QG_10.out.c0
  have pQG1 := QG_10.out.c1
  have pQG2 := QG_10.out.c2
  have pQJ0 := QJ_10.out.c0
  have pQJ1 := QJ_10.out.c1
  have pQJ2 := QJ_10.out.c2
  go_wp2_with fail
  refine (heldHeap_own 1 G_10.out LW.out LN.out (by decide) (by decide)).mono ?_
  rintro r w11 ⟨rfl, hb⟩
  clear pQW0 pQW1 pQW2
  clear pQG0 pQG1 pQG2
  clear pQJ0 pQJ1 pQJ2
  have SZ11 : Hid (w10.heap.size ≤ w11.heap.size) := hb.size
  have HT11 : Hid (Below w.heap.size w w11) := bTrans HT10.out hb
  have W_11 : Hid (HP w.heap.size w1.heap.size w11 (.agg #[.slice aW RW.length bW, .int .i64 RT, .slice cW RN dW]) RW RT RN RE) := W_10.out.keep hb
  have QW_11 : Hid (Box3 w11 w1.heap.size (.slice aW RW.length bW) (.int .i64 RT) (.slice cW RN dW) 30) := QW_10.out.keep hb
  have QG_11 : Hid (Box3 w11 w3.heap.size (.slice aG RW.length bG) (.int .i64 RT) (.slice cG RN dG) 30) := QG_10.out.keep hb
  have G_11 : Hid (HP w2.heap.size w3.heap.size w11 (.agg #[.slice aG RW.length bG, .int .i64 RT, .slice cG RN dG]) (upFrom 1 RW.length) RT RN (mkC (1 + RW.length))) := G_10.out.keep hb
  have J_11 : Hid (HP w7.heap.size w8.heap.size w11 (.agg #[.slice aJ RW.length bJ, .int .i64 RT, .slice cJ RN dJ]) RW RT RN RE) := J_10.out.keep hb
  have QJ_11 : Hid (Box3 w11 w8.heap.size (.slice aJ RW.length bJ) (.int .i64 RT) (.slice cJ RN dJ) 30) := QJ_10.out.keep hb
  clear W_10
  clear QW_10
  clear QG_10
  clear G_10
  clear J_10
  clear QJ_10
  clear hb
  have pQW0 := QW_11.out.c0
  have pQW1 := QW_11.out.c1
  have pQW2 := QW_11.out.c2
  have pQG0 := QG_11.out.c0
  have pQG1 := QG_11.out.c1
  have pQG2 := QG_11.out.c2
  have pQJ0 := QJ_11.out.c0
  have pQJ1 := QJ_11.out.c1
  have pQJ2 := QJ_11.out.c2
  go_wp2
  go_ret
  exact ⟨rfl, HT11.out⟩

set_option maxRecDepth 100000 in
theorem lifted (os : Os) (started : os.Started) (H : Type) (enc : TypeId × Value → H) :
    ReturnsInHanded {} Try.checked os 4 .any (Rows.fnExactHeapNewSpec.pre6 enc Try.prog Try.f4 Rows.fnExactHeapNewRow.domain false) (Rows.fnExactHeapNewSpec.post enc Try.prog Try.f4 false true false false) := by
  refine returnsInHanded_of_change (C := Try.checked) own started (by kernel_rfl) Try.func4
    (ChangeSpec.witness6 (enc := enc) (C := Try.checked) false ⟨#[], #[.int .i64 0], []⟩ 8 (by kernel_rfl) (by kernel_rfl) (by kernel_rfl) (by kernel_rfl)) ?_
  intro W base args ds gs before hval0 hW hcnd _
  have hval : ∀ (j : Nat) t v, Try.f4.params[j]? = some t → args[j]? = some v → Value.okWide Try.prog W .any base t v := hval0
  have hW' := hW
  obtain ⟨p, q, hA0, hV, rfl, hfz, hnd⟩ := hW
  have hA : DataW.TrodAll enc Try.prog W 0 (fun _ => true) true Try.f4.params.toList args.toList ds p := hA0
  rw [Try.params4] at hA hval
  obtain ⟨v0, vs0, e0, es0, p0, q0, hargs, rfl, rfl, h0, r0⟩ := trodAll_cons hA
  obtain ⟨rfl, rfl, rfl⟩ := trodAll_nil r0
  obtain rfl : args = #[v0] := by cases args; simp_all
  obtain ⟨rfl, rfl⟩ := trodVars_none hV
  obtain ⟨a0, rfl, rfl, rfl, w0⟩ := open_int Try.underlying3 (hval 0 3 v0 rfl rfl) h0
  clear hA0 hval0
  refine (walk a0 W w0).mono fun e W' ⟨he, bel⟩ => ?_
  subst he
  exact ⟨_, rfl, _, _, _, [], _, [], hW', trodAll_mk1 (shut_bool Try.underlying4 _), (trodAll_cons_mk (shut_int Try.underlying3 w0) trodAll_mk0), rfl, bel.frame _, fun h => by cases h⟩

theorem over : Rows.fnExactHeapNewRow.holds Try.pinned (OpenSpec.ofChange Rows.fnExactHeapNewSpec) :=
  OpenClaim.holds_of_wide 4 Try.f4 rfl rfl rfl rfl rfl rfl rfl ⟨rfl, rfl, rfl, rfl, rfl⟩ rfl rfl rfl rfl rfl (by kernel_rfl) Try.func4 (by kernel_rfl)
    (of_decide_eq_true (by kernel_rfl)) (by unfold Func.isWrapper; first | (rw [if_pos (by decide +kernel)]; kernel_rfl) | (rw [if_neg (by decide +kernel)]; exact ⟨rfl, rfl⟩))
    (fun os started H enc _ => lifted os started H enc)

/-- The statement. -/
theorem proved : Rows.FnExactHeapNewSaid := over
end Go.Proofs.Ytfmfppndcbmohaa.fnExactHeapNew
namespace Go.Proofs.Ytfmfppndcbmohaa
theorem fnExactHeapNew_holds : Rows.FnExactHeapNewSaid := fnExactHeapNew.proved
#print axioms fnExactHeapNew_holds
end Go.Proofs.Ytfmfppndcbmohaa
