/-
  Proved: whatever heap and array it is given, the law FnExactHeapPut returns true (the program's HeapPut answers as the specification's, every field, writes into no argument, and its answer owns its memory), and what it is given reads as before. No condition.
-/
import Derived.Test.YtbkbbafhfeihdaaRows
import Derived.WalkKit
import Derived.ProofKit
import Derived.OpenShut
import Derived.ShutString
import Derived.ChangeOld
import Derived.Below
import Derived.Deep.Cut
import Derived.Test.YtbkbbafhfeihdaaFrame
import Derived.Test.YtbkbbafhfeihdaaZ1
namespace Go.Proofs.Ytbkbbafhfeihdaa.fnExactHeapPut
open Go.ChangeShapes Go.WideShapes Go.ChangeAt Go.RowKit
open Go.ChangeMaps (open_string shut_string)
set_option linter.unusedVariables false
set_option linter.unusedSimpArgs false

theorem own : ownKnob Try.prog.godebug = none := by kernel_rfl
theorem laidOut : laidOutB Try.prog = true := by kernel_rfl

set_option maxRecDepth 20000 in
set_option maxHeartbeats 8000000 in
/-- The walk: the law returns true, and writes nothing that was there. -/
theorem walk (v0 : Value) (W0 : List Int) (t0 : Int) (n0 : Nat) (E0 : Nat → Cel) (v1 : Value) (s1 d1 : List Int) (w : World) (w0 : HI w v0 W0 t0 n0 E0) (b0 : W0.length ≤ 9223372036854775807) (c0 : n0 ≤ 9223372036854775807) (d0 : ∀ i, in64 (E0 i).f ∧ in64 (E0 i).l) (e0 : in64 t0) (w1 : ArrI w v1 s1 d1) (b1 : s1.length ≤ 9223372036854775807) (c1 : d1.length ≤ 9223372036854775807) :
    Calls Try.prog 3 #[v0, v1] w fun e w' => e = .returned (.bool true) ∧ Below w.heap.size w w' := by
  have H : Hid (HI w v0 W0 t0 n0 E0) := w0
  have HE : Hid ((∀ i, in64 (E0 i).f ∧ in64 (E0 i).l) ∧ in64 t0) := ⟨d0, e0⟩
  obtain ⟨ya, yc, za, zc, rfl, _⟩ := w0
  have HA : Hid (ArrI w v1 s1 d1) := w1
  obtain ⟨xa, xc, xb, xd, rfl, _⟩ := w1
  clear d0 e0
  go_enter Try.func3, Try.ntmps3
  go_wp2_with fail
  have hb : Below w.heap.size w ((w.alloc (.cells #[.slice ya W0.length yc, .int .i64 t0, .slice za n0 zc] 25)).alloc (.cells #[.slice xa s1.length xc, .slice xb d1.length xd] 27)) := bAlloc (bAlloc (Below.refl _ _) _) _
  have hx0 : Box3 ((w.alloc (.cells #[.slice ya W0.length yc, .int .i64 t0, .slice za n0 zc] 25)).alloc (.cells #[.slice xa s1.length xc, .slice xb d1.length xd] 27)) w.heap.size (.slice ya W0.length yc) (.int .i64 t0) (.slice za n0 zc) 25 := (box3_new _ _ _ _ _).alloc _
  have hx1 : Box ((w.alloc (.cells #[.slice ya W0.length yc, .int .i64 t0, .slice za n0 zc] 25)).alloc (.cells #[.slice xa s1.length xc, .slice xb d1.length xd] 27)) (w.heap.size + 1) (.slice xa s1.length xc) (.slice xb d1.length xd) 27 := by
    have := box_new (w.alloc (.cells #[.slice ya W0.length yc, .int .i64 t0, .slice za n0 zc] 25)) (.slice xa s1.length xc) (.slice xb d1.length xd) 27
    simpa using this
  generalize (w.alloc (.cells #[.slice ya W0.length yc, .int .i64 t0, .slice za n0 zc] 25)).alloc (.cells #[.slice xa s1.length xc, .slice xb d1.length xd] 27) = w1 at *
  have SZ1 : Hid (w.heap.size ≤ w1.heap.size) := hb.size
  have HT1 : Hid (Below w.heap.size w w1) := hb
  have A_1 : Hid (Box3 w1 w.heap.size (.slice ya W0.length yc) (.int .i64 t0) (.slice za n0 zc) 25) := hx0
  have B_1 : Hid (Box w1 (w.heap.size + 1) (.slice xa s1.length xc) (.slice xb d1.length xd) 27) := hx1
  have LB : Hid (w.heap.size + 1 < w1.heap.size) := hx1.lt
  clear hb hx0 hx1
  refine (szHeap_at (H.out.keep HT1.out) b0 c0).mono ?_
  rintro r w2 ⟨rfl, hb⟩
  have SZ2 : Hid (w1.heap.size ≤ w2.heap.size) := hb.size
  have HT2 : Hid (Below w.heap.size w w2) := bTrans HT1.out hb
  have A_2 : Hid (Box3 w2 w.heap.size (.slice ya W0.length yc) (.int .i64 t0) (.slice za n0 zc) 25) := A_1.out.keep hb
  have B_2 : Hid (Box w2 (w.heap.size + 1) (.slice xa s1.length xc) (.slice xb d1.length xd) 27) := B_1.out.keep hb
  clear A_1
  clear B_1
  clear hb
  by_cases h0 : szV (W0.length + n0) 1048576 < 0
  · generalize szV (W0.length + n0) 1048576 = X at *
    go_wp2
    go_ret
    exact ⟨rfl, HT2.out⟩
  have BW : Hid (W0.length ≤ 1048576) := by show _ ≤ _; unfold szV at h0; split at h0 <;> omega
  have BN : Hid (n0 ≤ 1048576) := by show _ ≤ _; unfold szV at h0; split at h0 <;> omega
  have hX1 : szV (W0.length + n0) 1048576 ≤ 1048576 := by unfold szV; split <;> omega
  generalize szV (W0.length + n0) 1048576 = X at *
  have hX0 : 0 ≤ X := by omega
  clear b0 c0
  have pA0 := A_2.out.c0
  have pA1 := A_2.out.c1
  have pA2 := A_2.out.c2
  have pB0 := B_2.out.c0
  have pB1 := B_2.out.c1
  go_wp2_with fail
  refine (sz_arr _ _ _ _ _ _ X _ hX0 hX1 b1 c1).mono ?_
  rintro r w3 ⟨rfl, hb⟩
  clear pA0 pA1 pA2
  clear pB0 pB1
  have SZ3 : Hid (w2.heap.size ≤ w3.heap.size) := hb.size
  have HT3 : Hid (Below w.heap.size w w3) := bTrans HT2.out hb
  have A_3 : Hid (Box3 w3 w.heap.size (.slice ya W0.length yc) (.int .i64 t0) (.slice za n0 zc) 25) := A_2.out.keep hb
  have B_3 : Hid (Box w3 (w.heap.size + 1) (.slice xa s1.length xc) (.slice xb d1.length xd) 27) := B_2.out.keep hb
  clear A_2
  clear B_2
  clear hb
  by_cases h1 : szV (s1.length + d1.length) X < 0
  · generalize szV (s1.length + d1.length) X = Y at *
    go_wp2
    go_ret
    exact ⟨rfl, HT3.out⟩
  have BS : Hid (s1.length ≤ 1048576) := by show _ ≤ _; unfold szV at h1; split at h1 <;> omega
  have BD : Hid (d1.length ≤ 1048576) := by show _ ≤ _; unfold szV at h1; split at h1 <;> omega
  generalize szV (s1.length + d1.length) X = Y at *
  clear b1 c1 hX0 hX1
  obtain ⟨V, hV⟩ : ∃ V, V = outB W0 t0 n0 E0 s1 d1 := ⟨_, rfl⟩
  obtain ⟨RI, hRI⟩ : ∃ RI : Int, RI = outI W0 t0 n0 E0 s1 d1 := ⟨_, rfl⟩
  obtain ⟨RW, hRW⟩ : ∃ RW, RW = outW W0 t0 n0 E0 s1 d1 := ⟨_, rfl⟩
  obtain ⟨RT, hRT⟩ : ∃ RT : Int, RT = outT W0 t0 n0 E0 s1 d1 := ⟨_, rfl⟩
  obtain ⟨RN, hRN⟩ : ∃ RN : Nat, RN = outN W0 t0 n0 E0 s1 d1 := ⟨_, rfl⟩
  obtain ⟨RE, hRE⟩ : ∃ RE : Nat → Cel, RE = outE W0 t0 n0 E0 s1 d1 := ⟨_, rfl⟩
  have LW : Hid (RW.length ≤ 1048576) := by show _ ≤ _; rw [hRW]; exact outW_len BW.out
  have LN : Hid (RN ≤ 1048576) := by show _ ≤ _; rw [hRN]; exact outN_le BN.out
  have SP : Hid (∀ (W : World) (u v : Value), HI W u W0 t0 n0 E0 → ArrI W v s1 d1 → Calls Try.prog 7 #[u, v] W fun r w' => ∃ x, r = .returned (.tuple #[x, .int .i64 RI, .bool V]) ∧ HX W.heap.size w'.heap.size w' x RW RT RN RE ∧ Below W.heap.size W w') := fun W u v hu hv => by rw [hV, hRI, hRW, hRT, hRN, hRE]; exact heapPut_spec hu HE.out BW.out BN.out hv BD.out
  have IM : Hid (∀ (W : World) (u v : Value), HI W u W0 t0 n0 E0 → ArrI W v s1 d1 → Calls Try.prog 10 #[u, v] W fun r w' => ∃ x, r = .returned (.tuple #[x, .int .i64 RI, .bool V]) ∧ HX W.heap.size w'.heap.size w' x RW RT RN RE ∧ Below W.heap.size W w') := fun W u v hu hv => by rw [hV, hRI, hRW, hRT, hRN, hRE]; exact heapPut_impl sorts_by sorts_none hu HE.out BW.out BN.out hv BD.out
  clear hV hRI hRW hRT hRN hRE
  have hneV : (V != V) = false := by simp
  have hneI : (RI != RI) = false := by simp
  have SK : Hid (∀ W, Below w3.heap.size w3 W → W.cell? ⟨w.heap.size, 0, none⟩ = some (.slice ya W0.length yc) ∧ W.cell? ⟨w.heap.size, 1, none⟩ = some (.int .i64 t0) ∧ W.cell? ⟨w.heap.size, 2, none⟩ = some (.slice za n0 zc) ∧ W.cell? ⟨(w.heap.size + 1), 0, none⟩ = some (.slice xa s1.length xc) ∧ W.cell? ⟨(w.heap.size + 1), 1, none⟩ = some (.slice xb d1.length xd)) := fun W hb => ⟨(A_3.out.keep hb).c0, (A_3.out.keep hb).c1, (A_3.out.keep hb).c2, (B_3.out.keep hb).c0, (B_3.out.keep hb).c1⟩
  have pA0 := A_3.out.c0
  have dA0 : ∀ ob : Obj, (w3.alloc ob).cell? ⟨w.heap.size, 0, none⟩ = some (.slice ya W0.length yc) := fun ob => (A_3.out.keep (bAlloc (Below.refl _ _) ob)).c0
  have pA1 := A_3.out.c1
  have dA1 : ∀ ob : Obj, (w3.alloc ob).cell? ⟨w.heap.size, 1, none⟩ = some (.int .i64 t0) := fun ob => (A_3.out.keep (bAlloc (Below.refl _ _) ob)).c1
  have pA2 := A_3.out.c2
  have dA2 : ∀ ob : Obj, (w3.alloc ob).cell? ⟨w.heap.size, 2, none⟩ = some (.slice za n0 zc) := fun ob => (A_3.out.keep (bAlloc (Below.refl _ _) ob)).c2
  have pB0 := B_3.out.c0
  have dB0 : ∀ ob : Obj, (w3.alloc ob).cell? ⟨(w.heap.size + 1), 0, none⟩ = some (.slice xa s1.length xc) := fun ob => (B_3.out.keep (bAlloc (Below.refl _ _) ob)).c0
  have pB1 := B_3.out.c1
  have dB1 : ∀ ob : Obj, (w3.alloc ob).cell? ⟨(w.heap.size + 1), 1, none⟩ = some (.slice xb d1.length xd) := fun ob => (B_3.out.keep (bAlloc (Below.refl _ _) ob)).c1
  go_wp2_with fail
  clear pA0 pA1 pA2
  clear dA0 dA1 dA2
  clear pB0 pB1
  clear dB0 dB1
  go_cut [6, 7, 8] from 20 (fun p q r w' => ∃ (gW : Nat) (aW : Option Addr) (bW : Nat) (cW : Option Addr) (dW : Nat), p = .pointer (some ⟨gW, 0, none⟩) ∧ q = .int .i64 RI ∧ r = .bool V ∧ Box3 w' gW (.slice aW RW.length bW) (.int .i64 RT) (.slice cW RN dW) 32 ∧ HX w3.heap.size w'.heap.size w' (.agg #[.slice aW RW.length bW, .int .i64 RT, .slice cW RN dW]) RW RT RN RE ∧ Below w3.heap.size w3 w')
  case first =>
    have SZ0 : Hid (w3.heap.size ≤ w3.heap.size) := Nat.le_refl _
    go_region_held3 (fun w' => w'.cell? ⟨w.heap.size, 0, none⟩ = some (.slice ya W0.length yc) ∧ w'.cell? ⟨w.heap.size, 1, none⟩ = some (.int .i64 t0) ∧ w'.cell? ⟨w.heap.size, 2, none⟩ = some (.slice za n0 zc) ∧ w'.cell? ⟨(w.heap.size + 1), 0, none⟩ = some (.slice xa s1.length xc) ∧ w'.cell? ⟨(w.heap.size + 1), 1, none⟩ = some (.slice xb d1.length xd))
      ((refine SK.out _ ?_; (repeat first | with_reducible exact HBc.out | with_reducible exact HBb.out | with_reducible exact HBa.out | with_reducible exact Below.refl _ _ | with_reducible refine Below.drew ?_ | with_reducible refine bAlloc ?_ _ | with_reducible refine below_setCell ?_ (by first | exact Nat.le_refl _ | exact HBa.out.size | exact HBb.out.size | (have := HBb.out.size; omega)) _ _)))
      (first
        | (go_at_call 8; refine (toHeap_own (H.out.keep (bTrans HT3.out (by repeat first | exact HBc.out | exact HBb.out | exact HBa.out | exact (Below.refl _ _).drew | exact Below.refl _ _ | refine bAlloc ?_ _ | refine Below.drew ?_))) BW.out BN.out).mono ?_; rintro r wa ⟨v3, rfl, hu, hb⟩; have Ua : Hid (HI wa v3 W0 t0 n0 E0) := hu.hi; have HBa : Hid (Below w3.heap.size w3 wa) := bTrans (by repeat first | exact HBc.out | exact HBb.out | exact HBa.out | exact (Below.refl _ _).drew | exact Below.refl _ _ | refine bAlloc ?_ _ | refine Below.drew ?_) hb; (try have bqa : Hid (Box3 wa w3.heap.size (.slice none 0 0) (.int .i64 0) (.slice none 0 0) 32) := Box3.keep (w := World.drew (World.alloc w3 (.cells #[.slice none 0 0, .int .i64 0, .slice none 0 0] 32))) (box3_new _ _ _ _ _) hb); clear hu hb)
        | (go_at_call 9; refine (to_arr (HA.out.keep (bTrans HT3.out (by repeat first | exact HBc.out | exact HBb.out | exact HBa.out | exact (Below.refl _ _).drew | exact Below.refl _ _ | refine bAlloc ?_ _ | refine Below.drew ?_))) BS.out BD.out).mono ?_; rintro r wb ⟨v4, rfl, hu, hb⟩; have Ub : Hid (HI wb v3 W0 t0 n0 E0) := (Ua.out.keep (by repeat first | exact Below.refl _ _ | refine bAlloc ?_ _ | refine Below.drew ?_)).keep hb; have U4 : Hid (ArrI wb v4 s1 d1) := hu.arrI; have HBb : Hid (Below w3.heap.size w3 wb) := bTrans (by repeat first | exact HBc.out | exact HBb.out | exact HBa.out | exact (Below.refl _ _).drew | exact Below.refl _ _ | refine bAlloc ?_ _ | refine Below.drew ?_) hb; (try have bqb0 : Hid (Box3 wb w3.heap.size (.slice none 0 0) (.int .i64 0) (.slice none 0 0) 32) := (bqa.out.keep (by repeat first | exact Below.refl _ _ | refine bAlloc ?_ _ | refine Below.drew ?_)).keep hb); (try have bqb1 : Hid (Box3 wb wa.heap.size (.slice none 0 0) (.int .i64 0) (.slice none 0 0) 32) := (box3_new wa _ _ _ _).keep hb); have SAB : Hid (wa.heap.size ≤ wb.heap.size) := Nat.le_trans (by first | exact Nat.le_refl _ | simp) hb.size; clear hu hb)
        | (go_at_call 7; refine (SP.out _ _ _ (Ub.out.keep (by repeat first | exact Below.refl _ _ | refine bAlloc ?_ _ | refine Below.drew ?_)) (U4.out.keep (by repeat first | exact Below.refl _ _ | refine bAlloc ?_ _ | refine Below.drew ?_))).mono ?_; rintro r wc ⟨v5, rfl, hO, hb⟩; obtain ⟨aW, bW, cW, dW, rfl⟩ := hO.form; have HBc : Hid (Below w3.heap.size w3 wc) := bTrans (by repeat first | exact HBc.out | exact HBb.out | exact HBa.out | exact (Below.refl _ _).drew | exact Below.refl _ _ | refine bAlloc ?_ _ | refine Below.drew ?_) hb; have SBC : Hid (_ ≤ wc.heap.size) := hb.size; (try have bqc0 : Hid (Box3 wc w3.heap.size (.slice none 0 0) (.int .i64 0) (.slice none 0 0) 32) := (bqb0.out.keep (by repeat first | exact Below.refl _ _ | refine bAlloc ?_ _ | refine Below.drew ?_)).keep hb); (try have bqc1 : Hid (Box3 wc wa.heap.size (.slice none 0 0) (.int .i64 0) (.slice none 0 0) 32) := (bqb1.out.keep (by repeat first | exact Below.refl _ _ | refine bAlloc ?_ _ | refine Below.drew ?_)).keep hb); (try have bqc2 : Hid (Box3 wc wb.heap.size (.slice none 0 0) (.int .i64 0) (.slice none 0 0) 32) := (box3_new wb _ _ _ _).keep hb); (try have q0 := bqc0.out.c0); (try have q1 := bqc0.out.c1); (try have q2 := bqc0.out.c2); (try have f0 := bqc0.out.free 0); (try have f1 := bqc0.out.free 1); (try have f2 := bqc0.out.free 2); (try have q0 := bqc1.out.c0); (try have q1 := bqc1.out.c1); (try have q2 := bqc1.out.c2); (try have f0 := bqc1.out.free 0); (try have f1 := bqc1.out.free 1); (try have f2 := bqc1.out.free 2); (try have q0 := bqc2.out.c0); (try have q1 := bqc2.out.c1); (try have q2 := bqc2.out.c2); (try have f0 := bqc2.out.free 0); (try have f1 := bqc2.out.free 1); (try have f2 := bqc2.out.free 2); have HO : Hid (HX _ wc.heap.size wc (.agg #[.slice aW RW.length bW, .int .i64 RT, .slice cW RN dW]) RW RT RN RE) := hO; clear hO hb))
    all_goals
      go_wp2_with fail
      go_meet
      case rel =>
        have z1 := HBa.out.size
        have z2 := SAB.out
        have z3 := SBC.out
        (try have z4 := bqa.out.lt)
        (try have z5 := bqb1.out.lt)
        first
          | exact ⟨wc.heap.size, _, _, _, _, rfl, rfl, rfl, box3_new wc _ _ _ _, (HO.out.keep (bAlloc (Below.refl _ _) _)).mono (by first | omega | (simp at z3 ⊢; omega) | (simp; omega)) (by simp), bAlloc HBc.out _⟩
          | exact ⟨w3.heap.size, _, _, _, _, rfl, rfl, rfl, ((bqc0.out.set0 _).set1 _).set2 _, HO.out.stored (by first | omega | (simp; omega) | simp) (by first | omega | (simp; omega)) (Nat.le_refl _), below_set3 HBc.out (by first | exact Nat.le_refl _ | omega)⟩
          | exact ⟨wa.heap.size, _, _, _, _, rfl, rfl, rfl, ((bqc1.out.set0 _).set1 _).set2 _, HO.out.stored (by first | omega | (simp; omega) | simp) (by first | omega | (simp; omega)) (Nat.le_refl _), below_set3 HBc.out (by first | exact Nat.le_refl _ | omega)⟩
          | exact ⟨wb.heap.size, _, _, _, _, rfl, rfl, rfl, ((bqc2.out.set0 _).set1 _).set2 _, HO.out.stored (by first | omega | (simp; omega) | simp) (by first | omega | (simp; omega)) (Nat.le_refl _), below_set3 HBc.out (by first | exact Nat.le_refl _ | omega)⟩
  obtain ⟨w4, hwc⟩ : ∃ x, x = wc := ⟨_, rfl⟩
  subst hwc
  obtain ⟨gW, aW, bW, cW, dW, rfl, rfl, rfl, hbx, hO, hb⟩ := hcut
  clear SK
  have SZ4 : Hid (w3.heap.size ≤ w4.heap.size) := hb.size
  have HT4 : Hid (Below w.heap.size w w4) := bTrans HT3.out hb
  have A_4 : Hid (Box3 w4 w.heap.size (.slice ya W0.length yc) (.int .i64 t0) (.slice za n0 zc) 25) := A_3.out.keep hb
  have B_4 : Hid (Box w4 (w.heap.size + 1) (.slice xa s1.length xc) (.slice xb d1.length xd) 27) := B_3.out.keep hb
  clear A_3
  clear B_3
  have QW_4 : Hid (Box3 w4 gW (.slice aW RW.length bW) (.int .i64 RT) (.slice cW RN dW) 32) := hbx
  have W_4 : Hid (HX w3.heap.size w4.heap.size w4 (.agg #[.slice aW RW.length bW, .int .i64 RT, .slice cW RN dW]) RW RT RN RE) := hO
  have LQW : Hid (gW < w4.heap.size) := hbx.lt
  clear hbx hO hb
  have pA0 := A_4.out.c0
  have pA1 := A_4.out.c1
  have pA2 := A_4.out.c2
  have pB0 := B_4.out.c0
  have pB1 := B_4.out.c1
  have pQW0 := QW_4.out.c0
  have pQW1 := QW_4.out.c1
  have pQW2 := QW_4.out.c2
  go_wp2_with fail
  refine (toHeap_own (H.out.keep HT4.out) BW.out BN.out).mono ?_
  rintro r w5 ⟨vX, rfl, hO, hb⟩
  obtain ⟨aX, bX, cX, dX, rfl⟩ := hO.form
  clear pA0 pA1 pA2
  clear pB0 pB1
  clear pQW0 pQW1 pQW2
  have SZ5 : Hid (w4.heap.size ≤ w5.heap.size) := hb.size
  have HT5 : Hid (Below w.heap.size w w5) := bTrans HT4.out hb
  have A_5 : Hid (Box3 w5 w.heap.size (.slice ya W0.length yc) (.int .i64 t0) (.slice za n0 zc) 25) := A_4.out.keep hb
  have B_5 : Hid (Box w5 (w.heap.size + 1) (.slice xa s1.length xc) (.slice xb d1.length xd) 27) := B_4.out.keep hb
  have QW_5 : Hid (Box3 w5 gW (.slice aW RW.length bW) (.int .i64 RT) (.slice cW RN dW) 32) := QW_4.out.keep hb
  have W_5 : Hid (HX w3.heap.size w4.heap.size w5 (.agg #[.slice aW RW.length bW, .int .i64 RT, .slice cW RN dW]) RW RT RN RE) := W_4.out.keep hb
  clear A_4
  clear B_4
  clear QW_4
  clear W_4
  have X_5 : Hid (HP w4.heap.size w5.heap.size w5 (.agg #[.slice aX W0.length bX, .int .i64 t0, .slice cX n0 dX]) W0 t0 n0 E0) := hO
  clear hO hb
  have pA0 := A_5.out.c0
  have dA0 : ∀ ob : Obj, (w5.alloc ob).cell? ⟨w.heap.size, 0, none⟩ = some (.slice ya W0.length yc) := fun ob => (A_5.out.keep (bAlloc (Below.refl _ _) ob)).c0
  have pA1 := A_5.out.c1
  have dA1 : ∀ ob : Obj, (w5.alloc ob).cell? ⟨w.heap.size, 1, none⟩ = some (.int .i64 t0) := fun ob => (A_5.out.keep (bAlloc (Below.refl _ _) ob)).c1
  have pA2 := A_5.out.c2
  have dA2 : ∀ ob : Obj, (w5.alloc ob).cell? ⟨w.heap.size, 2, none⟩ = some (.slice za n0 zc) := fun ob => (A_5.out.keep (bAlloc (Below.refl _ _) ob)).c2
  have pB0 := B_5.out.c0
  have dB0 : ∀ ob : Obj, (w5.alloc ob).cell? ⟨(w.heap.size + 1), 0, none⟩ = some (.slice xa s1.length xc) := fun ob => (B_5.out.keep (bAlloc (Below.refl _ _) ob)).c0
  have pB1 := B_5.out.c1
  have dB1 : ∀ ob : Obj, (w5.alloc ob).cell? ⟨(w.heap.size + 1), 1, none⟩ = some (.slice xb d1.length xd) := fun ob => (B_5.out.keep (bAlloc (Below.refl _ _) ob)).c1
  have pQW0 := QW_5.out.c0
  have dQW0 : ∀ ob : Obj, (w5.alloc ob).cell? ⟨gW, 0, none⟩ = some (.slice aW RW.length bW) := fun ob => (QW_5.out.keep (bAlloc (Below.refl _ _) ob)).c0
  have pQW1 := QW_5.out.c1
  have dQW1 : ∀ ob : Obj, (w5.alloc ob).cell? ⟨gW, 1, none⟩ = some (.int .i64 RT) := fun ob => (QW_5.out.keep (bAlloc (Below.refl _ _) ob)).c1
  have pQW2 := QW_5.out.c2
  have dQW2 : ∀ ob : Obj, (w5.alloc ob).cell? ⟨gW, 2, none⟩ = some (.slice cW RN dW) := fun ob => (QW_5.out.keep (bAlloc (Below.refl _ _) ob)).c2
  go_wp2_with fail
  clear pA0 pA1 pA2
  clear dA0 dA1 dA2
  clear pB0 pB1
  clear dB0 dB1
  clear pQW0 pQW1 pQW2
  clear dQW0 dQW1 dQW2
  have hbx : Box3 (w5.alloc (.cells #[.slice aX W0.length bX, .int .i64 t0, .slice cX n0 dX] 32)) w5.heap.size (.slice aX W0.length bX) (.int .i64 t0) (.slice cX n0 dX) 32 := heap_alloc_new _ _
  have hb : Below w5.heap.size w5 (w5.alloc (.cells #[.slice aX W0.length bX, .int .i64 t0, .slice cX n0 dX] 32)) := bAlloc (Below.refl _ _) _
  generalize w5.alloc (.cells #[.slice aX W0.length bX, .int .i64 t0, .slice cX n0 dX] 32) = w6 at *
  have SZ6 : Hid (w5.heap.size ≤ w6.heap.size) := hb.size
  have HT6 : Hid (Below w.heap.size w w6) := bTrans HT5.out hb
  have A_6 : Hid (Box3 w6 w.heap.size (.slice ya W0.length yc) (.int .i64 t0) (.slice za n0 zc) 25) := A_5.out.keep hb
  have B_6 : Hid (Box w6 (w.heap.size + 1) (.slice xa s1.length xc) (.slice xb d1.length xd) 27) := B_5.out.keep hb
  have QW_6 : Hid (Box3 w6 gW (.slice aW RW.length bW) (.int .i64 RT) (.slice cW RN dW) 32) := QW_5.out.keep hb
  have W_6 : Hid (HX w3.heap.size w4.heap.size w6 (.agg #[.slice aW RW.length bW, .int .i64 RT, .slice cW RN dW]) RW RT RN RE) := W_5.out.keep hb
  have X_6 : Hid (HP w4.heap.size w5.heap.size w6 (.agg #[.slice aX W0.length bX, .int .i64 t0, .slice cX n0 dX]) W0 t0 n0 E0) := X_5.out.keep hb
  clear A_5
  clear B_5
  clear QW_5
  clear W_5
  clear X_5
  have P_6 : Hid (Box3 w6 w5.heap.size (.slice aX W0.length bX) (.int .i64 t0) (.slice cX n0 dX) 32) := hbx
  have LP : Hid (w5.heap.size < w6.heap.size) := hbx.lt
  clear hb hbx
  refine (to_arr (HA.out.keep HT6.out) BS.out BD.out).mono ?_
  rintro r w7 ⟨vY, rfl, hO, hb⟩
  obtain ⟨aY, bY, cY, dY, rfl, _⟩ := hO.arrI
  have SZ7 : Hid (w6.heap.size ≤ w7.heap.size) := hb.size
  have HT7 : Hid (Below w.heap.size w w7) := bTrans HT6.out hb
  have A_7 : Hid (Box3 w7 w.heap.size (.slice ya W0.length yc) (.int .i64 t0) (.slice za n0 zc) 25) := A_6.out.keep hb
  have B_7 : Hid (Box w7 (w.heap.size + 1) (.slice xa s1.length xc) (.slice xb d1.length xd) 27) := B_6.out.keep hb
  have QW_7 : Hid (Box3 w7 gW (.slice aW RW.length bW) (.int .i64 RT) (.slice cW RN dW) 32) := QW_6.out.keep hb
  have W_7 : Hid (HX w3.heap.size w4.heap.size w7 (.agg #[.slice aW RW.length bW, .int .i64 RT, .slice cW RN dW]) RW RT RN RE) := W_6.out.keep hb
  have X_7 : Hid (HP w4.heap.size w5.heap.size w7 (.agg #[.slice aX W0.length bX, .int .i64 t0, .slice cX n0 dX]) W0 t0 n0 E0) := X_6.out.keep hb
  have P_7 : Hid (Box3 w7 w5.heap.size (.slice aX W0.length bX) (.int .i64 t0) (.slice cX n0 dX) 32) := P_6.out.keep hb
  clear A_6
  clear B_6
  clear QW_6
  clear W_6
  clear X_6
  clear P_6
  have Y_7 : Hid (Arr w6.heap.size w7.heap.size w7 (.agg #[.slice aY s1.length bY, .slice cY d1.length dY]) s1 d1) := hO
  clear hO hb
  have pA0 := A_7.out.c0
  have dA0 : ∀ ob : Obj, (w7.alloc ob).cell? ⟨w.heap.size, 0, none⟩ = some (.slice ya W0.length yc) := fun ob => (A_7.out.keep (bAlloc (Below.refl _ _) ob)).c0
  have pA1 := A_7.out.c1
  have dA1 : ∀ ob : Obj, (w7.alloc ob).cell? ⟨w.heap.size, 1, none⟩ = some (.int .i64 t0) := fun ob => (A_7.out.keep (bAlloc (Below.refl _ _) ob)).c1
  have pA2 := A_7.out.c2
  have dA2 : ∀ ob : Obj, (w7.alloc ob).cell? ⟨w.heap.size, 2, none⟩ = some (.slice za n0 zc) := fun ob => (A_7.out.keep (bAlloc (Below.refl _ _) ob)).c2
  have pB0 := B_7.out.c0
  have dB0 : ∀ ob : Obj, (w7.alloc ob).cell? ⟨(w.heap.size + 1), 0, none⟩ = some (.slice xa s1.length xc) := fun ob => (B_7.out.keep (bAlloc (Below.refl _ _) ob)).c0
  have pB1 := B_7.out.c1
  have dB1 : ∀ ob : Obj, (w7.alloc ob).cell? ⟨(w.heap.size + 1), 1, none⟩ = some (.slice xb d1.length xd) := fun ob => (B_7.out.keep (bAlloc (Below.refl _ _) ob)).c1
  have pQW0 := QW_7.out.c0
  have dQW0 : ∀ ob : Obj, (w7.alloc ob).cell? ⟨gW, 0, none⟩ = some (.slice aW RW.length bW) := fun ob => (QW_7.out.keep (bAlloc (Below.refl _ _) ob)).c0
  have pQW1 := QW_7.out.c1
  have dQW1 : ∀ ob : Obj, (w7.alloc ob).cell? ⟨gW, 1, none⟩ = some (.int .i64 RT) := fun ob => (QW_7.out.keep (bAlloc (Below.refl _ _) ob)).c1
  have pQW2 := QW_7.out.c2
  have dQW2 : ∀ ob : Obj, (w7.alloc ob).cell? ⟨gW, 2, none⟩ = some (.slice cW RN dW) := fun ob => (QW_7.out.keep (bAlloc (Below.refl _ _) ob)).c2
  have pP0 := P_7.out.c0
  have dP0 : ∀ ob : Obj, (w7.alloc ob).cell? ⟨w5.heap.size, 0, none⟩ = some (.slice aX W0.length bX) := fun ob => (P_7.out.keep (bAlloc (Below.refl _ _) ob)).c0
  have pP1 := P_7.out.c1
  have dP1 : ∀ ob : Obj, (w7.alloc ob).cell? ⟨w5.heap.size, 1, none⟩ = some (.int .i64 t0) := fun ob => (P_7.out.keep (bAlloc (Below.refl _ _) ob)).c1
  have pP2 := P_7.out.c2
  have dP2 : ∀ ob : Obj, (w7.alloc ob).cell? ⟨w5.heap.size, 2, none⟩ = some (.slice cX n0 dX) := fun ob => (P_7.out.keep (bAlloc (Below.refl _ _) ob)).c2
  go_wp2_with fail
  clear pA0 pA1 pA2
  clear dA0 dA1 dA2
  clear pB0 pB1
  clear dB0 dB1
  clear pQW0 pQW1 pQW2
  clear dQW0 dQW1 dQW2
  clear pP0 pP1 pP2
  clear dP0 dP1 dP2
  have hbx : Box (w7.alloc (.cells #[.slice aY s1.length bY, .slice cY d1.length dY] 36)) w7.heap.size (.slice aY s1.length bY) (.slice cY d1.length dY) 36 := heap_alloc_new _ _
  have hb : Below w7.heap.size w7 (w7.alloc (.cells #[.slice aY s1.length bY, .slice cY d1.length dY] 36)) := bAlloc (Below.refl _ _) _
  generalize w7.alloc (.cells #[.slice aY s1.length bY, .slice cY d1.length dY] 36) = w8 at *
  have SZ8 : Hid (w7.heap.size ≤ w8.heap.size) := hb.size
  have HT8 : Hid (Below w.heap.size w w8) := bTrans HT7.out hb
  have A_8 : Hid (Box3 w8 w.heap.size (.slice ya W0.length yc) (.int .i64 t0) (.slice za n0 zc) 25) := A_7.out.keep hb
  have B_8 : Hid (Box w8 (w.heap.size + 1) (.slice xa s1.length xc) (.slice xb d1.length xd) 27) := B_7.out.keep hb
  have QW_8 : Hid (Box3 w8 gW (.slice aW RW.length bW) (.int .i64 RT) (.slice cW RN dW) 32) := QW_7.out.keep hb
  have W_8 : Hid (HX w3.heap.size w4.heap.size w8 (.agg #[.slice aW RW.length bW, .int .i64 RT, .slice cW RN dW]) RW RT RN RE) := W_7.out.keep hb
  have X_8 : Hid (HP w4.heap.size w5.heap.size w8 (.agg #[.slice aX W0.length bX, .int .i64 t0, .slice cX n0 dX]) W0 t0 n0 E0) := X_7.out.keep hb
  have P_8 : Hid (Box3 w8 w5.heap.size (.slice aX W0.length bX) (.int .i64 t0) (.slice cX n0 dX) 32) := P_7.out.keep hb
  have Y_8 : Hid (Arr w6.heap.size w7.heap.size w8 (.agg #[.slice aY s1.length bY, .slice cY d1.length dY]) s1 d1) := Y_7.out.keep hb
  clear A_7
  clear B_7
  clear QW_7
  clear W_7
  clear X_7
  clear P_7
  clear Y_7
  have R_8 : Hid (Box w8 w7.heap.size (.slice aY s1.length bY) (.slice cY d1.length dY) 36) := hbx
  have LR : Hid (w7.heap.size < w8.heap.size) := hbx.lt
  clear hb hbx
  refine (IM.out _ _ _ X_8.out.hi Y_8.out.arrI).mono ?_
  rintro r w9 ⟨vG, rfl, hO, hb⟩
  obtain ⟨aG, bG, cG, dG, rfl⟩ := hO.form
  have SZ9 : Hid (w8.heap.size ≤ w9.heap.size) := hb.size
  have HT9 : Hid (Below w.heap.size w w9) := bTrans HT8.out hb
  have A_9 : Hid (Box3 w9 w.heap.size (.slice ya W0.length yc) (.int .i64 t0) (.slice za n0 zc) 25) := A_8.out.keep hb
  have B_9 : Hid (Box w9 (w.heap.size + 1) (.slice xa s1.length xc) (.slice xb d1.length xd) 27) := B_8.out.keep hb
  have QW_9 : Hid (Box3 w9 gW (.slice aW RW.length bW) (.int .i64 RT) (.slice cW RN dW) 32) := QW_8.out.keep hb
  have W_9 : Hid (HX w3.heap.size w4.heap.size w9 (.agg #[.slice aW RW.length bW, .int .i64 RT, .slice cW RN dW]) RW RT RN RE) := W_8.out.keep hb
  have X_9 : Hid (HP w4.heap.size w5.heap.size w9 (.agg #[.slice aX W0.length bX, .int .i64 t0, .slice cX n0 dX]) W0 t0 n0 E0) := X_8.out.keep hb
  have P_9 : Hid (Box3 w9 w5.heap.size (.slice aX W0.length bX) (.int .i64 t0) (.slice cX n0 dX) 32) := P_8.out.keep hb
  have Y_9 : Hid (Arr w6.heap.size w7.heap.size w9 (.agg #[.slice aY s1.length bY, .slice cY d1.length dY]) s1 d1) := Y_8.out.keep hb
  have R_9 : Hid (Box w9 w7.heap.size (.slice aY s1.length bY) (.slice cY d1.length dY) 36) := R_8.out.keep hb
  clear A_8
  clear B_8
  clear QW_8
  clear W_8
  clear X_8
  clear P_8
  clear Y_8
  clear R_8
  have G_9 : Hid (HX w8.heap.size w9.heap.size w9 (.agg #[.slice aG RW.length bG, .int .i64 RT, .slice cG RN dG]) RW RT RN RE) := hO
  clear hO hb
  have pA0 := A_9.out.c0
  have dA0 : ∀ ob : Obj, (w9.alloc ob).cell? ⟨w.heap.size, 0, none⟩ = some (.slice ya W0.length yc) := fun ob => (A_9.out.keep (bAlloc (Below.refl _ _) ob)).c0
  have pA1 := A_9.out.c1
  have dA1 : ∀ ob : Obj, (w9.alloc ob).cell? ⟨w.heap.size, 1, none⟩ = some (.int .i64 t0) := fun ob => (A_9.out.keep (bAlloc (Below.refl _ _) ob)).c1
  have pA2 := A_9.out.c2
  have dA2 : ∀ ob : Obj, (w9.alloc ob).cell? ⟨w.heap.size, 2, none⟩ = some (.slice za n0 zc) := fun ob => (A_9.out.keep (bAlloc (Below.refl _ _) ob)).c2
  have pB0 := B_9.out.c0
  have dB0 : ∀ ob : Obj, (w9.alloc ob).cell? ⟨(w.heap.size + 1), 0, none⟩ = some (.slice xa s1.length xc) := fun ob => (B_9.out.keep (bAlloc (Below.refl _ _) ob)).c0
  have pB1 := B_9.out.c1
  have dB1 : ∀ ob : Obj, (w9.alloc ob).cell? ⟨(w.heap.size + 1), 1, none⟩ = some (.slice xb d1.length xd) := fun ob => (B_9.out.keep (bAlloc (Below.refl _ _) ob)).c1
  have pQW0 := QW_9.out.c0
  have dQW0 : ∀ ob : Obj, (w9.alloc ob).cell? ⟨gW, 0, none⟩ = some (.slice aW RW.length bW) := fun ob => (QW_9.out.keep (bAlloc (Below.refl _ _) ob)).c0
  have pQW1 := QW_9.out.c1
  have dQW1 : ∀ ob : Obj, (w9.alloc ob).cell? ⟨gW, 1, none⟩ = some (.int .i64 RT) := fun ob => (QW_9.out.keep (bAlloc (Below.refl _ _) ob)).c1
  have pQW2 := QW_9.out.c2
  have dQW2 : ∀ ob : Obj, (w9.alloc ob).cell? ⟨gW, 2, none⟩ = some (.slice cW RN dW) := fun ob => (QW_9.out.keep (bAlloc (Below.refl _ _) ob)).c2
  have pP0 := P_9.out.c0
  have dP0 : ∀ ob : Obj, (w9.alloc ob).cell? ⟨w5.heap.size, 0, none⟩ = some (.slice aX W0.length bX) := fun ob => (P_9.out.keep (bAlloc (Below.refl _ _) ob)).c0
  have pP1 := P_9.out.c1
  have dP1 : ∀ ob : Obj, (w9.alloc ob).cell? ⟨w5.heap.size, 1, none⟩ = some (.int .i64 t0) := fun ob => (P_9.out.keep (bAlloc (Below.refl _ _) ob)).c1
  have pP2 := P_9.out.c2
  have dP2 : ∀ ob : Obj, (w9.alloc ob).cell? ⟨w5.heap.size, 2, none⟩ = some (.slice cX n0 dX) := fun ob => (P_9.out.keep (bAlloc (Below.refl _ _) ob)).c2
  have pR0 := R_9.out.c0
  have dR0 : ∀ ob : Obj, (w9.alloc ob).cell? ⟨w7.heap.size, 0, none⟩ = some (.slice aY s1.length bY) := fun ob => (R_9.out.keep (bAlloc (Below.refl _ _) ob)).c0
  have pR1 := R_9.out.c1
  have dR1 : ∀ ob : Obj, (w9.alloc ob).cell? ⟨w7.heap.size, 1, none⟩ = some (.slice cY d1.length dY) := fun ob => (R_9.out.keep (bAlloc (Below.refl _ _) ob)).c1
  go_wp2_with fail
  clear pA0 pA1 pA2
  clear dA0 dA1 dA2
  clear pB0 pB1
  clear dB0 dB1
  clear pQW0 pQW1 pQW2
  clear dQW0 dQW1 dQW2
  clear pP0 pP1 pP2
  clear dP0 dP1 dP2
  clear pR0 pR1
  clear dR0 dR1
  have hbx : Box3 (w9.alloc (.cells #[.slice aG RW.length bG, .int .i64 RT, .slice cG RN dG] 32)) w9.heap.size (.slice aG RW.length bG) (.int .i64 RT) (.slice cG RN dG) 32 := heap_alloc_new _ _
  have hb : Below w9.heap.size w9 (w9.alloc (.cells #[.slice aG RW.length bG, .int .i64 RT, .slice cG RN dG] 32)) := bAlloc (Below.refl _ _) _
  generalize w9.alloc (.cells #[.slice aG RW.length bG, .int .i64 RT, .slice cG RN dG] 32) = w10 at *
  have SZ10 : Hid (w9.heap.size ≤ w10.heap.size) := hb.size
  have HT10 : Hid (Below w.heap.size w w10) := bTrans HT9.out hb
  have A_10 : Hid (Box3 w10 w.heap.size (.slice ya W0.length yc) (.int .i64 t0) (.slice za n0 zc) 25) := A_9.out.keep hb
  have B_10 : Hid (Box w10 (w.heap.size + 1) (.slice xa s1.length xc) (.slice xb d1.length xd) 27) := B_9.out.keep hb
  have QW_10 : Hid (Box3 w10 gW (.slice aW RW.length bW) (.int .i64 RT) (.slice cW RN dW) 32) := QW_9.out.keep hb
  have W_10 : Hid (HX w3.heap.size w4.heap.size w10 (.agg #[.slice aW RW.length bW, .int .i64 RT, .slice cW RN dW]) RW RT RN RE) := W_9.out.keep hb
  have X_10 : Hid (HP w4.heap.size w5.heap.size w10 (.agg #[.slice aX W0.length bX, .int .i64 t0, .slice cX n0 dX]) W0 t0 n0 E0) := X_9.out.keep hb
  have P_10 : Hid (Box3 w10 w5.heap.size (.slice aX W0.length bX) (.int .i64 t0) (.slice cX n0 dX) 32) := P_9.out.keep hb
  have Y_10 : Hid (Arr w6.heap.size w7.heap.size w10 (.agg #[.slice aY s1.length bY, .slice cY d1.length dY]) s1 d1) := Y_9.out.keep hb
  have R_10 : Hid (Box w10 w7.heap.size (.slice aY s1.length bY) (.slice cY d1.length dY) 36) := R_9.out.keep hb
  have G_10 : Hid (HX w8.heap.size w9.heap.size w10 (.agg #[.slice aG RW.length bG, .int .i64 RT, .slice cG RN dG]) RW RT RN RE) := G_9.out.keep hb
  clear A_9
  clear B_9
  clear QW_9
  clear W_9
  clear X_9
  clear P_9
  clear Y_9
  clear R_9
  clear G_9
  have QG_10 : Hid (Box3 w10 w9.heap.size (.slice aG RW.length bG) (.int .i64 RT) (.slice cG RN dG) 32) := hbx
  have LQG : Hid (w9.heap.size < w10.heap.size) := hbx.lt
  clear hb hbx
  refine (eqHeap_same G_10.out.hi W_10.out.hi LW.out LN.out).mono ?_
  rintro r w11 ⟨rfl, hb⟩
  have SZ11 : Hid (w10.heap.size ≤ w11.heap.size) := hb.size
  have HT11 : Hid (Below w.heap.size w w11) := bTrans HT10.out hb
  have A_11 : Hid (Box3 w11 w.heap.size (.slice ya W0.length yc) (.int .i64 t0) (.slice za n0 zc) 25) := A_10.out.keep hb
  have B_11 : Hid (Box w11 (w.heap.size + 1) (.slice xa s1.length xc) (.slice xb d1.length xd) 27) := B_10.out.keep hb
  have QW_11 : Hid (Box3 w11 gW (.slice aW RW.length bW) (.int .i64 RT) (.slice cW RN dW) 32) := QW_10.out.keep hb
  have W_11 : Hid (HX w3.heap.size w4.heap.size w11 (.agg #[.slice aW RW.length bW, .int .i64 RT, .slice cW RN dW]) RW RT RN RE) := W_10.out.keep hb
  have X_11 : Hid (HP w4.heap.size w5.heap.size w11 (.agg #[.slice aX W0.length bX, .int .i64 t0, .slice cX n0 dX]) W0 t0 n0 E0) := X_10.out.keep hb
  have P_11 : Hid (Box3 w11 w5.heap.size (.slice aX W0.length bX) (.int .i64 t0) (.slice cX n0 dX) 32) := P_10.out.keep hb
  have Y_11 : Hid (Arr w6.heap.size w7.heap.size w11 (.agg #[.slice aY s1.length bY, .slice cY d1.length dY]) s1 d1) := Y_10.out.keep hb
  have R_11 : Hid (Box w11 w7.heap.size (.slice aY s1.length bY) (.slice cY d1.length dY) 36) := R_10.out.keep hb
  have G_11 : Hid (HX w8.heap.size w9.heap.size w11 (.agg #[.slice aG RW.length bG, .int .i64 RT, .slice cG RN dG]) RW RT RN RE) := G_10.out.keep hb
  have QG_11 : Hid (Box3 w11 w9.heap.size (.slice aG RW.length bG) (.int .i64 RT) (.slice cG RN dG) 32) := QG_10.out.keep hb
  clear A_10
  clear B_10
  clear QW_10
  clear W_10
  clear X_10
  clear P_10
  clear Y_10
  clear R_10
  clear G_10
  clear QG_10
  clear hb
  have SK : Hid (∀ W, Below w11.heap.size w11 W → W.cell? ⟨w.heap.size, 0, none⟩ = some (.slice ya W0.length yc) ∧ W.cell? ⟨w.heap.size, 1, none⟩ = some (.int .i64 t0) ∧ W.cell? ⟨w.heap.size, 2, none⟩ = some (.slice za n0 zc) ∧ W.cell? ⟨w5.heap.size, 0, none⟩ = some (.slice aX W0.length bX) ∧ W.cell? ⟨w5.heap.size, 1, none⟩ = some (.int .i64 t0) ∧ W.cell? ⟨w5.heap.size, 2, none⟩ = some (.slice cX n0 dX)) := fun W hb => ⟨(A_11.out.keep hb).c0, (A_11.out.keep hb).c1, (A_11.out.keep hb).c2, (P_11.out.keep hb).c0, (P_11.out.keep hb).c1, (P_11.out.keep hb).c2⟩
  go_wp2_with fail
  go_region_held3 (fun w' => w'.cell? ⟨w.heap.size, 0, none⟩ = some (.slice ya W0.length yc) ∧ w'.cell? ⟨w.heap.size, 1, none⟩ = some (.int .i64 t0) ∧ w'.cell? ⟨w.heap.size, 2, none⟩ = some (.slice za n0 zc) ∧ w'.cell? ⟨w5.heap.size, 0, none⟩ = some (.slice aX W0.length bX) ∧ w'.cell? ⟨w5.heap.size, 1, none⟩ = some (.int .i64 t0) ∧ w'.cell? ⟨w5.heap.size, 2, none⟩ = some (.slice cX n0 dX))
    ((refine SK.out _ ?_; (repeat first | with_reducible exact HBb.out | with_reducible exact HBa.out | with_reducible exact Below.refl _ _ | with_reducible refine Below.drew ?_)))
    (first
      | (go_at_call 8; refine (toHeap_own (H.out.keep (bTrans HT11.out ((Below.refl w11.heap.size w11).drew))) BW.out BN.out).mono ?_; rintro r wa ⟨v3, rfl, hu, hb⟩; have U3 : Hid (HI wa v3 W0 t0 n0 E0) := hu.hi; have HBa : Hid (Below w11.heap.size w11 wa) := bTrans ((Below.refl w11.heap.size w11).drew) hb; clear hu hb)
      | (go_at_call 11; refine (eqHeap_same ((X_11.out.keep HBa.out).hi) U3.out BW.out BN.out).mono ?_; rintro r w12 ⟨rfl, hb⟩; have HBb : Hid (Below w11.heap.size w11 w12) := bTrans HBa.out hb; clear hb))
  all_goals
    clear SK U3 HBa
    have hb := HBb.out
    clear HBb
    have SZ12 : Hid (w11.heap.size ≤ w12.heap.size) := hb.size
    have HT12 : Hid (Below w.heap.size w w12) := bTrans HT11.out hb
    have A_12 : Hid (Box3 w12 w.heap.size (.slice ya W0.length yc) (.int .i64 t0) (.slice za n0 zc) 25) := A_11.out.keep hb
    have B_12 : Hid (Box w12 (w.heap.size + 1) (.slice xa s1.length xc) (.slice xb d1.length xd) 27) := B_11.out.keep hb
    have QW_12 : Hid (Box3 w12 gW (.slice aW RW.length bW) (.int .i64 RT) (.slice cW RN dW) 32) := QW_11.out.keep hb
    have W_12 : Hid (HX w3.heap.size w4.heap.size w12 (.agg #[.slice aW RW.length bW, .int .i64 RT, .slice cW RN dW]) RW RT RN RE) := W_11.out.keep hb
    have X_12 : Hid (HP w4.heap.size w5.heap.size w12 (.agg #[.slice aX W0.length bX, .int .i64 t0, .slice cX n0 dX]) W0 t0 n0 E0) := X_11.out.keep hb
    have P_12 : Hid (Box3 w12 w5.heap.size (.slice aX W0.length bX) (.int .i64 t0) (.slice cX n0 dX) 32) := P_11.out.keep hb
    have Y_12 : Hid (Arr w6.heap.size w7.heap.size w12 (.agg #[.slice aY s1.length bY, .slice cY d1.length dY]) s1 d1) := Y_11.out.keep hb
    have R_12 : Hid (Box w12 w7.heap.size (.slice aY s1.length bY) (.slice cY d1.length dY) 36) := R_11.out.keep hb
    have G_12 : Hid (HX w8.heap.size w9.heap.size w12 (.agg #[.slice aG RW.length bG, .int .i64 RT, .slice cG RN dG]) RW RT RN RE) := G_11.out.keep hb
    have QG_12 : Hid (Box3 w12 w9.heap.size (.slice aG RW.length bG) (.int .i64 RT) (.slice cG RN dG) 32) := QG_11.out.keep hb
    clear A_11
    clear B_11
    clear QW_11
    clear W_11
    clear X_11
    clear P_11
    clear Y_11
    clear R_11
    clear G_11
    clear QG_11
    clear hb
    have SK : Hid (∀ W, Below w12.heap.size w12 W → W.cell? ⟨(w.heap.size + 1), 0, none⟩ = some (.slice xa s1.length xc) ∧ W.cell? ⟨(w.heap.size + 1), 1, none⟩ = some (.slice xb d1.length xd) ∧ W.cell? ⟨w7.heap.size, 0, none⟩ = some (.slice aY s1.length bY) ∧ W.cell? ⟨w7.heap.size, 1, none⟩ = some (.slice cY d1.length dY)) := fun W hb => ⟨(B_12.out.keep hb).c0, (B_12.out.keep hb).c1, (R_12.out.keep hb).c0, (R_12.out.keep hb).c1⟩
    go_wp2_with fail
    go_region_held3 (fun w' => w'.cell? ⟨(w.heap.size + 1), 0, none⟩ = some (.slice xa s1.length xc) ∧ w'.cell? ⟨(w.heap.size + 1), 1, none⟩ = some (.slice xb d1.length xd) ∧ w'.cell? ⟨w7.heap.size, 0, none⟩ = some (.slice aY s1.length bY) ∧ w'.cell? ⟨w7.heap.size, 1, none⟩ = some (.slice cY d1.length dY))
      ((refine SK.out _ ?_; (repeat first | with_reducible exact HBb.out | with_reducible exact HBa.out | with_reducible exact Below.refl _ _ | with_reducible refine Below.drew ?_)))
      (first
        | (go_at_call 9; refine (to_arr (HA.out.keep (bTrans HT12.out ((Below.refl w12.heap.size w12).drew))) BS.out BD.out).mono ?_; rintro r wa ⟨v3, rfl, hu, hb⟩; have U3 : Hid (ArrI wa v3 s1 d1) := hu.arrI; have HBa : Hid (Below w12.heap.size w12 wa) := bTrans ((Below.refl w12.heap.size w12).drew) hb; clear hu hb)
        | (go_at_call 12; refine (eq_arr ((Y_12.out.keep HBa.out).arrI) U3.out BS.out BD.out).mono ?_; rintro r w13 ⟨rfl, hb⟩; simp only [decide_true, Bool.and_self]; have HBb : Hid (Below w12.heap.size w12 w13) := bTrans HBa.out hb; clear hb))
    all_goals
      clear SK U3 HBa
      have hb := HBb.out
      clear HBb
      have SZ13 : Hid (w12.heap.size ≤ w13.heap.size) := hb.size
      have HT13 : Hid (Below w.heap.size w w13) := bTrans HT12.out hb
      have A_13 : Hid (Box3 w13 w.heap.size (.slice ya W0.length yc) (.int .i64 t0) (.slice za n0 zc) 25) := A_12.out.keep hb
      have B_13 : Hid (Box w13 (w.heap.size + 1) (.slice xa s1.length xc) (.slice xb d1.length xd) 27) := B_12.out.keep hb
      have QW_13 : Hid (Box3 w13 gW (.slice aW RW.length bW) (.int .i64 RT) (.slice cW RN dW) 32) := QW_12.out.keep hb
      have W_13 : Hid (HX w3.heap.size w4.heap.size w13 (.agg #[.slice aW RW.length bW, .int .i64 RT, .slice cW RN dW]) RW RT RN RE) := W_12.out.keep hb
      have X_13 : Hid (HP w4.heap.size w5.heap.size w13 (.agg #[.slice aX W0.length bX, .int .i64 t0, .slice cX n0 dX]) W0 t0 n0 E0) := X_12.out.keep hb
      have P_13 : Hid (Box3 w13 w5.heap.size (.slice aX W0.length bX) (.int .i64 t0) (.slice cX n0 dX) 32) := P_12.out.keep hb
      have Y_13 : Hid (Arr w6.heap.size w7.heap.size w13 (.agg #[.slice aY s1.length bY, .slice cY d1.length dY]) s1 d1) := Y_12.out.keep hb
      have R_13 : Hid (Box w13 w7.heap.size (.slice aY s1.length bY) (.slice cY d1.length dY) 36) := R_12.out.keep hb
      have G_13 : Hid (HX w8.heap.size w9.heap.size w13 (.agg #[.slice aG RW.length bG, .int .i64 RT, .slice cG RN dG]) RW RT RN RE) := G_12.out.keep hb
      have QG_13 : Hid (Box3 w13 w9.heap.size (.slice aG RW.length bG) (.int .i64 RT) (.slice cG RN dG) 32) := QG_12.out.keep hb
      clear A_12
      clear B_12
      clear QW_12
      clear W_12
      clear X_12
      clear P_12
      clear Y_12
      clear R_12
      clear G_12
      clear QG_12
      clear hb
      have pA0 := A_13.out.c0
      have pA1 := A_13.out.c1
      have pA2 := A_13.out.c2
      have pB0 := B_13.out.c0
      have pB1 := B_13.out.c1
      have pQW0 := QW_13.out.c0
      have pQW1 := QW_13.out.c1
      have pQW2 := QW_13.out.c2
      have pP0 := P_13.out.c0
      have pP1 := P_13.out.c1
      have pP2 := P_13.out.c2
      have pR0 := R_13.out.c0
      have pR1 := R_13.out.c1
      have pQG0 := QG_13.out.c0
      have pQG1 := QG_13.out.c1
      have pQG2 := QG_13.out.c2
      go_wp2_with fail
      refine (markHeap_own X_13.out (by have := SZ1.out; have := LB.out; have := SZ2.out; have := SZ3.out; have := SZ4.out; have := LQW.out; have := SZ5.out; have := SZ6.out; have := LP.out; have := SZ7.out; have := SZ8.out; have := LR.out; have := SZ9.out; have := SZ10.out; have := LQG.out; have := SZ11.out; have := SZ12.out; have := SZ13.out; omega) BW.out BN.out 1 (by decide) (by decide)).mono ?_
      rintro r w14 ⟨rfl, _, hw⟩
      clear pA0 pA1 pA2
      clear pB0 pB1
      clear pQW0 pQW1 pQW2
      clear pP0 pP1 pP2
      clear pR0 pR1
      clear pQG0 pQG1 pQG2
      have SZ14 : Hid (w13.heap.size ≤ w14.heap.size) := hw.size
      have HT14 : Hid (Below w.heap.size w w14) := HT13.out.trans (hw.below (by have := SZ1.out; have := LB.out; have := SZ2.out; have := SZ3.out; have := SZ4.out; have := LQW.out; have := SZ5.out; have := SZ6.out; have := LP.out; have := SZ7.out; have := SZ8.out; have := LR.out; have := SZ9.out; have := SZ10.out; have := LQG.out; have := SZ11.out; have := SZ12.out; have := SZ13.out; omega) HT13.out.size)
      have A_14 : Hid (Box3 w14 w.heap.size (.slice ya W0.length yc) (.int .i64 t0) (.slice za n0 zc) 25) := A_13.out.win hw (by have := SZ1.out; have := LB.out; have := SZ2.out; have := SZ3.out; have := SZ4.out; have := LQW.out; have := SZ5.out; have := SZ6.out; have := LP.out; have := SZ7.out; have := SZ8.out; have := LR.out; have := SZ9.out; have := SZ10.out; have := LQG.out; have := SZ11.out; have := SZ12.out; have := SZ13.out; omega)
      have B_14 : Hid (Box w14 (w.heap.size + 1) (.slice xa s1.length xc) (.slice xb d1.length xd) 27) := B_13.out.win hw (by have := SZ1.out; have := LB.out; have := SZ2.out; have := SZ3.out; have := SZ4.out; have := LQW.out; have := SZ5.out; have := SZ6.out; have := LP.out; have := SZ7.out; have := SZ8.out; have := LR.out; have := SZ9.out; have := SZ10.out; have := LQG.out; have := SZ11.out; have := SZ12.out; have := SZ13.out; omega)
      have QW_14 : Hid (Box3 w14 gW (.slice aW RW.length bW) (.int .i64 RT) (.slice cW RN dW) 32) := QW_13.out.win hw (by have := SZ1.out; have := LB.out; have := SZ2.out; have := SZ3.out; have := SZ4.out; have := LQW.out; have := SZ5.out; have := SZ6.out; have := LP.out; have := SZ7.out; have := SZ8.out; have := LR.out; have := SZ9.out; have := SZ10.out; have := LQG.out; have := SZ11.out; have := SZ12.out; have := SZ13.out; omega)
      have W_14 : Hid (HX w3.heap.size w4.heap.size w14 (.agg #[.slice aW RW.length bW, .int .i64 RT, .slice cW RN dW]) RW RT RN RE) := W_13.out.win hw (by have := SZ1.out; have := LB.out; have := SZ2.out; have := SZ3.out; have := SZ4.out; have := LQW.out; have := SZ5.out; have := SZ6.out; have := LP.out; have := SZ7.out; have := SZ8.out; have := LR.out; have := SZ9.out; have := SZ10.out; have := LQG.out; have := SZ11.out; have := SZ12.out; have := SZ13.out; omega)
      have P_14 : Hid (Box3 w14 w5.heap.size (.slice aX W0.length bX) (.int .i64 t0) (.slice cX n0 dX) 32) := P_13.out.win hw (by have := SZ1.out; have := LB.out; have := SZ2.out; have := SZ3.out; have := SZ4.out; have := LQW.out; have := SZ5.out; have := SZ6.out; have := LP.out; have := SZ7.out; have := SZ8.out; have := LR.out; have := SZ9.out; have := SZ10.out; have := LQG.out; have := SZ11.out; have := SZ12.out; have := SZ13.out; omega)
      have Y_14 : Hid (Arr w6.heap.size w7.heap.size w14 (.agg #[.slice aY s1.length bY, .slice cY d1.length dY]) s1 d1) := Y_13.out.win hw (by have := SZ1.out; have := LB.out; have := SZ2.out; have := SZ3.out; have := SZ4.out; have := LQW.out; have := SZ5.out; have := SZ6.out; have := LP.out; have := SZ7.out; have := SZ8.out; have := LR.out; have := SZ9.out; have := SZ10.out; have := LQG.out; have := SZ11.out; have := SZ12.out; have := SZ13.out; omega)
      have R_14 : Hid (Box w14 w7.heap.size (.slice aY s1.length bY) (.slice cY d1.length dY) 36) := R_13.out.win hw (by have := SZ1.out; have := LB.out; have := SZ2.out; have := SZ3.out; have := SZ4.out; have := LQW.out; have := SZ5.out; have := SZ6.out; have := LP.out; have := SZ7.out; have := SZ8.out; have := LR.out; have := SZ9.out; have := SZ10.out; have := LQG.out; have := SZ11.out; have := SZ12.out; have := SZ13.out; omega)
      have G_14 : Hid (HX w8.heap.size w9.heap.size w14 (.agg #[.slice aG RW.length bG, .int .i64 RT, .slice cG RN dG]) RW RT RN RE) := G_13.out.win hw (by have := SZ1.out; have := LB.out; have := SZ2.out; have := SZ3.out; have := SZ4.out; have := LQW.out; have := SZ5.out; have := SZ6.out; have := LP.out; have := SZ7.out; have := SZ8.out; have := LR.out; have := SZ9.out; have := SZ10.out; have := LQG.out; have := SZ11.out; have := SZ12.out; have := SZ13.out; omega)
      have QG_14 : Hid (Box3 w14 w9.heap.size (.slice aG RW.length bG) (.int .i64 RT) (.slice cG RN dG) 32) := QG_13.out.win hw (by have := SZ1.out; have := LB.out; have := SZ2.out; have := SZ3.out; have := SZ4.out; have := LQW.out; have := SZ5.out; have := SZ6.out; have := LP.out; have := SZ7.out; have := SZ8.out; have := LR.out; have := SZ9.out; have := SZ10.out; have := LQG.out; have := SZ11.out; have := SZ12.out; have := SZ13.out; omega)
      clear A_13
      clear B_13
      clear QW_13
      clear W_13
      clear X_13
      clear P_13
      clear Y_13
      clear R_13
      clear G_13
      clear QG_13
      clear hw
      have k1 : 0 ≤ (1 + ((W0.length + 3 * n0 : Nat) : Int)) := by omega
      have k2 : (1 + ((W0.length + 3 * n0 : Nat) : Int)) ≤ 4194305 := by have := BW.out; have := BN.out; omega
      generalize (1 + ((W0.length + 3 * n0 : Nat) : Int)) = KK at *
      have pA0 := A_14.out.c0
      have pA1 := A_14.out.c1
      have pA2 := A_14.out.c2
      have pB0 := B_14.out.c0
      have pB1 := B_14.out.c1
      have pQW0 := QW_14.out.c0
      have pQW1 := QW_14.out.c1
      have pQW2 := QW_14.out.c2
      have pP0 := P_14.out.c0
      have pP1 := P_14.out.c1
      have pP2 := P_14.out.c2
      have pR0 := R_14.out.c0
      have pR1 := R_14.out.c1
      have pQG0 := QG_14.out.c0
      have pQG1 := QG_14.out.c1
      have pQG2 := QG_14.out.c2
      go_wp2_with fail
      refine (mark_arr Y_14.out BS.out BD.out KK k1 (by omega)).mono ?_
      rintro r w15 ⟨rfl, _, hw⟩
      clear pA0 pA1 pA2
      clear pB0 pB1
      clear pQW0 pQW1 pQW2
      clear pP0 pP1 pP2
      clear pR0 pR1
      clear pQG0 pQG1 pQG2
      have SZ15 : Hid (w14.heap.size ≤ w15.heap.size) := hw.size
      have HT15 : Hid (Below w.heap.size w w15) := HT14.out.trans (hw.below (by have := SZ1.out; have := LB.out; have := SZ2.out; have := SZ3.out; have := SZ4.out; have := LQW.out; have := SZ5.out; have := SZ6.out; have := LP.out; have := SZ7.out; have := SZ8.out; have := LR.out; have := SZ9.out; have := SZ10.out; have := LQG.out; have := SZ11.out; have := SZ12.out; have := SZ13.out; have := SZ14.out; omega) HT14.out.size)
      have A_15 : Hid (Box3 w15 w.heap.size (.slice ya W0.length yc) (.int .i64 t0) (.slice za n0 zc) 25) := A_14.out.win hw (by have := SZ1.out; have := LB.out; have := SZ2.out; have := SZ3.out; have := SZ4.out; have := LQW.out; have := SZ5.out; have := SZ6.out; have := LP.out; have := SZ7.out; have := SZ8.out; have := LR.out; have := SZ9.out; have := SZ10.out; have := LQG.out; have := SZ11.out; have := SZ12.out; have := SZ13.out; have := SZ14.out; omega)
      have B_15 : Hid (Box w15 (w.heap.size + 1) (.slice xa s1.length xc) (.slice xb d1.length xd) 27) := B_14.out.win hw (by have := SZ1.out; have := LB.out; have := SZ2.out; have := SZ3.out; have := SZ4.out; have := LQW.out; have := SZ5.out; have := SZ6.out; have := LP.out; have := SZ7.out; have := SZ8.out; have := LR.out; have := SZ9.out; have := SZ10.out; have := LQG.out; have := SZ11.out; have := SZ12.out; have := SZ13.out; have := SZ14.out; omega)
      have QW_15 : Hid (Box3 w15 gW (.slice aW RW.length bW) (.int .i64 RT) (.slice cW RN dW) 32) := QW_14.out.win hw (by have := SZ1.out; have := LB.out; have := SZ2.out; have := SZ3.out; have := SZ4.out; have := LQW.out; have := SZ5.out; have := SZ6.out; have := LP.out; have := SZ7.out; have := SZ8.out; have := LR.out; have := SZ9.out; have := SZ10.out; have := LQG.out; have := SZ11.out; have := SZ12.out; have := SZ13.out; have := SZ14.out; omega)
      have W_15 : Hid (HX w3.heap.size w4.heap.size w15 (.agg #[.slice aW RW.length bW, .int .i64 RT, .slice cW RN dW]) RW RT RN RE) := W_14.out.win hw (by have := SZ1.out; have := LB.out; have := SZ2.out; have := SZ3.out; have := SZ4.out; have := LQW.out; have := SZ5.out; have := SZ6.out; have := LP.out; have := SZ7.out; have := SZ8.out; have := LR.out; have := SZ9.out; have := SZ10.out; have := LQG.out; have := SZ11.out; have := SZ12.out; have := SZ13.out; have := SZ14.out; omega)
      have P_15 : Hid (Box3 w15 w5.heap.size (.slice aX W0.length bX) (.int .i64 t0) (.slice cX n0 dX) 32) := P_14.out.win hw (by have := SZ1.out; have := LB.out; have := SZ2.out; have := SZ3.out; have := SZ4.out; have := LQW.out; have := SZ5.out; have := SZ6.out; have := LP.out; have := SZ7.out; have := SZ8.out; have := LR.out; have := SZ9.out; have := SZ10.out; have := LQG.out; have := SZ11.out; have := SZ12.out; have := SZ13.out; have := SZ14.out; omega)
      have R_15 : Hid (Box w15 w7.heap.size (.slice aY s1.length bY) (.slice cY d1.length dY) 36) := R_14.out.win hw (by have := SZ1.out; have := LB.out; have := SZ2.out; have := SZ3.out; have := SZ4.out; have := LQW.out; have := SZ5.out; have := SZ6.out; have := LP.out; have := SZ7.out; have := SZ8.out; have := LR.out; have := SZ9.out; have := SZ10.out; have := LQG.out; have := SZ11.out; have := SZ12.out; have := SZ13.out; have := SZ14.out; omega)
      have G_15 : Hid (HX w8.heap.size w9.heap.size w15 (.agg #[.slice aG RW.length bG, .int .i64 RT, .slice cG RN dG]) RW RT RN RE) := G_14.out.win hw (by have := SZ1.out; have := LB.out; have := SZ2.out; have := SZ3.out; have := SZ4.out; have := LQW.out; have := SZ5.out; have := SZ6.out; have := LP.out; have := SZ7.out; have := SZ8.out; have := LR.out; have := SZ9.out; have := SZ10.out; have := LQG.out; have := SZ11.out; have := SZ12.out; have := SZ13.out; have := SZ14.out; omega)
      have QG_15 : Hid (Box3 w15 w9.heap.size (.slice aG RW.length bG) (.int .i64 RT) (.slice cG RN dG) 32) := QG_14.out.win hw (by have := SZ1.out; have := LB.out; have := SZ2.out; have := SZ3.out; have := SZ4.out; have := LQW.out; have := SZ5.out; have := SZ6.out; have := LP.out; have := SZ7.out; have := SZ8.out; have := LR.out; have := SZ9.out; have := SZ10.out; have := LQG.out; have := SZ11.out; have := SZ12.out; have := SZ13.out; have := SZ14.out; omega)
      clear A_14
      clear B_14
      clear QW_14
      clear W_14
      clear P_14
      clear Y_14
      clear R_14
      clear G_14
      clear QG_14
      clear hw
      have kn : ¬ (KK + (s1.length : Int) + (d1.length : Int) < 0) := by omega
      generalize (KK + (s1.length : Int) + (d1.length : Int)) = K2 at *
      have pA0 := A_15.out.c0
      have pA1 := A_15.out.c1
      have pA2 := A_15.out.c2
      have pB0 := B_15.out.c0
      have pB1 := B_15.out.c1
      have pQW0 := QW_15.out.c0
      have pQW1 := QW_15.out.c1
      have pQW2 := QW_15.out.c2
      have pP0 := P_15.out.c0
      have pP1 := P_15.out.c1
      have pP2 := P_15.out.c2
      have pR0 := R_15.out.c0
      have pR1 := R_15.out.c1
      have pQG0 := QG_15.out.c0
      have pQG1 := QG_15.out.c1
      have pQG2 := QG_15.out.c2
      go_wp2_with fail
      refine (eqHeap_same G_15.out.hi W_15.out.hi LW.out LN.out).mono ?_
      rintro r w16 ⟨rfl, hb⟩
      clear pA0 pA1 pA2
      clear pB0 pB1
      clear pQW0 pQW1 pQW2
      clear pP0 pP1 pP2
      clear pR0 pR1
      clear pQG0 pQG1 pQG2
      have SZ16 : Hid (w15.heap.size ≤ w16.heap.size) := hb.size
      have HT16 : Hid (Below w.heap.size w w16) := bTrans HT15.out hb
      have A_16 : Hid (Box3 w16 w.heap.size (.slice ya W0.length yc) (.int .i64 t0) (.slice za n0 zc) 25) := A_15.out.keep hb
      have B_16 : Hid (Box w16 (w.heap.size + 1) (.slice xa s1.length xc) (.slice xb d1.length xd) 27) := B_15.out.keep hb
      have QW_16 : Hid (Box3 w16 gW (.slice aW RW.length bW) (.int .i64 RT) (.slice cW RN dW) 32) := QW_15.out.keep hb
      have W_16 : Hid (HX w3.heap.size w4.heap.size w16 (.agg #[.slice aW RW.length bW, .int .i64 RT, .slice cW RN dW]) RW RT RN RE) := W_15.out.keep hb
      have P_16 : Hid (Box3 w16 w5.heap.size (.slice aX W0.length bX) (.int .i64 t0) (.slice cX n0 dX) 32) := P_15.out.keep hb
      have R_16 : Hid (Box w16 w7.heap.size (.slice aY s1.length bY) (.slice cY d1.length dY) 36) := R_15.out.keep hb
      have G_16 : Hid (HX w8.heap.size w9.heap.size w16 (.agg #[.slice aG RW.length bG, .int .i64 RT, .slice cG RN dG]) RW RT RN RE) := G_15.out.keep hb
      have QG_16 : Hid (Box3 w16 w9.heap.size (.slice aG RW.length bG) (.int .i64 RT) (.slice cG RN dG) 32) := QG_15.out.keep hb
      clear A_15
      clear B_15
      clear QW_15
      clear W_15
      clear P_15
      clear R_15
      clear G_15
      clear QG_15
      clear hb
      have pA0 := A_16.out.c0
      have pA1 := A_16.out.c1
      have pA2 := A_16.out.c2
      have pB0 := B_16.out.c0
      have pB1 := B_16.out.c1
      have pQW0 := QW_16.out.c0
      have pQW1 := QW_16.out.c1
      have pQW2 := QW_16.out.c2
      have pP0 := P_16.out.c0
      have pP1 := P_16.out.c1
      have pP2 := P_16.out.c2
      have pR0 := R_16.out.c0
      have pR1 := R_16.out.c1
      have pQG0 := QG_16.out.c0
      have pQG1 := QG_16.out.c1
      have pQG2 := QG_16.out.c2
      go_wp2_with fail
      refine (markHX_own G_16.out (by have := SZ1.out; have := LB.out; have := SZ2.out; have := SZ3.out; have := SZ4.out; have := LQW.out; have := SZ5.out; have := SZ6.out; have := LP.out; have := SZ7.out; have := SZ8.out; have := LR.out; have := SZ9.out; have := SZ10.out; have := LQG.out; have := SZ11.out; have := SZ12.out; have := SZ13.out; have := SZ14.out; have := SZ15.out; have := SZ16.out; omega) LW.out LN.out 1 (by decide) (by decide)).mono ?_
      rintro r w17 ⟨rfl, hG, hw⟩
      clear pA0 pA1 pA2
      clear pB0 pB1
      clear pQW0 pQW1 pQW2
      clear pP0 pP1 pP2
      clear pR0 pR1
      clear pQG0 pQG1 pQG2
      have SZ17 : Hid (w16.heap.size ≤ w17.heap.size) := hw.size
      have HT17 : Hid (Below w.heap.size w w17) := HT16.out.trans (hw.below (by have := SZ1.out; have := LB.out; have := SZ2.out; have := SZ3.out; have := SZ4.out; have := LQW.out; have := SZ5.out; have := SZ6.out; have := LP.out; have := SZ7.out; have := SZ8.out; have := LR.out; have := SZ9.out; have := SZ10.out; have := LQG.out; have := SZ11.out; have := SZ12.out; have := SZ13.out; have := SZ14.out; have := SZ15.out; have := SZ16.out; omega) HT16.out.size)
      have A_17 : Hid (Box3 w17 w.heap.size (.slice ya W0.length yc) (.int .i64 t0) (.slice za n0 zc) 25) := A_16.out.win hw (by have := SZ1.out; have := LB.out; have := SZ2.out; have := SZ3.out; have := SZ4.out; have := LQW.out; have := SZ5.out; have := SZ6.out; have := LP.out; have := SZ7.out; have := SZ8.out; have := LR.out; have := SZ9.out; have := SZ10.out; have := LQG.out; have := SZ11.out; have := SZ12.out; have := SZ13.out; have := SZ14.out; have := SZ15.out; have := SZ16.out; omega)
      have B_17 : Hid (Box w17 (w.heap.size + 1) (.slice xa s1.length xc) (.slice xb d1.length xd) 27) := B_16.out.win hw (by have := SZ1.out; have := LB.out; have := SZ2.out; have := SZ3.out; have := SZ4.out; have := LQW.out; have := SZ5.out; have := SZ6.out; have := LP.out; have := SZ7.out; have := SZ8.out; have := LR.out; have := SZ9.out; have := SZ10.out; have := LQG.out; have := SZ11.out; have := SZ12.out; have := SZ13.out; have := SZ14.out; have := SZ15.out; have := SZ16.out; omega)
      have QW_17 : Hid (Box3 w17 gW (.slice aW RW.length bW) (.int .i64 RT) (.slice cW RN dW) 32) := QW_16.out.win hw (by have := SZ1.out; have := LB.out; have := SZ2.out; have := SZ3.out; have := SZ4.out; have := LQW.out; have := SZ5.out; have := SZ6.out; have := LP.out; have := SZ7.out; have := SZ8.out; have := LR.out; have := SZ9.out; have := SZ10.out; have := LQG.out; have := SZ11.out; have := SZ12.out; have := SZ13.out; have := SZ14.out; have := SZ15.out; have := SZ16.out; omega)
      have W_17 : Hid (HX w3.heap.size w4.heap.size w17 (.agg #[.slice aW RW.length bW, .int .i64 RT, .slice cW RN dW]) RW RT RN RE) := W_16.out.win hw (by have := SZ1.out; have := LB.out; have := SZ2.out; have := SZ3.out; have := SZ4.out; have := LQW.out; have := SZ5.out; have := SZ6.out; have := LP.out; have := SZ7.out; have := SZ8.out; have := LR.out; have := SZ9.out; have := SZ10.out; have := LQG.out; have := SZ11.out; have := SZ12.out; have := SZ13.out; have := SZ14.out; have := SZ15.out; have := SZ16.out; omega)
      have P_17 : Hid (Box3 w17 w5.heap.size (.slice aX W0.length bX) (.int .i64 t0) (.slice cX n0 dX) 32) := P_16.out.win hw (by have := SZ1.out; have := LB.out; have := SZ2.out; have := SZ3.out; have := SZ4.out; have := LQW.out; have := SZ5.out; have := SZ6.out; have := LP.out; have := SZ7.out; have := SZ8.out; have := LR.out; have := SZ9.out; have := SZ10.out; have := LQG.out; have := SZ11.out; have := SZ12.out; have := SZ13.out; have := SZ14.out; have := SZ15.out; have := SZ16.out; omega)
      have R_17 : Hid (Box w17 w7.heap.size (.slice aY s1.length bY) (.slice cY d1.length dY) 36) := R_16.out.win hw (by have := SZ1.out; have := LB.out; have := SZ2.out; have := SZ3.out; have := SZ4.out; have := LQW.out; have := SZ5.out; have := SZ6.out; have := LP.out; have := SZ7.out; have := SZ8.out; have := LR.out; have := SZ9.out; have := SZ10.out; have := LQG.out; have := SZ11.out; have := SZ12.out; have := SZ13.out; have := SZ14.out; have := SZ15.out; have := SZ16.out; omega)
      have QG_17 : Hid (Box3 w17 w9.heap.size (.slice aG RW.length bG) (.int .i64 RT) (.slice cG RN dG) 32) := QG_16.out.win hw (by have := SZ1.out; have := LB.out; have := SZ2.out; have := SZ3.out; have := SZ4.out; have := LQW.out; have := SZ5.out; have := SZ6.out; have := LP.out; have := SZ7.out; have := SZ8.out; have := LR.out; have := SZ9.out; have := SZ10.out; have := LQG.out; have := SZ11.out; have := SZ12.out; have := SZ13.out; have := SZ14.out; have := SZ15.out; have := SZ16.out; omega)
      clear A_16
      clear B_16
      clear QW_16
      clear W_16
      clear P_16
      clear R_16
      clear G_16
      clear QG_16
      have G_17 : Hid (HX w8.heap.size w9.heap.size w17 (.agg #[.slice aG RW.length bG, .int .i64 RT, .slice cG RN dG]) (upFrom 1 RW.length) RT RN (mkC (1 + RW.length))) := hG
      clear hG hw
      have qn : ¬ (1 + ((RW.length + 3 * RN : Nat) : Int) < 0) := by omega
      have qm : ((1 + ((RW.length + 3 * RN : Nat) : Int)) != (1 + ((RW.length + 3 * RN : Nat) : Int))) = false := by simp
      have pA0 := A_17.out.c0
      have pA1 := A_17.out.c1
      have pA2 := A_17.out.c2
      have pB0 := B_17.out.c0
      have pB1 := B_17.out.c1
      have pQW0 := QW_17.out.c0
      have pQW1 := QW_17.out.c1
      have pQW2 := QW_17.out.c2
      have pP0 := P_17.out.c0
      have pP1 := P_17.out.c1
      have pP2 := P_17.out.c2
      have pR0 := R_17.out.c0
      have pR1 := R_17.out.c1
      have pQG0 := QG_17.out.c0
      have pQG1 := QG_17.out.c1
      have pQG2 := QG_17.out.c2
      go_wp2_with fail
      refine (heldHX_own 1 G_17.out LW.out LN.out (by decide) (by decide)).mono ?_
      rintro r w18 ⟨rfl, hb⟩
      clear pA0 pA1 pA2
      clear pB0 pB1
      clear pQW0 pQW1 pQW2
      clear pP0 pP1 pP2
      clear pR0 pR1
      clear pQG0 pQG1 pQG2
      have SZ18 : Hid (w17.heap.size ≤ w18.heap.size) := hb.size
      have HT18 : Hid (Below w.heap.size w w18) := bTrans HT17.out hb
      have A_18 : Hid (Box3 w18 w.heap.size (.slice ya W0.length yc) (.int .i64 t0) (.slice za n0 zc) 25) := A_17.out.keep hb
      have B_18 : Hid (Box w18 (w.heap.size + 1) (.slice xa s1.length xc) (.slice xb d1.length xd) 27) := B_17.out.keep hb
      have QW_18 : Hid (Box3 w18 gW (.slice aW RW.length bW) (.int .i64 RT) (.slice cW RN dW) 32) := QW_17.out.keep hb
      have W_18 : Hid (HX w3.heap.size w4.heap.size w18 (.agg #[.slice aW RW.length bW, .int .i64 RT, .slice cW RN dW]) RW RT RN RE) := W_17.out.keep hb
      have P_18 : Hid (Box3 w18 w5.heap.size (.slice aX W0.length bX) (.int .i64 t0) (.slice cX n0 dX) 32) := P_17.out.keep hb
      have R_18 : Hid (Box w18 w7.heap.size (.slice aY s1.length bY) (.slice cY d1.length dY) 36) := R_17.out.keep hb
      have QG_18 : Hid (Box3 w18 w9.heap.size (.slice aG RW.length bG) (.int .i64 RT) (.slice cG RN dG) 32) := QG_17.out.keep hb
      have G_18 : Hid (HX w8.heap.size w9.heap.size w18 (.agg #[.slice aG RW.length bG, .int .i64 RT, .slice cG RN dG]) (upFrom 1 RW.length) RT RN (mkC (1 + RW.length))) := G_17.out.keep hb
      clear A_17
      clear B_17
      clear QW_17
      clear W_17
      clear P_17
      clear R_17
      clear QG_17
      clear G_17
      clear hb
      have SK : Hid (∀ W, Below w18.heap.size w18 W → W.cell? ⟨w.heap.size, 0, none⟩ = some (.slice ya W0.length yc) ∧ W.cell? ⟨w.heap.size, 1, none⟩ = some (.int .i64 t0) ∧ W.cell? ⟨w.heap.size, 2, none⟩ = some (.slice za n0 zc) ∧ W.cell? ⟨(w.heap.size + 1), 0, none⟩ = some (.slice xa s1.length xc) ∧ W.cell? ⟨(w.heap.size + 1), 1, none⟩ = some (.slice xb d1.length xd)) := fun W hb => ⟨(A_18.out.keep hb).c0, (A_18.out.keep hb).c1, (A_18.out.keep hb).c2, (B_18.out.keep hb).c0, (B_18.out.keep hb).c1⟩
      have pA0 := A_18.out.c0
      have dA0 : ∀ ob : Obj, (w18.alloc ob).cell? ⟨w.heap.size, 0, none⟩ = some (.slice ya W0.length yc) := fun ob => (A_18.out.keep (bAlloc (Below.refl _ _) ob)).c0
      have pA1 := A_18.out.c1
      have dA1 : ∀ ob : Obj, (w18.alloc ob).cell? ⟨w.heap.size, 1, none⟩ = some (.int .i64 t0) := fun ob => (A_18.out.keep (bAlloc (Below.refl _ _) ob)).c1
      have pA2 := A_18.out.c2
      have dA2 : ∀ ob : Obj, (w18.alloc ob).cell? ⟨w.heap.size, 2, none⟩ = some (.slice za n0 zc) := fun ob => (A_18.out.keep (bAlloc (Below.refl _ _) ob)).c2
      have pB0 := B_18.out.c0
      have dB0 : ∀ ob : Obj, (w18.alloc ob).cell? ⟨(w.heap.size + 1), 0, none⟩ = some (.slice xa s1.length xc) := fun ob => (B_18.out.keep (bAlloc (Below.refl _ _) ob)).c0
      have pB1 := B_18.out.c1
      have dB1 : ∀ ob : Obj, (w18.alloc ob).cell? ⟨(w.heap.size + 1), 1, none⟩ = some (.slice xb d1.length xd) := fun ob => (B_18.out.keep (bAlloc (Below.refl _ _) ob)).c1
      have pQW0 := QW_18.out.c0
      have dQW0 : ∀ ob : Obj, (w18.alloc ob).cell? ⟨gW, 0, none⟩ = some (.slice aW RW.length bW) := fun ob => (QW_18.out.keep (bAlloc (Below.refl _ _) ob)).c0
      have pQW1 := QW_18.out.c1
      have dQW1 : ∀ ob : Obj, (w18.alloc ob).cell? ⟨gW, 1, none⟩ = some (.int .i64 RT) := fun ob => (QW_18.out.keep (bAlloc (Below.refl _ _) ob)).c1
      have pQW2 := QW_18.out.c2
      have dQW2 : ∀ ob : Obj, (w18.alloc ob).cell? ⟨gW, 2, none⟩ = some (.slice cW RN dW) := fun ob => (QW_18.out.keep (bAlloc (Below.refl _ _) ob)).c2
      have pP0 := P_18.out.c0
      have dP0 : ∀ ob : Obj, (w18.alloc ob).cell? ⟨w5.heap.size, 0, none⟩ = some (.slice aX W0.length bX) := fun ob => (P_18.out.keep (bAlloc (Below.refl _ _) ob)).c0
      have pP1 := P_18.out.c1
      have dP1 : ∀ ob : Obj, (w18.alloc ob).cell? ⟨w5.heap.size, 1, none⟩ = some (.int .i64 t0) := fun ob => (P_18.out.keep (bAlloc (Below.refl _ _) ob)).c1
      have pP2 := P_18.out.c2
      have dP2 : ∀ ob : Obj, (w18.alloc ob).cell? ⟨w5.heap.size, 2, none⟩ = some (.slice cX n0 dX) := fun ob => (P_18.out.keep (bAlloc (Below.refl _ _) ob)).c2
      have pR0 := R_18.out.c0
      have dR0 : ∀ ob : Obj, (w18.alloc ob).cell? ⟨w7.heap.size, 0, none⟩ = some (.slice aY s1.length bY) := fun ob => (R_18.out.keep (bAlloc (Below.refl _ _) ob)).c0
      have pR1 := R_18.out.c1
      have dR1 : ∀ ob : Obj, (w18.alloc ob).cell? ⟨w7.heap.size, 1, none⟩ = some (.slice cY d1.length dY) := fun ob => (R_18.out.keep (bAlloc (Below.refl _ _) ob)).c1
      have pQG0 := QG_18.out.c0
      have dQG0 : ∀ ob : Obj, (w18.alloc ob).cell? ⟨w9.heap.size, 0, none⟩ = some (.slice aG RW.length bG) := fun ob => (QG_18.out.keep (bAlloc (Below.refl _ _) ob)).c0
      have pQG1 := QG_18.out.c1
      have dQG1 : ∀ ob : Obj, (w18.alloc ob).cell? ⟨w9.heap.size, 1, none⟩ = some (.int .i64 RT) := fun ob => (QG_18.out.keep (bAlloc (Below.refl _ _) ob)).c1
      have pQG2 := QG_18.out.c2
      have dQG2 : ∀ ob : Obj, (w18.alloc ob).cell? ⟨w9.heap.size, 2, none⟩ = some (.slice cG RN dG) := fun ob => (QG_18.out.keep (bAlloc (Below.refl _ _) ob)).c2
      go_wp2_with fail
      clear pA0 pA1 pA2
      clear dA0 dA1 dA2
      clear pB0 pB1
      clear dB0 dB1
      clear pQW0 pQW1 pQW2
      clear dQW0 dQW1 dQW2
      clear pP0 pP1 pP2
      clear dP0 dP1 dP2
      clear pR0 pR1
      clear dR0 dR1
      clear pQG0 pQG1 pQG2
      clear dQG0 dQG1 dQG2
      go_cut [17, 18, 19] from 20 (fun p q r w' => ∃ (gJ : Nat) (aJ : Option Addr) (bJ : Nat) (cJ : Option Addr) (dJ : Nat), p = .pointer (some ⟨gJ, 0, none⟩) ∧ q = .int .i64 RI ∧ r = .bool V ∧ Box3 w' gJ (.slice aJ RW.length bJ) (.int .i64 RT) (.slice cJ RN dJ) 32 ∧ HX w18.heap.size w'.heap.size w' (.agg #[.slice aJ RW.length bJ, .int .i64 RT, .slice cJ RN dJ]) RW RT RN RE ∧ Below w18.heap.size w18 w')
      case first =>
        have SZ0 : Hid (w18.heap.size ≤ w18.heap.size) := Nat.le_refl _
        go_region_held3 (fun w' => w'.cell? ⟨w.heap.size, 0, none⟩ = some (.slice ya W0.length yc) ∧ w'.cell? ⟨w.heap.size, 1, none⟩ = some (.int .i64 t0) ∧ w'.cell? ⟨w.heap.size, 2, none⟩ = some (.slice za n0 zc) ∧ w'.cell? ⟨(w.heap.size + 1), 0, none⟩ = some (.slice xa s1.length xc) ∧ w'.cell? ⟨(w.heap.size + 1), 1, none⟩ = some (.slice xb d1.length xd))
          ((refine SK.out _ ?_; (repeat first | with_reducible exact HBc.out | with_reducible exact HBb.out | with_reducible exact HBa.out | with_reducible exact Below.refl _ _ | with_reducible refine Below.drew ?_ | with_reducible refine bAlloc ?_ _ | with_reducible refine below_setCell ?_ (by first | exact Nat.le_refl _ | exact HBa.out.size | exact HBb.out.size | (have := HBb.out.size; omega)) _ _)))
          (first
            | (go_at_call 8; refine (toHeap_own (H.out.keep (bTrans HT18.out (by repeat first | exact HBc.out | exact HBb.out | exact HBa.out | exact (Below.refl _ _).drew | exact Below.refl _ _ | refine bAlloc ?_ _ | refine Below.drew ?_))) BW.out BN.out).mono ?_; rintro r wa ⟨v3, rfl, hu, hb⟩; have Ua : Hid (HI wa v3 W0 t0 n0 E0) := hu.hi; have HBa : Hid (Below w18.heap.size w18 wa) := bTrans (by repeat first | exact HBc.out | exact HBb.out | exact HBa.out | exact (Below.refl _ _).drew | exact Below.refl _ _ | refine bAlloc ?_ _ | refine Below.drew ?_) hb; (try have bqa : Hid (Box3 wa w18.heap.size (.slice none 0 0) (.int .i64 0) (.slice none 0 0) 32) := Box3.keep (w := World.drew (World.alloc w18 (.cells #[.slice none 0 0, .int .i64 0, .slice none 0 0] 32))) (box3_new _ _ _ _ _) hb); clear hu hb)
            | (go_at_call 9; refine (to_arr (HA.out.keep (bTrans HT18.out (by repeat first | exact HBc.out | exact HBb.out | exact HBa.out | exact (Below.refl _ _).drew | exact Below.refl _ _ | refine bAlloc ?_ _ | refine Below.drew ?_))) BS.out BD.out).mono ?_; rintro r wb ⟨v4, rfl, hu, hb⟩; have Ub : Hid (HI wb v3 W0 t0 n0 E0) := (Ua.out.keep (by repeat first | exact Below.refl _ _ | refine bAlloc ?_ _ | refine Below.drew ?_)).keep hb; have U4 : Hid (ArrI wb v4 s1 d1) := hu.arrI; have HBb : Hid (Below w18.heap.size w18 wb) := bTrans (by repeat first | exact HBc.out | exact HBb.out | exact HBa.out | exact (Below.refl _ _).drew | exact Below.refl _ _ | refine bAlloc ?_ _ | refine Below.drew ?_) hb; (try have bqb0 : Hid (Box3 wb w18.heap.size (.slice none 0 0) (.int .i64 0) (.slice none 0 0) 32) := (bqa.out.keep (by repeat first | exact Below.refl _ _ | refine bAlloc ?_ _ | refine Below.drew ?_)).keep hb); (try have bqb1 : Hid (Box3 wb wa.heap.size (.slice none 0 0) (.int .i64 0) (.slice none 0 0) 32) := (box3_new wa _ _ _ _).keep hb); have SAB : Hid (wa.heap.size ≤ wb.heap.size) := Nat.le_trans (by first | exact Nat.le_refl _ | simp) hb.size; clear hu hb)
            | (go_at_call 10; refine (IM.out _ _ _ (Ub.out.keep (by repeat first | exact Below.refl _ _ | refine bAlloc ?_ _ | refine Below.drew ?_)) (U4.out.keep (by repeat first | exact Below.refl _ _ | refine bAlloc ?_ _ | refine Below.drew ?_))).mono ?_; rintro r wc ⟨v5, rfl, hO, hb⟩; obtain ⟨aJ, bJ, cJ, dJ, rfl⟩ := hO.form; have HBc : Hid (Below w18.heap.size w18 wc) := bTrans (by repeat first | exact HBc.out | exact HBb.out | exact HBa.out | exact (Below.refl _ _).drew | exact Below.refl _ _ | refine bAlloc ?_ _ | refine Below.drew ?_) hb; have SBC : Hid (_ ≤ wc.heap.size) := hb.size; (try have bqc0 : Hid (Box3 wc w18.heap.size (.slice none 0 0) (.int .i64 0) (.slice none 0 0) 32) := (bqb0.out.keep (by repeat first | exact Below.refl _ _ | refine bAlloc ?_ _ | refine Below.drew ?_)).keep hb); (try have bqc1 : Hid (Box3 wc wa.heap.size (.slice none 0 0) (.int .i64 0) (.slice none 0 0) 32) := (bqb1.out.keep (by repeat first | exact Below.refl _ _ | refine bAlloc ?_ _ | refine Below.drew ?_)).keep hb); (try have bqc2 : Hid (Box3 wc wb.heap.size (.slice none 0 0) (.int .i64 0) (.slice none 0 0) 32) := (box3_new wb _ _ _ _).keep hb); (try have q0 := bqc0.out.c0); (try have q1 := bqc0.out.c1); (try have q2 := bqc0.out.c2); (try have f0 := bqc0.out.free 0); (try have f1 := bqc0.out.free 1); (try have f2 := bqc0.out.free 2); (try have q0 := bqc1.out.c0); (try have q1 := bqc1.out.c1); (try have q2 := bqc1.out.c2); (try have f0 := bqc1.out.free 0); (try have f1 := bqc1.out.free 1); (try have f2 := bqc1.out.free 2); (try have q0 := bqc2.out.c0); (try have q1 := bqc2.out.c1); (try have q2 := bqc2.out.c2); (try have f0 := bqc2.out.free 0); (try have f1 := bqc2.out.free 1); (try have f2 := bqc2.out.free 2); have HO : Hid (HX _ wc.heap.size wc (.agg #[.slice aJ RW.length bJ, .int .i64 RT, .slice cJ RN dJ]) RW RT RN RE) := hO; clear hO hb))
        all_goals
          go_wp2_with fail
          go_meet
          case rel =>
            have z1 := HBa.out.size
            have z2 := SAB.out
            have z3 := SBC.out
            (try have z4 := bqa.out.lt)
            (try have z5 := bqb1.out.lt)
            first
              | exact ⟨wc.heap.size, _, _, _, _, rfl, rfl, rfl, box3_new wc _ _ _ _, (HO.out.keep (bAlloc (Below.refl _ _) _)).mono (by first | omega | (simp at z3 ⊢; omega) | (simp; omega)) (by simp), bAlloc HBc.out _⟩
              | exact ⟨w18.heap.size, _, _, _, _, rfl, rfl, rfl, ((bqc0.out.set0 _).set1 _).set2 _, HO.out.stored (by first | omega | (simp; omega) | simp) (by first | omega | (simp; omega)) (Nat.le_refl _), below_set3 HBc.out (by first | exact Nat.le_refl _ | omega)⟩
              | exact ⟨wa.heap.size, _, _, _, _, rfl, rfl, rfl, ((bqc1.out.set0 _).set1 _).set2 _, HO.out.stored (by first | omega | (simp; omega) | simp) (by first | omega | (simp; omega)) (Nat.le_refl _), below_set3 HBc.out (by first | exact Nat.le_refl _ | omega)⟩
              | exact ⟨wb.heap.size, _, _, _, _, rfl, rfl, rfl, ((bqc2.out.set0 _).set1 _).set2 _, HO.out.stored (by first | omega | (simp; omega) | simp) (by first | omega | (simp; omega)) (Nat.le_refl _), below_set3 HBc.out (by first | exact Nat.le_refl _ | omega)⟩
      obtain ⟨w19, hwc⟩ : ∃ x, x = wc := ⟨_, rfl⟩
      subst hwc
      obtain ⟨gJ, aJ, bJ, cJ, dJ, rfl, rfl, rfl, hbx, hO, hb⟩ := hcut
      clear SK
      have SZ19 : Hid (w18.heap.size ≤ w19.heap.size) := hb.size
      have HT19 : Hid (Below w.heap.size w w19) := bTrans HT18.out hb
      have A_19 : Hid (Box3 w19 w.heap.size (.slice ya W0.length yc) (.int .i64 t0) (.slice za n0 zc) 25) := A_18.out.keep hb
      have B_19 : Hid (Box w19 (w.heap.size + 1) (.slice xa s1.length xc) (.slice xb d1.length xd) 27) := B_18.out.keep hb
      have QW_19 : Hid (Box3 w19 gW (.slice aW RW.length bW) (.int .i64 RT) (.slice cW RN dW) 32) := QW_18.out.keep hb
      have W_19 : Hid (HX w3.heap.size w4.heap.size w19 (.agg #[.slice aW RW.length bW, .int .i64 RT, .slice cW RN dW]) RW RT RN RE) := W_18.out.keep hb
      have P_19 : Hid (Box3 w19 w5.heap.size (.slice aX W0.length bX) (.int .i64 t0) (.slice cX n0 dX) 32) := P_18.out.keep hb
      have R_19 : Hid (Box w19 w7.heap.size (.slice aY s1.length bY) (.slice cY d1.length dY) 36) := R_18.out.keep hb
      have QG_19 : Hid (Box3 w19 w9.heap.size (.slice aG RW.length bG) (.int .i64 RT) (.slice cG RN dG) 32) := QG_18.out.keep hb
      have G_19 : Hid (HX w8.heap.size w9.heap.size w19 (.agg #[.slice aG RW.length bG, .int .i64 RT, .slice cG RN dG]) (upFrom 1 RW.length) RT RN (mkC (1 + RW.length))) := G_18.out.keep hb
      clear A_18
      clear B_18
      clear QW_18
      clear W_18
      clear P_18
      clear R_18
      clear QG_18
      clear G_18
      have QJ_19 : Hid (Box3 w19 gJ (.slice aJ RW.length bJ) (.int .i64 RT) (.slice cJ RN dJ) 32) := hbx
      have J_19 : Hid (HX w18.heap.size w19.heap.size w19 (.agg #[.slice aJ RW.length bJ, .int .i64 RT, .slice cJ RN dJ]) RW RT RN RE) := hO
      have LQJ : Hid (gJ < w19.heap.size) := hbx.lt
      clear hbx hO hb
      have pA0 := A_19.out.c0
      have pA1 := A_19.out.c1
      have pA2 := A_19.out.c2
      have pB0 := B_19.out.c0
      have pB1 := B_19.out.c1
      have pQW0 := QW_19.out.c0
      have pQW1 := QW_19.out.c1
      have pQW2 := QW_19.out.c2
      have pP0 := P_19.out.c0
      have pP1 := P_19.out.c1
      have pP2 := P_19.out.c2
      have pR0 := R_19.out.c0
      have pR1 := R_19.out.c1
      have pQG0 := QG_19.out.c0
      have pQG1 := QG_19.out.c1
      have pQG2 := QG_19.out.c2
      have pQJ0 := QJ_19.out.c0
      have pQJ1 := QJ_19.out.c1
      have pQJ2 := QJ_19.out.c2
      go_wp2_with fail
      refine (eqHeap_same J_19.out.hi W_19.out.hi LW.out LN.out).mono ?_
      rintro r w20 ⟨rfl, hb⟩
      clear pA0 pA1 pA2
      clear pB0 pB1
      clear pQW0 pQW1 pQW2
      clear pP0 pP1 pP2
      clear pR0 pR1
      clear pQG0 pQG1 pQG2
      clear pQJ0 pQJ1 pQJ2
      have SZ20 : Hid (w19.heap.size ≤ w20.heap.size) := hb.size
      have HT20 : Hid (Below w.heap.size w w20) := bTrans HT19.out hb
      have A_20 : Hid (Box3 w20 w.heap.size (.slice ya W0.length yc) (.int .i64 t0) (.slice za n0 zc) 25) := A_19.out.keep hb
      have B_20 : Hid (Box w20 (w.heap.size + 1) (.slice xa s1.length xc) (.slice xb d1.length xd) 27) := B_19.out.keep hb
      have QW_20 : Hid (Box3 w20 gW (.slice aW RW.length bW) (.int .i64 RT) (.slice cW RN dW) 32) := QW_19.out.keep hb
      have W_20 : Hid (HX w3.heap.size w4.heap.size w20 (.agg #[.slice aW RW.length bW, .int .i64 RT, .slice cW RN dW]) RW RT RN RE) := W_19.out.keep hb
      have P_20 : Hid (Box3 w20 w5.heap.size (.slice aX W0.length bX) (.int .i64 t0) (.slice cX n0 dX) 32) := P_19.out.keep hb
      have R_20 : Hid (Box w20 w7.heap.size (.slice aY s1.length bY) (.slice cY d1.length dY) 36) := R_19.out.keep hb
      have QG_20 : Hid (Box3 w20 w9.heap.size (.slice aG RW.length bG) (.int .i64 RT) (.slice cG RN dG) 32) := QG_19.out.keep hb
      have G_20 : Hid (HX w8.heap.size w9.heap.size w20 (.agg #[.slice aG RW.length bG, .int .i64 RT, .slice cG RN dG]) (upFrom 1 RW.length) RT RN (mkC (1 + RW.length))) := G_19.out.keep hb
      have QJ_20 : Hid (Box3 w20 gJ (.slice aJ RW.length bJ) (.int .i64 RT) (.slice cJ RN dJ) 32) := QJ_19.out.keep hb
      have J_20 : Hid (HX w18.heap.size w19.heap.size w20 (.agg #[.slice aJ RW.length bJ, .int .i64 RT, .slice cJ RN dJ]) RW RT RN RE) := J_19.out.keep hb
      clear A_19
      clear B_19
      clear QW_19
      clear W_19
      clear P_19
      clear R_19
      clear QG_19
      clear G_19
      clear QJ_19
      clear J_19
      clear hb
      have pA0 := A_20.out.c0
      have pA1 := A_20.out.c1
      have pA2 := A_20.out.c2
      have pB0 := B_20.out.c0
      have pB1 := B_20.out.c1
      have pQW0 := QW_20.out.c0
      have pQW1 := QW_20.out.c1
      have pQW2 := QW_20.out.c2
      have pP0 := P_20.out.c0
      have pP1 := P_20.out.c1
      have pP2 := P_20.out.c2
      have pR0 := R_20.out.c0
      have pR1 := R_20.out.c1
      have pQG0 := QG_20.out.c0
      have pQG1 := QG_20.out.c1
      have pQG2 := QG_20.out.c2
      have pQJ0 := QJ_20.out.c0
      have pQJ1 := QJ_20.out.c1
      have pQJ2 := QJ_20.out.c2
      go_wp2_with fail
      refine (heldHX_own 1 G_20.out LW.out LN.out (by decide) (by decide)).mono ?_
      rintro r w21 ⟨rfl, hb⟩
      clear pA0 pA1 pA2
      clear pB0 pB1
      clear pQW0 pQW1 pQW2
      clear pP0 pP1 pP2
      clear pR0 pR1
      clear pQG0 pQG1 pQG2
      clear pQJ0 pQJ1 pQJ2
      have SZ21 : Hid (w20.heap.size ≤ w21.heap.size) := hb.size
      have HT21 : Hid (Below w.heap.size w w21) := bTrans HT20.out hb
      have A_21 : Hid (Box3 w21 w.heap.size (.slice ya W0.length yc) (.int .i64 t0) (.slice za n0 zc) 25) := A_20.out.keep hb
      have B_21 : Hid (Box w21 (w.heap.size + 1) (.slice xa s1.length xc) (.slice xb d1.length xd) 27) := B_20.out.keep hb
      have QW_21 : Hid (Box3 w21 gW (.slice aW RW.length bW) (.int .i64 RT) (.slice cW RN dW) 32) := QW_20.out.keep hb
      have W_21 : Hid (HX w3.heap.size w4.heap.size w21 (.agg #[.slice aW RW.length bW, .int .i64 RT, .slice cW RN dW]) RW RT RN RE) := W_20.out.keep hb
      have P_21 : Hid (Box3 w21 w5.heap.size (.slice aX W0.length bX) (.int .i64 t0) (.slice cX n0 dX) 32) := P_20.out.keep hb
      have R_21 : Hid (Box w21 w7.heap.size (.slice aY s1.length bY) (.slice cY d1.length dY) 36) := R_20.out.keep hb
      have QG_21 : Hid (Box3 w21 w9.heap.size (.slice aG RW.length bG) (.int .i64 RT) (.slice cG RN dG) 32) := QG_20.out.keep hb
      have G_21 : Hid (HX w8.heap.size w9.heap.size w21 (.agg #[.slice aG RW.length bG, .int .i64 RT, .slice cG RN dG]) (upFrom 1 RW.length) RT RN (mkC (1 + RW.length))) := G_20.out.keep hb
      have QJ_21 : Hid (Box3 w21 gJ (.slice aJ RW.length bJ) (.int .i64 RT) (.slice cJ RN dJ) 32) := QJ_20.out.keep hb
      have J_21 : Hid (HX w18.heap.size w19.heap.size w21 (.agg #[.slice aJ RW.length bJ, .int .i64 RT, .slice cJ RN dJ]) RW RT RN RE) := J_20.out.keep hb
      clear A_20
      clear B_20
      clear QW_20
      clear W_20
      clear P_20
      clear R_20
      clear QG_20
      clear G_20
      clear QJ_20
      clear J_20
      clear hb
      have pA0 := A_21.out.c0
      have pA1 := A_21.out.c1
      have pA2 := A_21.out.c2
      have pB0 := B_21.out.c0
      have pB1 := B_21.out.c1
      have pQW0 := QW_21.out.c0
      have pQW1 := QW_21.out.c1
      have pQW2 := QW_21.out.c2
      have pP0 := P_21.out.c0
      have pP1 := P_21.out.c1
      have pP2 := P_21.out.c2
      have pR0 := R_21.out.c0
      have pR1 := R_21.out.c1
      have pQG0 := QG_21.out.c0
      have pQG1 := QG_21.out.c1
      have pQG2 := QG_21.out.c2
      have pQJ0 := QJ_21.out.c0
      have pQJ1 := QJ_21.out.c1
      have pQJ2 := QJ_21.out.c2
      go_wp2
      go_ret
      exact ⟨rfl, HT21.out⟩

set_option maxRecDepth 100000 in
theorem lifted (os : Os) (started : os.Started) (H : Type) (enc : TypeId × Value → H) :
    ReturnsInHanded {} Try.checked os 3 .any (Rows.fnExactHeapPutSpec.pre6 enc Try.prog Try.f3 Rows.fnExactHeapPutRow.domain false) (Rows.fnExactHeapPutSpec.post enc Try.prog Try.f3 false true false false) := by
  refine returnsInHanded_of_change (C := Try.checked) own started (by kernel_rfl) Try.func3
    (ChangeSpec.witness6 (enc := enc) (C := Try.checked) false ⟨#[], #[.agg #[.slice none 0 0, .int .i64 0, .slice none 0 0], .agg #[.slice none 0 0, .slice none 0 0]], []⟩ 8 (by kernel_rfl) (by kernel_rfl) (by kernel_rfl) (by kernel_rfl)) ?_
  intro W base args ds gs before hval0 hW hcnd _
  have hval : ∀ (j : Nat) t v, Try.f3.params[j]? = some t → args[j]? = some v → Value.okWide Try.prog W .any base t v := hval0
  have hW' := hW
  obtain ⟨p, q, hA0, hV, rfl, hfz, hnd⟩ := hW
  have hA : DataW.TrodAll enc Try.prog W 0 (fun _ => true) true Try.f3.params.toList args.toList ds p := hA0
  rw [Try.params3] at hA hval
  obtain ⟨v0, vs0, e0, es0, p0, q0, hargs, rfl, rfl, h0, r0⟩ := trodAll_cons hA
  obtain ⟨v1, vs1, e1, es1, p1, q1, rfl, rfl, rfl, h1, r1⟩ := trodAll_cons r0
  obtain ⟨rfl, rfl, rfl⟩ := trodAll_nil r1
  obtain rfl : args = #[v0, v1] := by cases args; simp_all
  obtain ⟨rfl, rfl⟩ := trodVars_none hV
  have k0 := h0
  have lt0 : ∀ x ∈ p0, x.block < W.heap.size := by obtain ⟨m, hm⟩ := k0; exact DataW.trod_lt m _ _ _ hm
  obtain ⟨x0, y0, z0, f0, g0, i0, m0, rfl, rfl, rfl, hf0, hg0, hi0⟩ := Joins.open_agg3 Try.underlying25 (by kernel_rfl) (by kernel_rfl) (hval 0 25 v0 rfl rfl) h0
  obtain ⟨t0, et0, _, wt0⟩ := DataW.trod_int Try.underlying3 hg0
  simp at et0
  subst et0
  obtain ⟨W0, iw0, b0⟩ := cell_ints hf0
  obtain ⟨n0, E0, ic0, c0, d0⟩ := cell_cels hi0
  have w0 : HI W (.agg #[x0, .int .i64 t0, z0]) W0 t0 n0 E0 := by obtain ⟨a, c, rfl, g, i⟩ := iw0; obtain ⟨a2, c2, rfl, g2, i2⟩ := ic0; exact ⟨a, c, a2, c2, rfl, i, g, i2, g2⟩
  have k1 := h1
  have lt1 : ∀ x ∈ p1, x.block < W.heap.size := by obtain ⟨m, hm⟩ := k1; exact DataW.trod_lt m _ _ _ hm
  obtain ⟨x1, y1, f1, g1, m1, rfl, rfl, rfl, hf1, hg1⟩ := Joins.open_agg2 Try.underlying27 (by kernel_rfl) (by kernel_rfl) (hval 1 27 v1 rfl rfl) h1
  obtain ⟨s1, i1, b1⟩ := cell_ints hf1
  obtain ⟨d1, o1, c1⟩ := cell_ints hg1
  have w1 : ArrI W (.agg #[x1, y1]) s1 d1 := by obtain ⟨a, c, rfl, g, i⟩ := i1; obtain ⟨a2, c2, rfl, g2, i2⟩ := o1; exact ⟨a, c, a2, c2, rfl, i, i2, g, g2⟩
  clear hA0 hval0
  refine (walk _ W0 t0 n0 E0 _ s1 d1 W w0 b0 c0 d0 (in64_wf wt0) w1 b1 c1).mono fun e W' ⟨he, bel⟩ => ?_
  subst he
  exact ⟨_, rfl, _, _, _, [], _, [], hW', trodAll_mk1 (shut_bool Try.underlying4 _), (trodAll_cons_mk (Below.trod laidOut (by kernel_rfl) (of_decide_eq_true (by kernel_rfl)) k0 bel lt0) (trodAll_cons_mk (Below.trod laidOut (by kernel_rfl) (of_decide_eq_true (by kernel_rfl)) k1 bel lt1) trodAll_mk0)), rfl, bel.frame _, fun h => by cases h⟩

theorem over : Rows.fnExactHeapPutRow.holds Try.pinned (OpenSpec.ofChange Rows.fnExactHeapPutSpec) :=
  OpenClaim.holds_of_wide 3 Try.f3 rfl rfl rfl rfl rfl rfl rfl ⟨rfl, rfl, rfl, rfl, rfl⟩ rfl rfl rfl rfl rfl (by kernel_rfl) Try.func3 (by kernel_rfl)
    (of_decide_eq_true (by kernel_rfl)) (by unfold Func.isWrapper; first | (rw [if_pos (by decide +kernel)]; kernel_rfl) | (rw [if_neg (by decide +kernel)]; exact ⟨rfl, rfl⟩))
    (fun os started H enc _ => lifted os started H enc)

/-- The statement. -/
theorem proved : Rows.FnExactHeapPutSaid := over
end Go.Proofs.Ytbkbbafhfeihdaa.fnExactHeapPut
namespace Go.Proofs.Ytbkbbafhfeihdaa
theorem fnExactHeapPut_holds : Rows.FnExactHeapPutSaid := fnExactHeapPut.proved
#print axioms fnExactHeapPut_holds
end Go.Proofs.Ytbkbbafhfeihdaa
