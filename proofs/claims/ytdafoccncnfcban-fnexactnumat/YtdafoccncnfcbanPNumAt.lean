/-
  Proved: whatever array and list it is given, the law FnExactNumAt returns true (the program's NumAt answers as the specification's and writes into no argument), and both read as before. No condition.
-/
import Derived.Test.YtdafoccncnfcbanRows
import Derived.WalkKit
import Derived.ProofKit
import Derived.OpenShut
import Derived.ShutString
import Derived.ChangeOld
import Derived.Below
import Derived.Test.YtdafoccncnfcbanFrame
import Derived.Test.YtdafoccncnfcbanSpecArr3
import Derived.Test.YtdafoccncnfcbanLaw3
import Derived.Test.YtdafoccncnfcbanImplArr4
namespace Go.Proofs.Ytdafoccncnfcban.fnExactNumAt
open Go.ChangeShapes Go.WideShapes Go.ChangeAt Go.RowKit
open Go.ChangeMaps (open_string shut_string)
set_option linter.unusedVariables false
set_option linter.unusedSimpArgs false

theorem own : ownKnob Try.prog.godebug = none := by kernel_rfl
theorem laidOut : laidOutB Try.prog = true := by kernel_rfl

set_option maxRecDepth 20000 in
set_option maxHeartbeats 8000000 in
/-- The walk: the law returns true, and writes nothing that was there. -/
theorem walk (v0 : Value) (s0 d0 : List Int) (v1 : Value) (l1 : List Int) (w : World) (w0 : ArrI w v0 s0 d0) (b0 : s0.length ≤ 9223372036854775807) (c0 : d0.length ≤ 9223372036854775807) (w1 : IntsI w v1 l1) (b1 : l1.length ≤ 9223372036854775807) :
    Calls Try.prog 3 #[v0, v1] w fun e w' => e = .returned (.bool true) ∧ Below w.heap.size w w' := by
  have H0 : Hid (ArrI w v0 s0 d0) := w0
  obtain ⟨px0, c0', py0, e0', rfl, i1, i2, g1, g2⟩ := w0
  clear i1 i2 g1 g2
  have H1 : Hid (IntsI w v1 l1) := w1
  obtain ⟨px1, c1', rfl, g1, i1⟩ := w1
  clear i1 g1
  by_cases big1 : (1048576 : Int) < (l1.length : Int)
  · go_enter Try.func3, Try.ntmps3
    go_wp2
    go_ret
    exact ⟨rfl, by repeat first | exact Below.refl _ _ | refine bAlloc ?_ _⟩
  have Ll1 : Hid (l1.length ≤ 1048576) := by show _ ≤ _; omega
  have hl1 : (l1.length : Int) ≤ 1048576 := by omega
  clear big1 b1
  by_cases big0 : (1048576 : Int) < (((s0.length + d0.length) : Nat) : Int)
  · have ZB : Hid (∀ W, Calls Try.prog 5 #[(.agg #[.slice px0 s0.length c0', .slice py0 d0.length e0']), .int .i64 1048576] W fun e w' => e = .returned (.int .i64 (-1)) ∧ Below W.heap.size W w') := fun W => szV_big (n := (s0.length + d0.length)) (left := 1048576) big0 ▸ sz_arr _ _ _ _ _ _ 1048576 W (by omega) (by omega) b0 c0
    clear big0
    go_enter Try.func3, Try.ntmps3
    go_wp2_with fail
    refine (ZB.out _).mono ?_
    rintro r w1 ⟨rfl, hb⟩
    have HB1 : Hid (Below w.heap.size w w1) := bTrans (bAlloc (Below.refl _ _) _) hb
    have HT1 : Hid (Below w.heap.size w w1) := HB1.out
    have SZ1 : Hid (w.heap.size ≤ w1.heap.size) := HB1.out.size
    have P0_1 : Hid (Box w1 w.heap.size (.slice px0 s0.length c0') (.slice py0 d0.length e0') 24) := (box_new w _ _ _).keep hb
    have LTP0 : Hid (w.heap.size < w1.heap.size) := P0_1.out.lt
    clear hb
    go_wp2
    go_ret
    exact ⟨rfl, HT1.out⟩
  obtain ⟨N0, hN0⟩ : ∃ N : Int, N = 1048576 - (((s0.length + d0.length) : Nat) : Int) := ⟨_, rfl⟩
  have Z0 : Hid (∀ W, Calls Try.prog 5 #[(.agg #[.slice px0 s0.length c0', .slice py0 d0.length e0']), .int .i64 1048576] W fun e w' => e = .returned (.int .i64 N0) ∧ Below W.heap.size W w') := fun W => hN0 ▸ szV_small (n := (s0.length + d0.length)) (left := 1048576) (by omega) ▸ sz_arr _ _ _ _ _ _ 1048576 W (by omega) (by omega) b0 c0
  have n0 : 0 ≤ N0 := by omega
  have m0 : N0 ≤ 1048576 := by omega
  have Ls0 : Hid (s0.length ≤ 1048576) := by show _ ≤ _; omega
  have Ld0 : Hid (d0.length ≤ 1048576) := by show _ ≤ _; omega
  clear big0 hN0 b0 c0
  obtain ⟨V, hV⟩ : ∃ x, x = numAtV s0 d0 l1 := ⟨_, rfl⟩
  obtain ⟨U, hU⟩ : ∃ x, x = numAtOk s0 d0 l1 := ⟨_, rfl⟩
  have SP : Hid (∀ (W : World) (u0 : Value) (_ : ArrI W u0 s0 d0) (u1 : Value) (_ : IntsI W u1 l1), Calls Try.prog 6 #[u0, u1] W fun e w' => e = .returned (.tuple #[.int .i64 V, .bool U]) ∧ Below W.heap.size W w') := by
    intro W u0 h0 u1 h1
    rw [hV, hU]
    obtain ⟨a, c, rfl, _, i⟩ := h1
    exact numAt_spec h0 i c Ld0.out
  have IM : Hid (∀ (W : World) (u0 : Value) (_ : ArrI W u0 s0 d0) (u1 : Value) (_ : IntsI W u1 l1), Calls Try.prog 9 #[u0, u1] W fun e w' => e = .returned (.tuple #[.int .i64 V, .bool U]) ∧ Below W.heap.size W w') := by
    intro W u0 h0 u1 h1
    rw [hV, hU]
    exact numAt_impl h0 h1 Ls0.out Ld0.out Ll1.out
  clear hV hU
  go_enter Try.func3, Try.ntmps3
  go_wp2_with fail
  refine (Z0.out _).mono ?_
  rintro r w1 ⟨rfl, hb⟩
  have HB1 : Hid (Below w.heap.size w w1) := bTrans (bAlloc (Below.refl _ _) _) hb
  have HT1 : Hid (Below w.heap.size w w1) := HB1.out
  have SZ1 : Hid (w.heap.size ≤ w1.heap.size) := HB1.out.size
  have P0_1 : Hid (Box w1 w.heap.size (.slice px0 s0.length c0') (.slice py0 d0.length e0') 24) := (box_new w _ _ _).keep hb
  have LTP0 : Hid (w.heap.size < w1.heap.size) := P0_1.out.lt
  clear hb
  have P0c0 := P0_1.out.c0
  have P0c1 := P0_1.out.c1
  go_wp2_with fail
  refine (to_arr (H0.out.keep HT1.out) Ls0.out Ld0.out).mono ?_
  rintro r w2 ⟨vT0, rfl, ha, hb⟩
  obtain ⟨aT0, cT0, bT0, eT0, rfl, _, _, _, _⟩ := ha.arrI
  have T0_2 : Hid (Arr w1.heap.size w2.heap.size w2 (.agg #[.slice aT0 s0.length cT0, .slice bT0 d0.length eT0]) s0 d0) := ha.mono (by first | exact Nat.le_refl _ | simp | (simp; omega)) (Nat.le_refl _)
  clear ha
  have HB2 : Hid (Below w1.heap.size w1 w2) := hb
  have HT2 : Hid (Below w.heap.size w w2) := bTrans HT1.out HB2.out
  have SZ2 : Hid (w1.heap.size ≤ w2.heap.size) := HB2.out.size
  have P0_2 : Hid (Box w2 w.heap.size (.slice px0 s0.length c0') (.slice py0 d0.length e0') 24) := P0_1.out.keep HB2.out
  clear P0_1 P0c0 P0c1 hb
  have P0c0 := P0_2.out.c0
  have P0c1 := P0_2.out.c1
  go_wp2_with fail
  refine (to_listI (H1.out.keep HT2.out) Ll1.out).mono ?_
  rintro r w3 ⟨vT1, rfl, ha, hb⟩
  obtain ⟨aT1, cT1, rfl, _⟩ := ha.ints
  have T1_3 : Hid (Piece w2.heap.size w3.heap.size w3 (.slice aT1 l1.length cT1) l1) := ha.mono (by first | exact Nat.le_refl _ | simp | (simp; omega)) (Nat.le_refl _)
  clear ha
  have HB3 : Hid (Below w2.heap.size w2 w3) := hb
  have HT3 : Hid (Below w.heap.size w w3) := bTrans HT2.out HB3.out
  have SZ3 : Hid (w2.heap.size ≤ w3.heap.size) := HB3.out.size
  have P0_3 : Hid (Box w3 w.heap.size (.slice px0 s0.length c0') (.slice py0 d0.length e0') 24) := P0_2.out.keep HB3.out
  have T0_3 : Hid (Arr w1.heap.size w2.heap.size w3 (.agg #[.slice aT0 s0.length cT0, .slice bT0 d0.length eT0]) s0 d0) := T0_2.out.keep HB3.out
  clear P0_2 T0_2 P0c0 P0c1 hb
  have P0c0 := P0_3.out.c0
  have P0c1 := P0_3.out.c1
  go_wp2_with fail
  refine (SP.out _ _ (T0_3.out.arrI) _ (T1_3.out.intsI)).mono ?_
  rintro r w4 ⟨rfl, hb⟩
  have HB4 : Hid (Below w3.heap.size w3 w4) := hb
  have HT4 : Hid (Below w.heap.size w w4) := bTrans HT3.out HB4.out
  have SZ4 : Hid (w3.heap.size ≤ w4.heap.size) := HB4.out.size
  have P0_4 : Hid (Box w4 w.heap.size (.slice px0 s0.length c0') (.slice py0 d0.length e0') 24) := P0_3.out.keep HB4.out
  have T0_4 : Hid (Arr w1.heap.size w2.heap.size w4 (.agg #[.slice aT0 s0.length cT0, .slice bT0 d0.length eT0]) s0 d0) := T0_3.out.keep HB4.out
  have T1_4 : Hid (Piece w2.heap.size w3.heap.size w4 (.slice aT1 l1.length cT1) l1) := T1_3.out.keep HB4.out
  clear P0_3 T0_3 T1_3 P0c0 P0c1 hb
  have P0c0 := P0_4.out.c0
  have P0c1 := P0_4.out.c1
  go_wp2_with fail
  refine (to_arr (H0.out.keep HT4.out) Ls0.out Ld0.out).mono ?_
  rintro r w5 ⟨vX0, rfl, ha, hb⟩
  obtain ⟨aX0, cX0, bX0, eX0, rfl, _, _, _, _⟩ := ha.arrI
  have X0_5 : Hid (Arr w4.heap.size w5.heap.size w5 (.agg #[.slice aX0 s0.length cX0, .slice bX0 d0.length eX0]) s0 d0) := ha.mono (by first | exact Nat.le_refl _ | simp | (simp; omega)) (Nat.le_refl _)
  clear ha
  have HB5 : Hid (Below w4.heap.size w4 w5) := hb
  have HT5 : Hid (Below w.heap.size w w5) := bTrans HT4.out HB5.out
  have SZ5 : Hid (w4.heap.size ≤ w5.heap.size) := HB5.out.size
  have P0_5 : Hid (Box w5 w.heap.size (.slice px0 s0.length c0') (.slice py0 d0.length e0') 24) := P0_4.out.keep HB5.out
  clear P0_4 P0c0 P0c1 hb
  have P0c0 := P0_5.out.c0
  have P0c1 := P0_5.out.c1
  have P0d0 : ∀ o : Obj, (w5.alloc o).cell? ⟨w.heap.size, 0, none⟩ = some (.slice px0 s0.length c0') := fun o => (P0_5.out.keep (bAlloc (Below.refl _ _) o)).c0
  have P0d1 : ∀ o : Obj, (w5.alloc o).cell? ⟨w.heap.size, 1, none⟩ = some (.slice py0 d0.length e0') := fun o => (P0_5.out.keep (bAlloc (Below.refl _ _) o)).c1
  go_wp2_with fail
  refine (to_listI ((H1.out.keep HT5.out).keep (bAlloc (Below.refl _ _) _)) Ll1.out).mono ?_
  rintro r w6 ⟨vX1, rfl, ha, hb⟩
  obtain ⟨aX1, cX1, rfl, _⟩ := ha.ints
  have X1_6 : Hid (Piece (w5.heap.size + 1) w6.heap.size w6 (.slice aX1 l1.length cX1) l1) := ha.mono (by first | exact Nat.le_refl _ | simp | (simp; omega)) (Nat.le_refl _)
  clear ha
  have HB6 : Hid (Below w5.heap.size w5 w6) := bTrans (bAlloc (Below.refl _ _) _) hb
  have HT6 : Hid (Below w.heap.size w w6) := bTrans HT5.out HB6.out
  have SZ6 : Hid (w5.heap.size ≤ w6.heap.size) := HB6.out.size
  have P0_6 : Hid (Box w6 w.heap.size (.slice px0 s0.length c0') (.slice py0 d0.length e0') 24) := P0_5.out.keep HB6.out
  have X0_6 : Hid (Arr w4.heap.size w5.heap.size w6 (.agg #[.slice aX0 s0.length cX0, .slice bX0 d0.length eX0]) s0 d0) := X0_5.out.keep HB6.out
  have QX0_6 : Hid (Box w6 w5.heap.size (.slice aX0 s0.length cX0) (.slice bX0 d0.length eX0) 28) := (box_new w5 _ _ _).keep hb
  have LTQX0 : Hid (w5.heap.size < w6.heap.size) := QX0_6.out.lt
  clear P0_5 X0_5 P0c0 P0c1 P0d0 P0d1 hb
  have P0c0 := P0_6.out.c0
  have P0c1 := P0_6.out.c1
  have QX0c0 := QX0_6.out.c0
  have QX0c1 := QX0_6.out.c1
  go_wp2_with fail
  refine (IM.out _ _ (X0_6.out.arrI) _ (X1_6.out.intsI)).mono ?_
  rintro r w7 ⟨rfl, hb⟩
  have HB7 : Hid (Below w6.heap.size w6 w7) := hb
  have HT7 : Hid (Below w.heap.size w w7) := bTrans HT6.out HB7.out
  have SZ7 : Hid (w6.heap.size ≤ w7.heap.size) := HB7.out.size
  have P0_7 : Hid (Box w7 w.heap.size (.slice px0 s0.length c0') (.slice py0 d0.length e0') 24) := P0_6.out.keep HB7.out
  have QX0_7 : Hid (Box w7 w5.heap.size (.slice aX0 s0.length cX0) (.slice bX0 d0.length eX0) 28) := QX0_6.out.keep HB7.out
  have X0_7 : Hid (Arr w4.heap.size w5.heap.size w7 (.agg #[.slice aX0 s0.length cX0, .slice bX0 d0.length eX0]) s0 d0) := X0_6.out.keep HB7.out
  have X1_7 : Hid (Piece (w5.heap.size + 1) w6.heap.size w7 (.slice aX1 l1.length cX1) l1) := X1_6.out.keep HB7.out
  clear P0_6 QX0_6 X0_6 X1_6 P0c0 P0c1 QX0c0 QX0c1 hb
  have P0c0 := P0_7.out.c0
  have P0c1 := P0_7.out.c1
  have QX0c0 := QX0_7.out.c0
  have QX0c1 := QX0_7.out.c1
  have hneV : (V != V) = false := by simp
  have hneU : (U != U) = false := by simp
  go_wp2_with fail
  go_region_held3 (fun w' => w'.cell? ⟨w.heap.size, 0, none⟩ = some (.slice px0 s0.length c0') ∧ w'.cell? ⟨w.heap.size, 1, none⟩ = some (.slice py0 d0.length e0') ∧ w'.cell? ⟨w5.heap.size, 0, none⟩ = some (.slice aX0 s0.length cX0) ∧ w'.cell? ⟨w5.heap.size, 1, none⟩ = some (.slice bX0 d0.length eX0))
    (first | exact ⟨z0, z1, z2, z3⟩ | exact ⟨y0, y1, y2, y3⟩ | exact ⟨P0c0, P0c1, QX0c0, QX0c1⟩)
    (first
      | (go_at_call 7; refine (to_arr (H0.out.keep (HT7.out.drew)) Ls0.out Ld0.out).mono ?_; rintro r wa8 ⟨va, rfl, ha, hb⟩; have AA8 : Hid (ArrI wa8 va s0 d0) := ha.arrI; have HA8 : Hid (Below w7.heap.size w7 wa8) := bTrans ((Below.refl w7.heap.size w7).drew) hb; have y0 := (P0_7.out.keep HA8.out).c0; have y1 := (P0_7.out.keep HA8.out).c1; have y2 := (QX0_7.out.keep HA8.out).c0; have y3 := (QX0_7.out.keep HA8.out).c1; clear ha hb)
      | (go_at_call 10; refine (eq_arrI (X0_7.out.arrI.keep HA8.out) AA8.out Ls0.out Ld0.out).mono ?_; rintro r w8 ⟨rfl, hb⟩; have HB8 : Hid (Below w7.heap.size w7 w8) := bTrans HA8.out hb; have z0 := (P0_7.out.keep HB8.out).c0; have z1 := (P0_7.out.keep HB8.out).c1; have z2 := (QX0_7.out.keep HB8.out).c0; have z3 := (QX0_7.out.keep HB8.out).c1; clear hb))
  have HT8 : Hid (Below w.heap.size w w8) := bTrans HT7.out HB8.out
  have SZ8 : Hid (w7.heap.size ≤ w8.heap.size) := HB8.out.size
  have P0_8 : Hid (Box w8 w.heap.size (.slice px0 s0.length c0') (.slice py0 d0.length e0') 24) := P0_7.out.keep HB8.out
  have QX0_8 : Hid (Box w8 w5.heap.size (.slice aX0 s0.length cX0) (.slice bX0 d0.length eX0) 28) := QX0_7.out.keep HB8.out
  have X0_8 : Hid (Arr w4.heap.size w5.heap.size w8 (.agg #[.slice aX0 s0.length cX0, .slice bX0 d0.length eX0]) s0 d0) := X0_7.out.keep HB8.out
  have X1_8 : Hid (Piece (w5.heap.size + 1) w6.heap.size w8 (.slice aX1 l1.length cX1) l1) := X1_7.out.keep HB8.out
  clear P0_7 QX0_7 X0_7 X1_7 P0c0 P0c1 QX0c0 QX0c1 y0 y1 y2 y3 z0 z1 z2 z3 AA8 HA8
  have P0c0 := P0_8.out.c0
  have P0c1 := P0_8.out.c1
  have QX0c0 := QX0_8.out.c0
  have QX0c1 := QX0_8.out.c1
  go_wp2_with fail
  refine (to_listI (H1.out.keep HT8.out) Ll1.out).mono ?_
  rintro r w9 ⟨vE1, rfl, ha, hb⟩
  obtain ⟨aE1, cE1, rfl, _⟩ := ha.ints
  have E1_9 : Hid (Piece w8.heap.size w9.heap.size w9 (.slice aE1 l1.length cE1) l1) := ha.mono (by first | exact Nat.le_refl _ | simp | (simp; omega)) (Nat.le_refl _)
  clear ha
  have HB9 : Hid (Below w8.heap.size w8 w9) := hb
  have HT9 : Hid (Below w.heap.size w w9) := bTrans HT8.out HB9.out
  have SZ9 : Hid (w8.heap.size ≤ w9.heap.size) := HB9.out.size
  have P0_9 : Hid (Box w9 w.heap.size (.slice px0 s0.length c0') (.slice py0 d0.length e0') 24) := P0_8.out.keep HB9.out
  have QX0_9 : Hid (Box w9 w5.heap.size (.slice aX0 s0.length cX0) (.slice bX0 d0.length eX0) 28) := QX0_8.out.keep HB9.out
  have X0_9 : Hid (Arr w4.heap.size w5.heap.size w9 (.agg #[.slice aX0 s0.length cX0, .slice bX0 d0.length eX0]) s0 d0) := X0_8.out.keep HB9.out
  have X1_9 : Hid (Piece (w5.heap.size + 1) w6.heap.size w9 (.slice aX1 l1.length cX1) l1) := X1_8.out.keep HB9.out
  clear P0_8 QX0_8 X0_8 X1_8 P0c0 P0c1 QX0c0 QX0c1 hb
  have P0c0 := P0_9.out.c0
  have P0c1 := P0_9.out.c1
  have QX0c0 := QX0_9.out.c0
  have QX0c1 := QX0_9.out.c1
  go_wp2_with fail
  refine (eq_listI (X1_9.out.intsI) (E1_9.out.intsI) Ll1.out).mono ?_
  rintro r w10 ⟨rfl, hb⟩
  have HB10 : Hid (Below w9.heap.size w9 w10) := hb
  have HT10 : Hid (Below w.heap.size w w10) := bTrans HT9.out HB10.out
  have SZ10 : Hid (w9.heap.size ≤ w10.heap.size) := HB10.out.size
  have P0_10 : Hid (Box w10 w.heap.size (.slice px0 s0.length c0') (.slice py0 d0.length e0') 24) := P0_9.out.keep HB10.out
  have QX0_10 : Hid (Box w10 w5.heap.size (.slice aX0 s0.length cX0) (.slice bX0 d0.length eX0) 28) := QX0_9.out.keep HB10.out
  have X0_10 : Hid (Arr w4.heap.size w5.heap.size w10 (.agg #[.slice aX0 s0.length cX0, .slice bX0 d0.length eX0]) s0 d0) := X0_9.out.keep HB10.out
  have X1_10 : Hid (Piece (w5.heap.size + 1) w6.heap.size w10 (.slice aX1 l1.length cX1) l1) := X1_9.out.keep HB10.out
  have E1_10 : Hid (Piece w8.heap.size w9.heap.size w10 (.slice aE1 l1.length cE1) l1) := E1_9.out.keep HB10.out
  clear P0_9 QX0_9 X0_9 X1_9 E1_9 P0c0 P0c1 QX0c0 QX0c1 hb
  have P0c0 := P0_10.out.c0
  have P0c1 := P0_10.out.c1
  have QX0c0 := QX0_10.out.c0
  have QX0c1 := QX0_10.out.c1
  go_wp2
  go_ret
  exact ⟨rfl, HT10.out⟩

set_option maxRecDepth 100000 in
theorem lifted (os : Os) (started : os.Started) (H : Type) (enc : TypeId × Value → H) :
    ReturnsInHanded {} Try.checked os 3 .any (Rows.fnExactNumAtSpec.pre6 enc Try.prog Try.f3 Rows.fnExactNumAtRow.domain false) (Rows.fnExactNumAtSpec.post enc Try.prog Try.f3 false true false false) := by
  refine returnsInHanded_of_change (C := Try.checked) own started (by kernel_rfl) Try.func3
    (ChangeSpec.witness6 (enc := enc) (C := Try.checked) false ⟨#[], #[.agg #[.slice none 0 0, .slice none 0 0], .slice none 0 0], []⟩ 8 (by kernel_rfl) (by kernel_rfl) (by kernel_rfl) (by kernel_rfl)) ?_
  intro W base args ds gs before hval0 hW hcnd _
  have hval : ∀ (j : Nat) t v, Try.f3.params[j]? = some t → args[j]? = some v → Value.okWide Try.prog W .any base t v := hval0
  have hW' := hW
  obtain ⟨p, q, hA0, hV, rfl, hfz, hnd⟩ := hW
  have hA : DataW.TrodAll enc Try.prog W 0 (fun _ => true) true Try.f3.params.toList args.toList ds p := hA0
  rw [Try.params3] at hA hval
  obtain ⟨v0, vs0, e0, es0, p0, q0, hargs, rfl, rfl, h0, r0⟩ := trodAll_cons hA
  obtain ⟨v1, vs1, e1, es1, p1, q1, rfl, rfl, rfl, h1, r1⟩ := trodAll_cons r0
  obtain ⟨rfl, rfl, rfl⟩ := trodAll_nil r1
  obtain rfl : args = #[v0, v1] := by cases args; simp_all
  obtain ⟨rfl, rfl⟩ := trodVars_none hV
  have k0 := h0
  have lt0 : ∀ x ∈ p0, x.block < W.heap.size := by obtain ⟨m, hm⟩ := k0; exact DataW.trod_lt m _ _ _ hm
  obtain ⟨x0, y0, f0, g0, m0, rfl, rfl, rfl, hf0, hg0⟩ := Joins.open_agg2 Try.underlying24 (by kernel_rfl) (by kernel_rfl) (hval 0 24 v0 rfl rfl) h0
  obtain ⟨s0, i0, b0⟩ := cell_ints hf0
  obtain ⟨d0, o0, c0⟩ := cell_ints hg0
  have w0 : ArrI W (.agg #[x0, y0]) s0 d0 := by obtain ⟨a, c, rfl, g, i⟩ := i0; obtain ⟨a2, c2, rfl, g2, i2⟩ := o0; exact ⟨a, c, a2, c2, rfl, i, i2, g, g2⟩
  have k1 := h1
  have lt1 : ∀ x ∈ p1, x.block < W.heap.size := by obtain ⟨m, hm⟩ := k1; exact DataW.trod_lt m _ _ _ hm
  obtain ⟨x1, len1, cap1, rfl⟩ := okWide_slice Try.underlying22 (hval 1 22 v1 rfl rfl)
  obtain ⟨l1, w1, b1⟩ : ∃ l, IntsI W (.slice x1 len1 cap1) l ∧ l.length ≤ 9223372036854775807 := by obtain ⟨fuel, hf⟩ := h1; exact cell_ints hf
  clear hA0 hval0
  refine (walk _ s0 d0 _ l1 W w0 b0 c0 w1 b1).mono fun e W' ⟨he, bel⟩ => ?_
  subst he
  exact ⟨_, rfl, _, _, _, [], _, [], hW', trodAll_mk1 (shut_bool Try.underlying4 _), (trodAll_cons_mk (Below.trod laidOut (by kernel_rfl) (of_decide_eq_true (by kernel_rfl)) k0 bel lt0) (trodAll_cons_mk (Below.trod laidOut (by kernel_rfl) (of_decide_eq_true (by kernel_rfl)) k1 bel lt1) trodAll_mk0)), rfl, bel.frame _, fun h => by cases h⟩

theorem over : Rows.fnExactNumAtRow.holds Try.pinned (OpenSpec.ofChange Rows.fnExactNumAtSpec) :=
  OpenClaim.holds_of_wide 3 Try.f3 rfl rfl rfl rfl rfl rfl rfl ⟨rfl, rfl, rfl, rfl, rfl⟩ rfl rfl rfl rfl rfl (by kernel_rfl) Try.func3 (by kernel_rfl)
    (of_decide_eq_true (by kernel_rfl)) (by unfold Func.isWrapper; first | (rw [if_pos (by decide +kernel)]; kernel_rfl) | (rw [if_neg (by decide +kernel)]; exact ⟨rfl, rfl⟩))
    (fun os started H enc _ => lifted os started H enc)

/-- The statement. -/
theorem proved : Rows.FnExactNumAtSaid := over
end Go.Proofs.Ytdafoccncnfcban.fnExactNumAt
namespace Go.Proofs.Ytdafoccncnfcban
theorem fnExactNumAt_holds : Rows.FnExactNumAtSaid := fnExactNumAt.proved
#print axioms fnExactNumAt_holds
end Go.Proofs.Ytdafoccncnfcban
