/-
  Proved: whatever array it is given, the law FnExactArrayPack returns true (the program's ArrayPack answers as the specification's, every byte, writes into no argument, and its answer owns its memory), and the array reads as before. No condition.
-/
import Derived.Test.YtonkiipdobpfgaaRows
import Derived.WalkKit
import Derived.ProofKit
import Derived.OpenShut
import Derived.ShutString
import Derived.ChangeOld
import Derived.Below
import Derived.Deep.Cut
import Derived.Test.YtonkiipdobpfgaaFrame
import Derived.Test.YtonkiipdobpfgaaArrPL
import Derived.Test.YtonkiipdobpfgaaLaw3
namespace Go.Proofs.Ytonkiipdobpfgaa.fnExactArrayPack
open Go.ChangeShapes Go.WideShapes Go.ChangeAt Go.RowKit
open Go.ChangeMaps (open_string shut_string)
set_option linter.unusedVariables false
set_option linter.unusedSimpArgs false

theorem own : ownKnob Try.prog.godebug = none := by kernel_rfl
theorem laidOut : laidOutB Try.prog = true := by kernel_rfl

set_option maxRecDepth 20000 in
set_option maxHeartbeats 8000000 in
/-- The walk: the law returns true, and writes nothing that was there. -/
theorem walk (v0 : Value) (s0 d0 : List Int) (w : World) (w0 : ArrI w v0 s0 d0) (b0 : s0.length ≤ 9223372036854775807) (c0 : d0.length ≤ 9223372036854775807) :
    Calls Try.prog 3 #[v0] w fun e w' => e = .returned (.bool true) ∧ Below w.heap.size w w' := by
  have H0 : Hid (ArrI w v0 s0 d0) := w0
  obtain ⟨px0, c0', py0, e0', rfl, i1, i2, g1, g2⟩ := w0
  clear i1 i2 g1 g2
  by_cases big0 : (1048576 : Int) < (((s0.length + d0.length) : Nat) : Int)
  · have ZB : Hid (∀ W, Calls Try.prog 6 #[(.agg #[.slice px0 s0.length c0', .slice py0 d0.length e0']), .int .i64 1048576] W fun e w' => e = .returned (.int .i64 (-1)) ∧ Below W.heap.size W w') := fun W => szV_big (n := (s0.length + d0.length)) (left := 1048576) big0 ▸ sz_arr _ _ _ _ _ _ 1048576 W (by omega) (by omega) b0 c0
    clear big0
    go_enter Try.func3, Try.ntmps3
    go_wp2_with fail
    refine (ZB.out _).mono ?_
    rintro r w1 ⟨rfl, hb⟩
    have HB1 : Hid (Below w.heap.size w w1) := bTrans (bAlloc (Below.refl _ _) _) hb
    have HT1 : Hid (Below w.heap.size w w1) := HB1.out
    have SZ1 : Hid (w.heap.size ≤ w1.heap.size) := HB1.out.size
    have P0_1 : Hid (Box w1 w.heap.size (.slice px0 s0.length c0') (.slice py0 d0.length e0') 24) := (box_new w _ _ _).keep hb
    have LTP0 : Hid (w.heap.size < w1.heap.size) := P0_1.out.lt
    clear hb
    go_wp2
    go_ret
    exact ⟨rfl, HT1.out⟩
  obtain ⟨N0, hN0⟩ : ∃ N : Int, N = 1048576 - (((s0.length + d0.length) : Nat) : Int) := ⟨_, rfl⟩
  have Z0 : Hid (∀ W, Calls Try.prog 6 #[(.agg #[.slice px0 s0.length c0', .slice py0 d0.length e0']), .int .i64 1048576] W fun e w' => e = .returned (.int .i64 N0) ∧ Below W.heap.size W w') := fun W => hN0 ▸ szV_small (n := (s0.length + d0.length)) (left := 1048576) (by omega) ▸ sz_arr _ _ _ _ _ _ 1048576 W (by omega) (by omega) b0 c0
  have n0 : 0 ≤ N0 := by omega
  have m0 : N0 ≤ 1048576 := by omega
  have Ls0 : Hid (s0.length ≤ 1048576) := by show _ ≤ _; omega
  have Ld0 : Hid (d0.length ≤ 1048576) := by show _ ≤ _; omega
  clear big0 hN0 b0 c0
  obtain ⟨V, hV⟩ : ∃ x, x = arrOk s0 d0 := ⟨_, rfl⟩
  obtain ⟨P, hP⟩ : ∃ x, x = (if arrOk s0 d0 = true then apack s0 d0 else []) := ⟨_, rfl⟩
  have SP : Hid (∀ (W : World) (u0 : Value) (_ : ArrI W u0 s0 d0), Calls Try.prog 7 #[u0] W fun e w' => ∃ v, e = .returned (.tuple #[v, .bool V]) ∧ BPiece W.heap.size w'.heap.size w' v P ∧ Below W.heap.size W w') := by
    intro W u0 h0
    rw [hV, hP]
    exact apack_b (arrayPack_spec h0 Ld0.out)
  have IM : Hid (∀ (W : World) (u0 : Value) (_ : ArrI W u0 s0 d0), Calls Try.prog 9 #[u0] W fun e w' => ∃ v, e = .returned (.tuple #[v, .bool V]) ∧ BPiece W.heap.size w'.heap.size w' v P ∧ Below W.heap.size W w') := by
    intro W u0 h0
    rw [hV, hP]
    exact apack_b (arrayPack_impl h0 Ld0.out)
  have LP : Hid (P.length ≤ 1048576) := by show _ ≤ _; rw [hP]; split; exact Nat.le_trans (apack_len (by assumption)) (by decide); simp
  clear hV hP
  go_enter Try.func3, Try.ntmps3
  go_wp2_with fail
  refine (Z0.out _).mono ?_
  rintro r w1 ⟨rfl, hb⟩
  have HB1 : Hid (Below w.heap.size w w1) := bTrans (bAlloc (Below.refl _ _) _) hb
  have HT1 : Hid (Below w.heap.size w w1) := HB1.out
  have SZ1 : Hid (w.heap.size ≤ w1.heap.size) := HB1.out.size
  have P0_1 : Hid (Box w1 w.heap.size (.slice px0 s0.length c0') (.slice py0 d0.length e0') 24) := (box_new w _ _ _).keep hb
  have LTP0 : Hid (w.heap.size < w1.heap.size) := P0_1.out.lt
  clear hb
  have P0c0 := P0_1.out.c0
  have P0c1 := P0_1.out.c1
  go_wp2_with fail
  refine (to_arr (H0.out.keep HT1.out) Ls0.out Ld0.out).mono ?_
  rintro r w2 ⟨vT0, rfl, ha, hb⟩
  obtain ⟨aT0, cT0, bT0, eT0, rfl, _, _, _, _⟩ := ha.arrI
  have T0_2 : Hid (Arr w1.heap.size w2.heap.size w2 (.agg #[.slice aT0 s0.length cT0, .slice bT0 d0.length eT0]) s0 d0) := ha.mono (by first | exact Nat.le_refl _ | simp | (simp; omega)) (Nat.le_refl _)
  clear ha
  have HB2 : Hid (Below w1.heap.size w1 w2) := hb
  have HT2 : Hid (Below w.heap.size w w2) := bTrans HT1.out HB2.out
  have SZ2 : Hid (w1.heap.size ≤ w2.heap.size) := HB2.out.size
  have P0_2 : Hid (Box w2 w.heap.size (.slice px0 s0.length c0') (.slice py0 d0.length e0') 24) := P0_1.out.keep HB2.out
  clear P0_1 P0c0 P0c1 hb
  have P0c0 := P0_2.out.c0
  have P0c1 := P0_2.out.c1
  go_wp2_with fail
  refine (SP.out _ _ (T0_2.out.arrI)).mono ?_
  rintro r w3 ⟨vW, rfl, ha, hb⟩
  obtain ⟨aW, cW, rfl, _⟩ := ha.bys
  have W_3 : Hid (BPiece w2.heap.size w3.heap.size w3 (.slice aW P.length cW) P) := ha.mono (by first | exact Nat.le_refl _ | simp | (simp; omega)) (Nat.le_refl _)
  clear ha
  have HB3 : Hid (Below w2.heap.size w2 w3) := hb
  have HT3 : Hid (Below w.heap.size w w3) := bTrans HT2.out HB3.out
  have SZ3 : Hid (w2.heap.size ≤ w3.heap.size) := HB3.out.size
  have P0_3 : Hid (Box w3 w.heap.size (.slice px0 s0.length c0') (.slice py0 d0.length e0') 24) := P0_2.out.keep HB3.out
  have T0_3 : Hid (Arr w1.heap.size w2.heap.size w3 (.agg #[.slice aT0 s0.length cT0, .slice bT0 d0.length eT0]) s0 d0) := T0_2.out.keep HB3.out
  clear P0_2 T0_2 P0c0 P0c1 hb
  have P0c0 := P0_3.out.c0
  have P0c1 := P0_3.out.c1
  go_wp2_with fail
  refine (to_arr (H0.out.keep HT3.out) Ls0.out Ld0.out).mono ?_
  rintro r w4 ⟨vX0, rfl, ha, hb⟩
  obtain ⟨aX0, cX0, bX0, eX0, rfl, _, _, _, _⟩ := ha.arrI
  have X0_4 : Hid (Arr w3.heap.size w4.heap.size w4 (.agg #[.slice aX0 s0.length cX0, .slice bX0 d0.length eX0]) s0 d0) := ha.mono (by first | exact Nat.le_refl _ | simp | (simp; omega)) (Nat.le_refl _)
  clear ha
  have HB4 : Hid (Below w3.heap.size w3 w4) := hb
  have HT4 : Hid (Below w.heap.size w w4) := bTrans HT3.out HB4.out
  have SZ4 : Hid (w3.heap.size ≤ w4.heap.size) := HB4.out.size
  have P0_4 : Hid (Box w4 w.heap.size (.slice px0 s0.length c0') (.slice py0 d0.length e0') 24) := P0_3.out.keep HB4.out
  have W_4 : Hid (BPiece w2.heap.size w3.heap.size w4 (.slice aW P.length cW) P) := W_3.out.keep HB4.out
  clear P0_3 W_3 P0c0 P0c1 hb
  have P0c0 := P0_4.out.c0
  have P0c1 := P0_4.out.c1
  have P0d0 : ∀ o : Obj, (w4.alloc o).cell? ⟨w.heap.size, 0, none⟩ = some (.slice px0 s0.length c0') := fun o => (P0_4.out.keep (bAlloc (Below.refl _ _) o)).c0
  have P0d1 : ∀ o : Obj, (w4.alloc o).cell? ⟨w.heap.size, 1, none⟩ = some (.slice py0 d0.length e0') := fun o => (P0_4.out.keep (bAlloc (Below.refl _ _) o)).c1
  go_wp2_with fail
  refine (IM.out _ _ ((X0_4.out.arrI).keep (bAlloc (Below.refl _ _) _))).mono ?_
  rintro r w5 ⟨vG, rfl, ha, hb⟩
  obtain ⟨aG, cG, rfl, _⟩ := ha.bys
  have G_5 : Hid (BPiece (w4.heap.size + 1) w5.heap.size w5 (.slice aG P.length cG) P) := ha.mono (by first | exact Nat.le_refl _ | simp | (simp; omega)) (Nat.le_refl _)
  clear ha
  have HB5 : Hid (Below w4.heap.size w4 w5) := bTrans (bAlloc (Below.refl _ _) _) hb
  have HT5 : Hid (Below w.heap.size w w5) := bTrans HT4.out HB5.out
  have SZ5 : Hid (w4.heap.size ≤ w5.heap.size) := HB5.out.size
  have P0_5 : Hid (Box w5 w.heap.size (.slice px0 s0.length c0') (.slice py0 d0.length e0') 24) := P0_4.out.keep HB5.out
  have W_5 : Hid (BPiece w2.heap.size w3.heap.size w5 (.slice aW P.length cW) P) := W_4.out.keep HB5.out
  have X0_5 : Hid (Arr w3.heap.size w4.heap.size w5 (.agg #[.slice aX0 s0.length cX0, .slice bX0 d0.length eX0]) s0 d0) := X0_4.out.keep HB5.out
  have QX0_5 : Hid (Box w5 w4.heap.size (.slice aX0 s0.length cX0) (.slice bX0 d0.length eX0) 29) := (box_new w4 _ _ _).keep hb
  have LTQX0 : Hid (w4.heap.size < w5.heap.size) := QX0_5.out.lt
  clear P0_4 W_4 X0_4 P0c0 P0c1 P0d0 P0d1 hb
  have P0c0 := P0_5.out.c0
  have P0c1 := P0_5.out.c1
  have QX0c0 := QX0_5.out.c0
  have QX0c1 := QX0_5.out.c1
  have hneV : (V != V) = false := by simp
  go_wp2_with fail
  refine (eqB_piece (G_5.out) (W_5.out) LP.out).mono ?_
  rintro r w6 ⟨rfl, hb⟩
  have HB6 : Hid (Below w5.heap.size w5 w6) := hb
  have HT6 : Hid (Below w.heap.size w w6) := bTrans HT5.out HB6.out
  have SZ6 : Hid (w5.heap.size ≤ w6.heap.size) := HB6.out.size
  have P0_6 : Hid (Box w6 w.heap.size (.slice px0 s0.length c0') (.slice py0 d0.length e0') 24) := P0_5.out.keep HB6.out
  have QX0_6 : Hid (Box w6 w4.heap.size (.slice aX0 s0.length cX0) (.slice bX0 d0.length eX0) 29) := QX0_5.out.keep HB6.out
  have W_6 : Hid (BPiece w2.heap.size w3.heap.size w6 (.slice aW P.length cW) P) := W_5.out.keep HB6.out
  have X0_6 : Hid (Arr w3.heap.size w4.heap.size w6 (.agg #[.slice aX0 s0.length cX0, .slice bX0 d0.length eX0]) s0 d0) := X0_5.out.keep HB6.out
  have G_6 : Hid (BPiece (w4.heap.size + 1) w5.heap.size w6 (.slice aG P.length cG) P) := G_5.out.keep HB6.out
  clear P0_5 QX0_5 W_5 X0_5 G_5 P0c0 P0c1 QX0c0 QX0c1 hb
  have P0c0 := P0_6.out.c0
  have P0c1 := P0_6.out.c1
  have QX0c0 := QX0_6.out.c0
  have QX0c1 := QX0_6.out.c1
  go_wp2_with fail
  go_region_held3 (fun w' => w'.cell? ⟨w.heap.size, 0, none⟩ = some (.slice px0 s0.length c0') ∧ w'.cell? ⟨w.heap.size, 1, none⟩ = some (.slice py0 d0.length e0') ∧ w'.cell? ⟨w4.heap.size, 0, none⟩ = some (.slice aX0 s0.length cX0) ∧ w'.cell? ⟨w4.heap.size, 1, none⟩ = some (.slice bX0 d0.length eX0))
    (first | exact ⟨z0, z1, z2, z3⟩ | exact ⟨y0, y1, y2, y3⟩ | exact ⟨P0c0, P0c1, QX0c0, QX0c1⟩)
    (first
      | (go_at_call 8; refine (to_arr (H0.out.keep (HT6.out.drew)) Ls0.out Ld0.out).mono ?_; rintro r wa7 ⟨va, rfl, ha, hb⟩; have AA7 : Hid (ArrI wa7 va s0 d0) := ha.arrI; have HA7 : Hid (Below w6.heap.size w6 wa7) := bTrans ((Below.refl w6.heap.size w6).drew) hb; have y0 := (P0_6.out.keep HA7.out).c0; have y1 := (P0_6.out.keep HA7.out).c1; have y2 := (QX0_6.out.keep HA7.out).c0; have y3 := (QX0_6.out.keep HA7.out).c1; clear ha hb)
      | (go_at_call 11; refine (eq_arrI (X0_6.out.arrI.keep HA7.out) AA7.out Ls0.out Ld0.out).mono ?_; rintro r w7 ⟨rfl, hb⟩; have HB7 : Hid (Below w6.heap.size w6 w7) := bTrans HA7.out hb; have z0 := (P0_6.out.keep HB7.out).c0; have z1 := (P0_6.out.keep HB7.out).c1; have z2 := (QX0_6.out.keep HB7.out).c0; have z3 := (QX0_6.out.keep HB7.out).c1; clear hb))
  have HT7 : Hid (Below w.heap.size w w7) := bTrans HT6.out HB7.out
  have SZ7 : Hid (w6.heap.size ≤ w7.heap.size) := HB7.out.size
  have P0_7 : Hid (Box w7 w.heap.size (.slice px0 s0.length c0') (.slice py0 d0.length e0') 24) := P0_6.out.keep HB7.out
  have QX0_7 : Hid (Box w7 w4.heap.size (.slice aX0 s0.length cX0) (.slice bX0 d0.length eX0) 29) := QX0_6.out.keep HB7.out
  have W_7 : Hid (BPiece w2.heap.size w3.heap.size w7 (.slice aW P.length cW) P) := W_6.out.keep HB7.out
  have X0_7 : Hid (Arr w3.heap.size w4.heap.size w7 (.agg #[.slice aX0 s0.length cX0, .slice bX0 d0.length eX0]) s0 d0) := X0_6.out.keep HB7.out
  have G_7 : Hid (BPiece (w4.heap.size + 1) w5.heap.size w7 (.slice aG P.length cG) P) := G_6.out.keep HB7.out
  clear P0_6 QX0_6 W_6 X0_6 G_6 P0c0 P0c1 QX0c0 QX0c1 y0 y1 y2 y3 z0 z1 z2 z3 AA7 HA7
  have P0c0 := P0_7.out.c0
  have P0c1 := P0_7.out.c1
  have QX0c0 := QX0_7.out.c0
  have QX0c1 := QX0_7.out.c1
  go_wp2_with fail
  refine (mark_arr X0_7.out Ls0.out Ld0.out (1 : Int) (by have := Ls0.out; have := Ld0.out; have := LP.out; omega) (by have := Ls0.out; have := Ld0.out; have := LP.out; omega)).mono ?_
  rintro r w8 ⟨rfl, ha, hw⟩
  have HT8 : Hid (Below w.heap.size w w8) := HT7.out.trans (hw.below (by have := SZ1.out; have := LTP0.out; have := SZ2.out; have := SZ3.out; have := SZ4.out; have := SZ5.out; have := LTQX0.out; have := SZ6.out; have := SZ7.out; omega) HT7.out.size)
  have SZ8 : Hid (w7.heap.size ≤ w8.heap.size) := hw.size
  have P0_8 : Hid (Box w8 w.heap.size (.slice px0 s0.length c0') (.slice py0 d0.length e0') 24) := P0_7.out.win hw (by have := SZ1.out; have := LTP0.out; have := SZ2.out; have := SZ3.out; have := SZ4.out; have := SZ5.out; have := LTQX0.out; have := SZ6.out; have := SZ7.out; omega)
  have QX0_8 : Hid (Box w8 w4.heap.size (.slice aX0 s0.length cX0) (.slice bX0 d0.length eX0) 29) := QX0_7.out.win hw (by have := SZ1.out; have := LTP0.out; have := SZ2.out; have := SZ3.out; have := SZ4.out; have := SZ5.out; have := LTQX0.out; have := SZ6.out; have := SZ7.out; omega)
  have W_8 : Hid (BPiece w2.heap.size w3.heap.size w8 (.slice aW P.length cW) P) := W_7.out.win hw (by have := SZ1.out; have := LTP0.out; have := SZ2.out; have := SZ3.out; have := SZ4.out; have := SZ5.out; have := LTQX0.out; have := SZ6.out; have := SZ7.out; omega)
  have G_8 : Hid (BPiece (w4.heap.size + 1) w5.heap.size w8 (.slice aG P.length cG) P) := G_7.out.win hw (by have := SZ1.out; have := LTP0.out; have := SZ2.out; have := SZ3.out; have := SZ4.out; have := SZ5.out; have := LTQX0.out; have := SZ6.out; have := SZ7.out; omega)
  have X0_8 : Hid (Arr w3.heap.size w4.heap.size w8 (.agg #[.slice aX0 s0.length cX0, .slice bX0 d0.length eX0]) (upFrom ((1 : Int)) s0.length) (upFrom ((1 : Int) + s0.length) d0.length)) := ha
  clear P0_7 QX0_7 W_7 G_7 X0_7 P0c0 P0c1 QX0c0 QX0c1 ha hw
  have P0c0 := P0_8.out.c0
  have P0c1 := P0_8.out.c1
  have QX0c0 := QX0_8.out.c0
  have QX0c1 := QX0_8.out.c1
  go_wp2_with fail
  refine (eqB_piece (G_8.out) (W_8.out) LP.out).mono ?_
  rintro r w9 ⟨rfl, hb⟩
  have HB9 : Hid (Below w8.heap.size w8 w9) := hb
  have HT9 : Hid (Below w.heap.size w w9) := bTrans HT8.out HB9.out
  have SZ9 : Hid (w8.heap.size ≤ w9.heap.size) := HB9.out.size
  have P0_9 : Hid (Box w9 w.heap.size (.slice px0 s0.length c0') (.slice py0 d0.length e0') 24) := P0_8.out.keep HB9.out
  have QX0_9 : Hid (Box w9 w4.heap.size (.slice aX0 s0.length cX0) (.slice bX0 d0.length eX0) 29) := QX0_8.out.keep HB9.out
  have W_9 : Hid (BPiece w2.heap.size w3.heap.size w9 (.slice aW P.length cW) P) := W_8.out.keep HB9.out
  have G_9 : Hid (BPiece (w4.heap.size + 1) w5.heap.size w9 (.slice aG P.length cG) P) := G_8.out.keep HB9.out
  clear P0_8 QX0_8 W_8 G_8 P0c0 P0c1 QX0c0 QX0c1 hb
  have P0c0 := P0_9.out.c0
  have P0c1 := P0_9.out.c1
  have QX0c0 := QX0_9.out.c0
  have QX0c1 := QX0_9.out.c1
  go_wp2_with fail
  refine (markB_piece G_9.out LP.out (1 : Int) (by have := Ls0.out; have := Ld0.out; have := LP.out; omega) (by have := Ls0.out; have := Ld0.out; have := LP.out; omega)).mono ?_
  rintro r w10 ⟨rfl, ha, hw⟩
  have HT10 : Hid (Below w.heap.size w w10) := HT9.out.trans (hw.below (by have := SZ1.out; have := LTP0.out; have := SZ2.out; have := SZ3.out; have := SZ4.out; have := SZ5.out; have := LTQX0.out; have := SZ6.out; have := SZ7.out; have := SZ8.out; have := SZ9.out; omega) HT9.out.size)
  have SZ10 : Hid (w9.heap.size ≤ w10.heap.size) := hw.size
  have P0_10 : Hid (Box w10 w.heap.size (.slice px0 s0.length c0') (.slice py0 d0.length e0') 24) := P0_9.out.win hw (by have := SZ1.out; have := LTP0.out; have := SZ2.out; have := SZ3.out; have := SZ4.out; have := SZ5.out; have := LTQX0.out; have := SZ6.out; have := SZ7.out; have := SZ8.out; have := SZ9.out; omega)
  have QX0_10 : Hid (Box w10 w4.heap.size (.slice aX0 s0.length cX0) (.slice bX0 d0.length eX0) 29) := QX0_9.out.win hw (by have := SZ1.out; have := LTP0.out; have := SZ2.out; have := SZ3.out; have := SZ4.out; have := SZ5.out; have := LTQX0.out; have := SZ6.out; have := SZ7.out; have := SZ8.out; have := SZ9.out; omega)
  have W_10 : Hid (BPiece w2.heap.size w3.heap.size w10 (.slice aW P.length cW) P) := W_9.out.win hw (by have := SZ1.out; have := LTP0.out; have := SZ2.out; have := SZ3.out; have := SZ4.out; have := SZ5.out; have := LTQX0.out; have := SZ6.out; have := SZ7.out; have := SZ8.out; have := SZ9.out; omega)
  have G_10 : Hid (BPiece (w4.heap.size + 1) w5.heap.size w10 (.slice aG P.length cG) (upB ((1 : Int)) P.length)) := ha
  clear P0_9 QX0_9 W_9 G_9 P0c0 P0c1 QX0c0 QX0c1 ha hw
  have P0c0 := P0_10.out.c0
  have P0c1 := P0_10.out.c1
  have QX0c0 := QX0_10.out.c0
  have QX0c1 := QX0_10.out.c1
  go_wp2_with fail
  refine (heldB_b (1 : Int) G_10.out LP.out (by decide) (by decide)).mono ?_
  rintro r w11 ⟨rfl, hb⟩
  have HB11 : Hid (Below w10.heap.size w10 w11) := hb
  have HT11 : Hid (Below w.heap.size w w11) := bTrans HT10.out HB11.out
  have SZ11 : Hid (w10.heap.size ≤ w11.heap.size) := HB11.out.size
  have P0_11 : Hid (Box w11 w.heap.size (.slice px0 s0.length c0') (.slice py0 d0.length e0') 24) := P0_10.out.keep HB11.out
  have QX0_11 : Hid (Box w11 w4.heap.size (.slice aX0 s0.length cX0) (.slice bX0 d0.length eX0) 29) := QX0_10.out.keep HB11.out
  have W_11 : Hid (BPiece w2.heap.size w3.heap.size w11 (.slice aW P.length cW) P) := W_10.out.keep HB11.out
  have G_11 : Hid (BPiece (w4.heap.size + 1) w5.heap.size w11 (.slice aG P.length cG) (upB ((1 : Int)) P.length)) := G_10.out.keep HB11.out
  clear P0_10 QX0_10 W_10 G_10 P0c0 P0c1 QX0c0 QX0c1 hb
  have P0c0 := P0_11.out.c0
  have P0c1 := P0_11.out.c1
  have QX0c0 := QX0_11.out.c0
  have QX0c1 := QX0_11.out.c1
  go_wp2_with fail
  refine (to_arr (H0.out.keep HT11.out) Ls0.out Ld0.out).mono ?_
  rintro r w12 ⟨vY0, rfl, ha, hb⟩
  obtain ⟨aY0, cY0, bY0, eY0, rfl, _, _, _, _⟩ := ha.arrI
  have Y0_12 : Hid (Arr w11.heap.size w12.heap.size w12 (.agg #[.slice aY0 s0.length cY0, .slice bY0 d0.length eY0]) s0 d0) := ha.mono (by first | exact Nat.le_refl _ | simp | (simp; omega)) (Nat.le_refl _)
  clear ha
  have HB12 : Hid (Below w11.heap.size w11 w12) := hb
  have HT12 : Hid (Below w.heap.size w w12) := bTrans HT11.out HB12.out
  have SZ12 : Hid (w11.heap.size ≤ w12.heap.size) := HB12.out.size
  have P0_12 : Hid (Box w12 w.heap.size (.slice px0 s0.length c0') (.slice py0 d0.length e0') 24) := P0_11.out.keep HB12.out
  have QX0_12 : Hid (Box w12 w4.heap.size (.slice aX0 s0.length cX0) (.slice bX0 d0.length eX0) 29) := QX0_11.out.keep HB12.out
  have W_12 : Hid (BPiece w2.heap.size w3.heap.size w12 (.slice aW P.length cW) P) := W_11.out.keep HB12.out
  have G_12 : Hid (BPiece (w4.heap.size + 1) w5.heap.size w12 (.slice aG P.length cG) (upB ((1 : Int)) P.length)) := G_11.out.keep HB12.out
  clear P0_11 QX0_11 W_11 G_11 P0c0 P0c1 QX0c0 QX0c1 hb
  have P0c0 := P0_12.out.c0
  have P0c1 := P0_12.out.c1
  have QX0c0 := QX0_12.out.c0
  have QX0c1 := QX0_12.out.c1
  go_wp2_with fail
  refine (IM.out _ _ (Y0_12.out.arrI)).mono ?_
  rintro r w13 ⟨vJ, rfl, ha, hb⟩
  obtain ⟨aJ, cJ, rfl, _⟩ := ha.bys
  have J_13 : Hid (BPiece w12.heap.size w13.heap.size w13 (.slice aJ P.length cJ) P) := ha.mono (by first | exact Nat.le_refl _ | simp | (simp; omega)) (Nat.le_refl _)
  clear ha
  have HB13 : Hid (Below w12.heap.size w12 w13) := hb
  have HT13 : Hid (Below w.heap.size w w13) := bTrans HT12.out HB13.out
  have SZ13 : Hid (w12.heap.size ≤ w13.heap.size) := HB13.out.size
  have P0_13 : Hid (Box w13 w.heap.size (.slice px0 s0.length c0') (.slice py0 d0.length e0') 24) := P0_12.out.keep HB13.out
  have QX0_13 : Hid (Box w13 w4.heap.size (.slice aX0 s0.length cX0) (.slice bX0 d0.length eX0) 29) := QX0_12.out.keep HB13.out
  have W_13 : Hid (BPiece w2.heap.size w3.heap.size w13 (.slice aW P.length cW) P) := W_12.out.keep HB13.out
  have G_13 : Hid (BPiece (w4.heap.size + 1) w5.heap.size w13 (.slice aG P.length cG) (upB ((1 : Int)) P.length)) := G_12.out.keep HB13.out
  have Y0_13 : Hid (Arr w11.heap.size w12.heap.size w13 (.agg #[.slice aY0 s0.length cY0, .slice bY0 d0.length eY0]) s0 d0) := Y0_12.out.keep HB13.out
  clear P0_12 QX0_12 W_12 G_12 Y0_12 P0c0 P0c1 QX0c0 QX0c1 hb
  have P0c0 := P0_13.out.c0
  have P0c1 := P0_13.out.c1
  have QX0c0 := QX0_13.out.c0
  have QX0c1 := QX0_13.out.c1
  go_wp2_with fail
  refine (eqB_piece (J_13.out) (W_13.out) LP.out).mono ?_
  rintro r w14 ⟨rfl, hb⟩
  have HB14 : Hid (Below w13.heap.size w13 w14) := hb
  have HT14 : Hid (Below w.heap.size w w14) := bTrans HT13.out HB14.out
  have SZ14 : Hid (w13.heap.size ≤ w14.heap.size) := HB14.out.size
  have P0_14 : Hid (Box w14 w.heap.size (.slice px0 s0.length c0') (.slice py0 d0.length e0') 24) := P0_13.out.keep HB14.out
  have QX0_14 : Hid (Box w14 w4.heap.size (.slice aX0 s0.length cX0) (.slice bX0 d0.length eX0) 29) := QX0_13.out.keep HB14.out
  have W_14 : Hid (BPiece w2.heap.size w3.heap.size w14 (.slice aW P.length cW) P) := W_13.out.keep HB14.out
  have G_14 : Hid (BPiece (w4.heap.size + 1) w5.heap.size w14 (.slice aG P.length cG) (upB ((1 : Int)) P.length)) := G_13.out.keep HB14.out
  have J_14 : Hid (BPiece w12.heap.size w13.heap.size w14 (.slice aJ P.length cJ) P) := J_13.out.keep HB14.out
  clear P0_13 QX0_13 W_13 G_13 J_13 P0c0 P0c1 QX0c0 QX0c1 hb
  have P0c0 := P0_14.out.c0
  have P0c1 := P0_14.out.c1
  have QX0c0 := QX0_14.out.c0
  have QX0c1 := QX0_14.out.c1
  go_wp2_with fail
  refine (heldB_b (1 : Int) G_14.out LP.out (by decide) (by decide)).mono ?_
  rintro r w15 ⟨rfl, hb⟩
  have HB15 : Hid (Below w14.heap.size w14 w15) := hb
  have HT15 : Hid (Below w.heap.size w w15) := bTrans HT14.out HB15.out
  have SZ15 : Hid (w14.heap.size ≤ w15.heap.size) := HB15.out.size
  have P0_15 : Hid (Box w15 w.heap.size (.slice px0 s0.length c0') (.slice py0 d0.length e0') 24) := P0_14.out.keep HB15.out
  have QX0_15 : Hid (Box w15 w4.heap.size (.slice aX0 s0.length cX0) (.slice bX0 d0.length eX0) 29) := QX0_14.out.keep HB15.out
  have G_15 : Hid (BPiece (w4.heap.size + 1) w5.heap.size w15 (.slice aG P.length cG) (upB ((1 : Int)) P.length)) := G_14.out.keep HB15.out
  clear P0_14 QX0_14 G_14 P0c0 P0c1 QX0c0 QX0c1 hb
  have P0c0 := P0_15.out.c0
  have P0c1 := P0_15.out.c1
  have QX0c0 := QX0_15.out.c0
  have QX0c1 := QX0_15.out.c1
  go_wp2
  go_ret
  exact ⟨rfl, HT15.out⟩

set_option maxRecDepth 100000 in
theorem lifted (os : Os) (started : os.Started) (H : Type) (enc : TypeId × Value → H) :
    ReturnsInHanded {} Try.checked os 3 .any (Rows.fnExactArrayPackSpec.pre6 enc Try.prog Try.f3 Rows.fnExactArrayPackRow.domain false) (Rows.fnExactArrayPackSpec.post enc Try.prog Try.f3 false true false false) := by
  refine returnsInHanded_of_change (C := Try.checked) own started (by kernel_rfl) Try.func3
    (ChangeSpec.witness6 (enc := enc) (C := Try.checked) false ⟨#[], #[.agg #[.slice none 0 0, .slice none 0 0]], []⟩ 8 (by kernel_rfl) (by kernel_rfl) (by kernel_rfl) (by kernel_rfl)) ?_
  intro W base args ds gs before hval0 hW hcnd _
  have hval : ∀ (j : Nat) t v, Try.f3.params[j]? = some t → args[j]? = some v → Value.okWide Try.prog W .any base t v := hval0
  have hW' := hW
  obtain ⟨p, q, hA0, hV, rfl, hfz, hnd⟩ := hW
  have hA : DataW.TrodAll enc Try.prog W 0 (fun _ => true) true Try.f3.params.toList args.toList ds p := hA0
  rw [Try.params3] at hA hval
  obtain ⟨v0, vs0, e0, es0, p0, q0, hargs, rfl, rfl, h0, r0⟩ := trodAll_cons hA
  obtain ⟨rfl, rfl, rfl⟩ := trodAll_nil r0
  obtain rfl : args = #[v0] := by cases args; simp_all
  obtain ⟨rfl, rfl⟩ := trodVars_none hV
  have k0 := h0
  have lt0 : ∀ x ∈ p0, x.block < W.heap.size := by obtain ⟨m, hm⟩ := k0; exact DataW.trod_lt m _ _ _ hm
  obtain ⟨x0, y0, f0, g0, m0, rfl, rfl, rfl, hf0, hg0⟩ := Joins.open_agg2 Try.underlying24 (by kernel_rfl) (by kernel_rfl) (hval 0 24 v0 rfl rfl) h0
  obtain ⟨s0, i0, b0⟩ := cell_ints hf0
  obtain ⟨d0, o0, c0⟩ := cell_ints hg0
  have w0 : ArrI W (.agg #[x0, y0]) s0 d0 := by obtain ⟨a, c, rfl, g, i⟩ := i0; obtain ⟨a2, c2, rfl, g2, i2⟩ := o0; exact ⟨a, c, a2, c2, rfl, i, i2, g, g2⟩
  clear hA0 hval0
  refine (walk _ s0 d0 W w0 b0 c0).mono fun e W' ⟨he, bel⟩ => ?_
  subst he
  exact ⟨_, rfl, _, _, _, [], _, [], hW', trodAll_mk1 (shut_bool Try.underlying4 _), (trodAll_cons_mk (Below.trod laidOut (by kernel_rfl) (of_decide_eq_true (by kernel_rfl)) k0 bel lt0) trodAll_mk0), rfl, bel.frame _, fun h => by cases h⟩

theorem over : Rows.fnExactArrayPackRow.holds Try.pinned (OpenSpec.ofChange Rows.fnExactArrayPackSpec) :=
  OpenClaim.holds_of_wide 3 Try.f3 rfl rfl rfl rfl rfl rfl rfl ⟨rfl, rfl, rfl, rfl, rfl⟩ rfl rfl rfl rfl rfl (by kernel_rfl) Try.func3 (by kernel_rfl)
    (of_decide_eq_true (by kernel_rfl)) (by unfold Func.isWrapper; first | (rw [if_pos (by decide +kernel)]; kernel_rfl) | (rw [if_neg (by decide +kernel)]; exact ⟨rfl, rfl⟩))
    (fun os started H enc _ => lifted os started H enc)

/-- The statement. -/
theorem proved : Rows.FnExactArrayPackSaid := over
end Go.Proofs.Ytonkiipdobpfgaa.fnExactArrayPack
namespace Go.Proofs.Ytonkiipdobpfgaa
theorem fnExactArrayPack_holds : Rows.FnExactArrayPackSaid := fnExactArrayPack.proved
#print axioms fnExactArrayPack_holds
end Go.Proofs.Ytonkiipdobpfgaa
