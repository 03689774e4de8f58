/-
  Proved: whatever number and array it is given, the law FnExactScan returns true (the program's Scan answers as the specification's, in memory of its own, and writes into no argument), and the array reads as before. No condition.
-/
import Derived.Test.YtcpgdhffemecbabRows
import Derived.WalkKit
import Derived.ProofKit
import Derived.OpenShut
import Derived.ShutString
import Derived.ChangeOld
import Derived.Below
import Derived.Deep.Cut
import Derived.Test.YtcpgdhffemecbabFrame
import Derived.Test.YtcpgdhffemecbabScanL
import Derived.Test.YtcpgdhffemecbabSpecScan
import Derived.Test.YtcpgdhffemecbabZ2
import Derived.Test.YtcpgdhffemecbabLaw3
namespace Go.Proofs.Ytcpgdhffemecbab.fnExactScan
open Go.ChangeShapes Go.WideShapes Go.ChangeAt Go.RowKit
open Go.ChangeMaps (open_string shut_string)
set_option linter.unusedVariables false
set_option linter.unusedSimpArgs false

theorem own : ownKnob Try.prog.godebug = none := by kernel_rfl
theorem laidOut : laidOutB Try.prog = true := by kernel_rfl

set_option maxRecDepth 20000 in
set_option maxHeartbeats 8000000 in
/-- The walk: the law returns true, and writes nothing that was there. -/
theorem walk (a0 : Int) (v1 : Value) (s1 d1 : List Int) (w : World) (w0 : (Lit.int .i64 a0).wf = true) (w1 : ArrI w v1 s1 d1) (b1 : s1.length ≤ 9223372036854775807) (c1 : d1.length ≤ 9223372036854775807) :
    Calls Try.prog 4 #[.int .i64 a0, v1] w fun e w' => e = .returned (.bool true) ∧ Below w.heap.size w w' := by
  have H1 : Hid (ArrI w v1 s1 d1) := w1
  obtain ⟨px1, c1', py1, e1', rfl, i1, i2, g1, g2⟩ := w1
  clear i1 i2 g1 g2
  by_cases big1 : (1048576 : Int) < (((s1.length + d1.length) : Nat) : Int)
  · have ZB : Hid (∀ W, Calls Try.prog 14 #[(.agg #[.slice px1 s1.length c1', .slice py1 d1.length e1']), .int .i64 1048576] W fun e w' => e = .returned (.int .i64 (-1)) ∧ Below W.heap.size W w') := fun W => szV_big (n := (s1.length + d1.length)) (left := 1048576) big1 ▸ sz_arr _ _ _ _ _ _ 1048576 W (by omega) (by omega) b1 c1
    clear big1
    go_enter Try.func4, Try.ntmps4
    go_wp2_with fail
    refine (ZB.out _).mono ?_
    rintro r w1 ⟨rfl, hb⟩
    have HB1 : Hid (Below w.heap.size w w1) := bTrans (bAlloc (Below.refl _ _) _) hb
    have HT1 : Hid (Below w.heap.size w w1) := HB1.out
    have SZ1 : Hid (w.heap.size ≤ w1.heap.size) := HB1.out.size
    have P1_1 : Hid (Box w1 w.heap.size (.slice px1 s1.length c1') (.slice py1 d1.length e1') 35) := (box_new w _ _ _).keep hb
    have LTP1 : Hid (w.heap.size < w1.heap.size) := P1_1.out.lt
    clear hb
    go_wp2
    go_ret
    exact ⟨rfl, HT1.out⟩
  obtain ⟨N1, hN1⟩ : ∃ N : Int, N = 1048576 - (((s1.length + d1.length) : Nat) : Int) := ⟨_, rfl⟩
  have Z1 : Hid (∀ W, Calls Try.prog 14 #[(.agg #[.slice px1 s1.length c1', .slice py1 d1.length e1']), .int .i64 1048576] W fun e w' => e = .returned (.int .i64 N1) ∧ Below W.heap.size W w') := fun W => hN1 ▸ szV_small (n := (s1.length + d1.length)) (left := 1048576) (by omega) ▸ sz_arr _ _ _ _ _ _ 1048576 W (by omega) (by omega) b1 c1
  have n1 : 0 ≤ N1 := by omega
  have m1 : N1 ≤ 1048576 := by omega
  have Ls1 : Hid (s1.length ≤ 1048576) := by show _ ≤ _; omega
  have Ld1 : Hid (d1.length ≤ 1048576) := by show _ ≤ _; omega
  clear big1 hN1 b1 c1
  obtain ⟨V, hV⟩ : ∃ x, x = (scanR a0 s1 d1).1 := ⟨_, rfl⟩
  obtain ⟨S, hS⟩ : ∃ x, x = (scanR a0 s1 d1).2.1 := ⟨_, rfl⟩
  obtain ⟨D, hD⟩ : ∃ x, x = (scanR a0 s1 d1).2.2 := ⟨_, rfl⟩
  have SP : Hid (∀ (W : World) (u1 : Value) (_ : ArrI W u1 s1 d1), Calls Try.prog 15 #[.int .i64 a0, u1] W fun e w' => ∃ v, e = .returned (.tuple #[v, .int .i64 V]) ∧ Arr W.heap.size w'.heap.size w' v S D ∧ Below W.heap.size W w') := by
    intro W u1 h1
    rw [hV, hS, hD]
    exact scan_spec h1 Ls1.out Ld1.out
  have IM : Hid (∀ (W : World) (u1 : Value) (_ : ArrI W u1 s1 d1), Calls Try.prog 17 #[.int .i64 a0, u1] W fun e w' => ∃ v, e = .returned (.tuple #[v, .int .i64 V]) ∧ Arr W.heap.size w'.heap.size w' v S D ∧ Below W.heap.size W w') := by
    intro W u1 h1
    rw [hV, hS, hD]
    exact scan_impl h1 Ls1.out Ld1.out
  have LS : Hid (S.length ≤ 1048576) := by show _ ≤ _; rw [hS]; exact (mkR_len (m := 1048576) (fun h => Ls1.out) (fun h => scan_len h Ld1.out)).1
  have LD : Hid (D.length ≤ 1048576) := by show _ ≤ _; rw [hD]; exact (mkR_len (n := 1048576) (fun h => Ls1.out) (fun h => scan_len h Ld1.out)).2
  clear hV hS hD
  go_enter Try.func4, Try.ntmps4
  go_wp2_with fail
  refine (Z1.out _).mono ?_
  rintro r w1 ⟨rfl, hb⟩
  have HB1 : Hid (Below w.heap.size w w1) := bTrans (bAlloc (Below.refl _ _) _) hb
  have HT1 : Hid (Below w.heap.size w w1) := HB1.out
  have SZ1 : Hid (w.heap.size ≤ w1.heap.size) := HB1.out.size
  have P1_1 : Hid (Box w1 w.heap.size (.slice px1 s1.length c1') (.slice py1 d1.length e1') 35) := (box_new w _ _ _).keep hb
  have LTP1 : Hid (w.heap.size < w1.heap.size) := P1_1.out.lt
  clear hb
  have P1c0 := P1_1.out.c0
  have P1c1 := P1_1.out.c1
  go_wp2_with fail
  refine (to_arr (H1.out.keep HT1.out) Ls1.out Ld1.out).mono ?_
  rintro r w2 ⟨vT1, rfl, ha, hb⟩
  obtain ⟨aT1, cT1, bT1, eT1, rfl, _, _, _, _⟩ := ha.arrI
  have T1_2 : Hid (Arr w1.heap.size w2.heap.size w2 (.agg #[.slice aT1 s1.length cT1, .slice bT1 d1.length eT1]) s1 d1) := ha.mono (by first | exact Nat.le_refl _ | simp | (simp; omega)) (Nat.le_refl _)
  clear ha
  have HB2 : Hid (Below w1.heap.size w1 w2) := hb
  have HT2 : Hid (Below w.heap.size w w2) := bTrans HT1.out HB2.out
  have SZ2 : Hid (w1.heap.size ≤ w2.heap.size) := HB2.out.size
  have P1_2 : Hid (Box w2 w.heap.size (.slice px1 s1.length c1') (.slice py1 d1.length e1') 35) := P1_1.out.keep HB2.out
  clear P1_1 P1c0 P1c1 hb
  have P1c0 := P1_2.out.c0
  have P1c1 := P1_2.out.c1
  go_wp2_with fail
  refine (SP.out _ _ (T1_2.out.arrI)).mono ?_
  rintro r w3 ⟨vW, rfl, ha, hb⟩
  obtain ⟨aW, cW, bW, eW, rfl, _, _, _, _⟩ := ha.arrI
  have W_3 : Hid (Arr w2.heap.size w3.heap.size w3 (.agg #[.slice aW S.length cW, .slice bW D.length eW]) S D) := ha.mono (by first | exact Nat.le_refl _ | simp | (simp; omega)) (Nat.le_refl _)
  clear ha
  have HB3 : Hid (Below w2.heap.size w2 w3) := hb
  have HT3 : Hid (Below w.heap.size w w3) := bTrans HT2.out HB3.out
  have SZ3 : Hid (w2.heap.size ≤ w3.heap.size) := HB3.out.size
  have P1_3 : Hid (Box w3 w.heap.size (.slice px1 s1.length c1') (.slice py1 d1.length e1') 35) := P1_2.out.keep HB3.out
  have T1_3 : Hid (Arr w1.heap.size w2.heap.size w3 (.agg #[.slice aT1 s1.length cT1, .slice bT1 d1.length eT1]) s1 d1) := T1_2.out.keep HB3.out
  clear P1_2 T1_2 P1c0 P1c1 hb
  have P1c0 := P1_3.out.c0
  have P1c1 := P1_3.out.c1
  have P1d0 : ∀ o : Obj, (w3.alloc o).cell? ⟨w.heap.size, 0, none⟩ = some (.slice px1 s1.length c1') := fun o => (P1_3.out.keep (bAlloc (Below.refl _ _) o)).c0
  have P1d1 : ∀ o : Obj, (w3.alloc o).cell? ⟨w.heap.size, 1, none⟩ = some (.slice py1 d1.length e1') := fun o => (P1_3.out.keep (bAlloc (Below.refl _ _) o)).c1
  go_wp2_with fail
  refine (to_arr ((H1.out.keep HT3.out).keep (bAlloc (Below.refl _ _) _)) Ls1.out Ld1.out).mono ?_
  rintro r w4 ⟨vX1, rfl, ha, hb⟩
  obtain ⟨aX1, cX1, bX1, eX1, rfl, _, _, _, _⟩ := ha.arrI
  have X1_4 : Hid (Arr (w3.heap.size + 1) w4.heap.size w4 (.agg #[.slice aX1 s1.length cX1, .slice bX1 d1.length eX1]) s1 d1) := ha.mono (by first | exact Nat.le_refl _ | simp | (simp; omega)) (Nat.le_refl _)
  clear ha
  have HB4 : Hid (Below w3.heap.size w3 w4) := bTrans (bAlloc (Below.refl _ _) _) hb
  have HT4 : Hid (Below w.heap.size w w4) := bTrans HT3.out HB4.out
  have SZ4 : Hid (w3.heap.size ≤ w4.heap.size) := HB4.out.size
  have P1_4 : Hid (Box w4 w.heap.size (.slice px1 s1.length c1') (.slice py1 d1.length e1') 35) := P1_3.out.keep HB4.out
  have W_4 : Hid (Arr w2.heap.size w3.heap.size w4 (.agg #[.slice aW S.length cW, .slice bW D.length eW]) S D) := W_3.out.keep HB4.out
  have QW_4 : Hid (Box w4 w3.heap.size (.slice aW S.length cW) (.slice bW D.length eW) 26) := (box_new w3 _ _ _).keep hb
  have LTQW : Hid (w3.heap.size < w4.heap.size) := QW_4.out.lt
  clear P1_3 W_3 P1c0 P1c1 P1d0 P1d1 hb
  have P1c0 := P1_4.out.c0
  have P1c1 := P1_4.out.c1
  have P1d0 : ∀ o : Obj, (w4.alloc o).cell? ⟨w.heap.size, 0, none⟩ = some (.slice px1 s1.length c1') := fun o => (P1_4.out.keep (bAlloc (Below.refl _ _) o)).c0
  have P1d1 : ∀ o : Obj, (w4.alloc o).cell? ⟨w.heap.size, 1, none⟩ = some (.slice py1 d1.length e1') := fun o => (P1_4.out.keep (bAlloc (Below.refl _ _) o)).c1
  have QWc0 := QW_4.out.c0
  have QWc1 := QW_4.out.c1
  have QWd0 : ∀ o : Obj, (w4.alloc o).cell? ⟨w3.heap.size, 0, none⟩ = some (.slice aW S.length cW) := fun o => (QW_4.out.keep (bAlloc (Below.refl _ _) o)).c0
  have QWd1 : ∀ o : Obj, (w4.alloc o).cell? ⟨w3.heap.size, 1, none⟩ = some (.slice bW D.length eW) := fun o => (QW_4.out.keep (bAlloc (Below.refl _ _) o)).c1
  go_wp2_with fail
  refine (IM.out _ _ ((X1_4.out.arrI).keep (bAlloc (Below.refl _ _) _))).mono ?_
  rintro r w5 ⟨vG, rfl, ha, hb⟩
  obtain ⟨aG, cG, bG, eG, rfl, _, _, _, _⟩ := ha.arrI
  have G_5 : Hid (Arr (w4.heap.size + 1) w5.heap.size w5 (.agg #[.slice aG S.length cG, .slice bG D.length eG]) S D) := ha.mono (by first | exact Nat.le_refl _ | simp | (simp; omega)) (Nat.le_refl _)
  clear ha
  have HB5 : Hid (Below w4.heap.size w4 w5) := bTrans (bAlloc (Below.refl _ _) _) hb
  have HT5 : Hid (Below w.heap.size w w5) := bTrans HT4.out HB5.out
  have SZ5 : Hid (w4.heap.size ≤ w5.heap.size) := HB5.out.size
  have P1_5 : Hid (Box w5 w.heap.size (.slice px1 s1.length c1') (.slice py1 d1.length e1') 35) := P1_4.out.keep HB5.out
  have QW_5 : Hid (Box w5 w3.heap.size (.slice aW S.length cW) (.slice bW D.length eW) 26) := QW_4.out.keep HB5.out
  have W_5 : Hid (Arr w2.heap.size w3.heap.size w5 (.agg #[.slice aW S.length cW, .slice bW D.length eW]) S D) := W_4.out.keep HB5.out
  have X1_5 : Hid (Arr (w3.heap.size + 1) w4.heap.size w5 (.agg #[.slice aX1 s1.length cX1, .slice bX1 d1.length eX1]) s1 d1) := X1_4.out.keep HB5.out
  have QX1_5 : Hid (Box w5 w4.heap.size (.slice aX1 s1.length cX1) (.slice bX1 d1.length eX1) 26) := (box_new w4 _ _ _).keep hb
  have LTQX1 : Hid (w4.heap.size < w5.heap.size) := QX1_5.out.lt
  clear P1_4 QW_4 W_4 X1_4 P1c0 P1c1 P1d0 P1d1 QWc0 QWc1 QWd0 QWd1 hb
  have P1c0 := P1_5.out.c0
  have P1c1 := P1_5.out.c1
  have P1d0 : ∀ o : Obj, (w5.alloc o).cell? ⟨w.heap.size, 0, none⟩ = some (.slice px1 s1.length c1') := fun o => (P1_5.out.keep (bAlloc (Below.refl _ _) o)).c0
  have P1d1 : ∀ o : Obj, (w5.alloc o).cell? ⟨w.heap.size, 1, none⟩ = some (.slice py1 d1.length e1') := fun o => (P1_5.out.keep (bAlloc (Below.refl _ _) o)).c1
  have QWc0 := QW_5.out.c0
  have QWc1 := QW_5.out.c1
  have QWd0 : ∀ o : Obj, (w5.alloc o).cell? ⟨w3.heap.size, 0, none⟩ = some (.slice aW S.length cW) := fun o => (QW_5.out.keep (bAlloc (Below.refl _ _) o)).c0
  have QWd1 : ∀ o : Obj, (w5.alloc o).cell? ⟨w3.heap.size, 1, none⟩ = some (.slice bW D.length eW) := fun o => (QW_5.out.keep (bAlloc (Below.refl _ _) o)).c1
  have QX1c0 := QX1_5.out.c0
  have QX1c1 := QX1_5.out.c1
  have QX1d0 : ∀ o : Obj, (w5.alloc o).cell? ⟨w4.heap.size, 0, none⟩ = some (.slice aX1 s1.length cX1) := fun o => (QX1_5.out.keep (bAlloc (Below.refl _ _) o)).c0
  have QX1d1 : ∀ o : Obj, (w5.alloc o).cell? ⟨w4.heap.size, 1, none⟩ = some (.slice bX1 d1.length eX1) := fun o => (QX1_5.out.keep (bAlloc (Below.refl _ _) o)).c1
  have hneV : (V != V) = false := by simp
  go_wp2_with fail
  refine (eq_arrI ((G_5.out.arrI).keep (bAlloc (Below.refl _ _) _)) ((W_5.out.arrI).keep (bAlloc (Below.refl _ _) _)) LS.out LD.out).mono ?_
  rintro r w6 ⟨rfl, hb⟩
  have HB6 : Hid (Below w5.heap.size w5 w6) := bTrans (bAlloc (Below.refl _ _) _) hb
  have HT6 : Hid (Below w.heap.size w w6) := bTrans HT5.out HB6.out
  have SZ6 : Hid (w5.heap.size ≤ w6.heap.size) := HB6.out.size
  have P1_6 : Hid (Box w6 w.heap.size (.slice px1 s1.length c1') (.slice py1 d1.length e1') 35) := P1_5.out.keep HB6.out
  have QW_6 : Hid (Box w6 w3.heap.size (.slice aW S.length cW) (.slice bW D.length eW) 26) := QW_5.out.keep HB6.out
  have QX1_6 : Hid (Box w6 w4.heap.size (.slice aX1 s1.length cX1) (.slice bX1 d1.length eX1) 26) := QX1_5.out.keep HB6.out
  have W_6 : Hid (Arr w2.heap.size w3.heap.size w6 (.agg #[.slice aW S.length cW, .slice bW D.length eW]) S D) := W_5.out.keep HB6.out
  have X1_6 : Hid (Arr (w3.heap.size + 1) w4.heap.size w6 (.agg #[.slice aX1 s1.length cX1, .slice bX1 d1.length eX1]) s1 d1) := X1_5.out.keep HB6.out
  have G_6 : Hid (Arr (w4.heap.size + 1) w5.heap.size w6 (.agg #[.slice aG S.length cG, .slice bG D.length eG]) S D) := G_5.out.keep HB6.out
  have QG_6 : Hid (Box w6 w5.heap.size (.slice aG S.length cG) (.slice bG D.length eG) 26) := (box_new w5 _ _ _).keep hb
  have LTQG : Hid (w5.heap.size < w6.heap.size) := QG_6.out.lt
  clear P1_5 QW_5 QX1_5 W_5 X1_5 G_5 P1c0 P1c1 P1d0 P1d1 QWc0 QWc1 QWd0 QWd1 QX1c0 QX1c1 QX1d0 QX1d1 hb
  have P1c0 := P1_6.out.c0
  have P1c1 := P1_6.out.c1
  have QWc0 := QW_6.out.c0
  have QWc1 := QW_6.out.c1
  have QX1c0 := QX1_6.out.c0
  have QX1c1 := QX1_6.out.c1
  have QGc0 := QG_6.out.c0
  have QGc1 := QG_6.out.c1
  go_wp2_with fail
  go_region_held3 (fun w' => w'.cell? ⟨w.heap.size, 0, none⟩ = some (.slice px1 s1.length c1') ∧ w'.cell? ⟨w.heap.size, 1, none⟩ = some (.slice py1 d1.length e1') ∧ w'.cell? ⟨w4.heap.size, 0, none⟩ = some (.slice aX1 s1.length cX1) ∧ w'.cell? ⟨w4.heap.size, 1, none⟩ = some (.slice bX1 d1.length eX1))
    (first | exact ⟨z0, z1, z2, z3⟩ | exact ⟨y0, y1, y2, y3⟩ | exact ⟨P1c0, P1c1, QX1c0, QX1c1⟩)
    (first
      | (go_at_call 16; refine (to_arr (H1.out.keep (HT6.out.drew)) Ls1.out Ld1.out).mono ?_; rintro r wa7 ⟨va, rfl, ha, hb⟩; have AA7 : Hid (ArrI wa7 va s1 d1) := ha.arrI; have HA7 : Hid (Below w6.heap.size w6 wa7) := bTrans ((Below.refl w6.heap.size w6).drew) hb; have y0 := (P1_6.out.keep HA7.out).c0; have y1 := (P1_6.out.keep HA7.out).c1; have y2 := (QX1_6.out.keep HA7.out).c0; have y3 := (QX1_6.out.keep HA7.out).c1; clear ha hb)
      | (go_at_call 18; refine (eq_arrI (X1_6.out.arrI.keep HA7.out) AA7.out Ls1.out Ld1.out).mono ?_; rintro r w7 ⟨rfl, hb⟩; have HB7 : Hid (Below w6.heap.size w6 w7) := bTrans HA7.out hb; have z0 := (P1_6.out.keep HB7.out).c0; have z1 := (P1_6.out.keep HB7.out).c1; have z2 := (QX1_6.out.keep HB7.out).c0; have z3 := (QX1_6.out.keep HB7.out).c1; clear hb))
  have HT7 : Hid (Below w.heap.size w w7) := bTrans HT6.out HB7.out
  have SZ7 : Hid (w6.heap.size ≤ w7.heap.size) := HB7.out.size
  have P1_7 : Hid (Box w7 w.heap.size (.slice px1 s1.length c1') (.slice py1 d1.length e1') 35) := P1_6.out.keep HB7.out
  have QW_7 : Hid (Box w7 w3.heap.size (.slice aW S.length cW) (.slice bW D.length eW) 26) := QW_6.out.keep HB7.out
  have QX1_7 : Hid (Box w7 w4.heap.size (.slice aX1 s1.length cX1) (.slice bX1 d1.length eX1) 26) := QX1_6.out.keep HB7.out
  have QG_7 : Hid (Box w7 w5.heap.size (.slice aG S.length cG) (.slice bG D.length eG) 26) := QG_6.out.keep HB7.out
  have W_7 : Hid (Arr w2.heap.size w3.heap.size w7 (.agg #[.slice aW S.length cW, .slice bW D.length eW]) S D) := W_6.out.keep HB7.out
  have X1_7 : Hid (Arr (w3.heap.size + 1) w4.heap.size w7 (.agg #[.slice aX1 s1.length cX1, .slice bX1 d1.length eX1]) s1 d1) := X1_6.out.keep HB7.out
  have G_7 : Hid (Arr (w4.heap.size + 1) w5.heap.size w7 (.agg #[.slice aG S.length cG, .slice bG D.length eG]) S D) := G_6.out.keep HB7.out
  clear P1_6 QW_6 QX1_6 QG_6 W_6 X1_6 G_6 P1c0 P1c1 QWc0 QWc1 QX1c0 QX1c1 QGc0 QGc1 y0 y1 y2 y3 z0 z1 z2 z3 AA7 HA7
  have P1c0 := P1_7.out.c0
  have P1c1 := P1_7.out.c1
  have QWc0 := QW_7.out.c0
  have QWc1 := QW_7.out.c1
  have QX1c0 := QX1_7.out.c0
  have QX1c1 := QX1_7.out.c1
  have QGc0 := QG_7.out.c0
  have QGc1 := QG_7.out.c1
  go_wp2_with fail
  refine (mark_arr X1_7.out Ls1.out Ld1.out (1 : Int) (by have := Ls1.out; have := Ld1.out; have := LS.out; have := LD.out; omega) (by have := Ls1.out; have := Ld1.out; have := LS.out; have := LD.out; omega)).mono ?_
  rintro r w8 ⟨rfl, ha, hw⟩
  have HT8 : Hid (Below w.heap.size w w8) := HT7.out.trans (hw.below (by have := SZ1.out; have := LTP1.out; have := SZ2.out; have := SZ3.out; have := SZ4.out; have := LTQW.out; have := SZ5.out; have := LTQX1.out; have := SZ6.out; have := LTQG.out; have := SZ7.out; omega) HT7.out.size)
  have SZ8 : Hid (w7.heap.size ≤ w8.heap.size) := hw.size
  have P1_8 : Hid (Box w8 w.heap.size (.slice px1 s1.length c1') (.slice py1 d1.length e1') 35) := P1_7.out.win hw (by have := SZ1.out; have := LTP1.out; have := SZ2.out; have := SZ3.out; have := SZ4.out; have := LTQW.out; have := SZ5.out; have := LTQX1.out; have := SZ6.out; have := LTQG.out; have := SZ7.out; omega)
  have QW_8 : Hid (Box w8 w3.heap.size (.slice aW S.length cW) (.slice bW D.length eW) 26) := QW_7.out.win hw (by have := SZ1.out; have := LTP1.out; have := SZ2.out; have := SZ3.out; have := SZ4.out; have := LTQW.out; have := SZ5.out; have := LTQX1.out; have := SZ6.out; have := LTQG.out; have := SZ7.out; omega)
  have QX1_8 : Hid (Box w8 w4.heap.size (.slice aX1 s1.length cX1) (.slice bX1 d1.length eX1) 26) := QX1_7.out.win hw (by have := SZ1.out; have := LTP1.out; have := SZ2.out; have := SZ3.out; have := SZ4.out; have := LTQW.out; have := SZ5.out; have := LTQX1.out; have := SZ6.out; have := LTQG.out; have := SZ7.out; omega)
  have QG_8 : Hid (Box w8 w5.heap.size (.slice aG S.length cG) (.slice bG D.length eG) 26) := QG_7.out.win hw (by have := SZ1.out; have := LTP1.out; have := SZ2.out; have := SZ3.out; have := SZ4.out; have := LTQW.out; have := SZ5.out; have := LTQX1.out; have := SZ6.out; have := LTQG.out; have := SZ7.out; omega)
  have W_8 : Hid (Arr w2.heap.size w3.heap.size w8 (.agg #[.slice aW S.length cW, .slice bW D.length eW]) S D) := W_7.out.win hw (by have := SZ1.out; have := LTP1.out; have := SZ2.out; have := SZ3.out; have := SZ4.out; have := LTQW.out; have := SZ5.out; have := LTQX1.out; have := SZ6.out; have := LTQG.out; have := SZ7.out; omega)
  have G_8 : Hid (Arr (w4.heap.size + 1) w5.heap.size w8 (.agg #[.slice aG S.length cG, .slice bG D.length eG]) S D) := G_7.out.win hw (by have := SZ1.out; have := LTP1.out; have := SZ2.out; have := SZ3.out; have := SZ4.out; have := LTQW.out; have := SZ5.out; have := LTQX1.out; have := SZ6.out; have := LTQG.out; have := SZ7.out; omega)
  have X1_8 : Hid (Arr (w3.heap.size + 1) w4.heap.size w8 (.agg #[.slice aX1 s1.length cX1, .slice bX1 d1.length eX1]) (upFrom ((1 : Int)) s1.length) (upFrom ((1 : Int) + s1.length) d1.length)) := ha
  clear P1_7 QW_7 QX1_7 QG_7 W_7 G_7 X1_7 P1c0 P1c1 QWc0 QWc1 QX1c0 QX1c1 QGc0 QGc1 ha hw
  have P1c0 := P1_8.out.c0
  have P1c1 := P1_8.out.c1
  have QWc0 := QW_8.out.c0
  have QWc1 := QW_8.out.c1
  have QX1c0 := QX1_8.out.c0
  have QX1c1 := QX1_8.out.c1
  have QGc0 := QG_8.out.c0
  have QGc1 := QG_8.out.c1
  go_wp2_with fail
  refine (eq_arrI (G_8.out.arrI) (W_8.out.arrI) LS.out LD.out).mono ?_
  rintro r w9 ⟨rfl, hb⟩
  have HB9 : Hid (Below w8.heap.size w8 w9) := hb
  have HT9 : Hid (Below w.heap.size w w9) := bTrans HT8.out HB9.out
  have SZ9 : Hid (w8.heap.size ≤ w9.heap.size) := HB9.out.size
  have P1_9 : Hid (Box w9 w.heap.size (.slice px1 s1.length c1') (.slice py1 d1.length e1') 35) := P1_8.out.keep HB9.out
  have QW_9 : Hid (Box w9 w3.heap.size (.slice aW S.length cW) (.slice bW D.length eW) 26) := QW_8.out.keep HB9.out
  have QX1_9 : Hid (Box w9 w4.heap.size (.slice aX1 s1.length cX1) (.slice bX1 d1.length eX1) 26) := QX1_8.out.keep HB9.out
  have QG_9 : Hid (Box w9 w5.heap.size (.slice aG S.length cG) (.slice bG D.length eG) 26) := QG_8.out.keep HB9.out
  have W_9 : Hid (Arr w2.heap.size w3.heap.size w9 (.agg #[.slice aW S.length cW, .slice bW D.length eW]) S D) := W_8.out.keep HB9.out
  have G_9 : Hid (Arr (w4.heap.size + 1) w5.heap.size w9 (.agg #[.slice aG S.length cG, .slice bG D.length eG]) S D) := G_8.out.keep HB9.out
  clear P1_8 QW_8 QX1_8 QG_8 W_8 G_8 P1c0 P1c1 QWc0 QWc1 QX1c0 QX1c1 QGc0 QGc1 hb
  have P1c0 := P1_9.out.c0
  have P1c1 := P1_9.out.c1
  have QWc0 := QW_9.out.c0
  have QWc1 := QW_9.out.c1
  have QX1c0 := QX1_9.out.c0
  have QX1c1 := QX1_9.out.c1
  have QGc0 := QG_9.out.c0
  have QGc1 := QG_9.out.c1
  go_wp2_with fail
  refine (mark_arr G_9.out LS.out LD.out (1 : Int) (by have := Ls1.out; have := Ld1.out; have := LS.out; have := LD.out; omega) (by have := Ls1.out; have := Ld1.out; have := LS.out; have := LD.out; omega)).mono ?_
  rintro r w10 ⟨rfl, ha, hw⟩
  have HT10 : Hid (Below w.heap.size w w10) := HT9.out.trans (hw.below (by have := SZ1.out; have := LTP1.out; have := SZ2.out; have := SZ3.out; have := SZ4.out; have := LTQW.out; have := SZ5.out; have := LTQX1.out; have := SZ6.out; have := LTQG.out; have := SZ7.out; have := SZ8.out; have := SZ9.out; omega) HT9.out.size)
  have SZ10 : Hid (w9.heap.size ≤ w10.heap.size) := hw.size
  have P1_10 : Hid (Box w10 w.heap.size (.slice px1 s1.length c1') (.slice py1 d1.length e1') 35) := P1_9.out.win hw (by have := SZ1.out; have := LTP1.out; have := SZ2.out; have := SZ3.out; have := SZ4.out; have := LTQW.out; have := SZ5.out; have := LTQX1.out; have := SZ6.out; have := LTQG.out; have := SZ7.out; have := SZ8.out; have := SZ9.out; omega)
  have QW_10 : Hid (Box w10 w3.heap.size (.slice aW S.length cW) (.slice bW D.length eW) 26) := QW_9.out.win hw (by have := SZ1.out; have := LTP1.out; have := SZ2.out; have := SZ3.out; have := SZ4.out; have := LTQW.out; have := SZ5.out; have := LTQX1.out; have := SZ6.out; have := LTQG.out; have := SZ7.out; have := SZ8.out; have := SZ9.out; omega)
  have QX1_10 : Hid (Box w10 w4.heap.size (.slice aX1 s1.length cX1) (.slice bX1 d1.length eX1) 26) := QX1_9.out.win hw (by have := SZ1.out; have := LTP1.out; have := SZ2.out; have := SZ3.out; have := SZ4.out; have := LTQW.out; have := SZ5.out; have := LTQX1.out; have := SZ6.out; have := LTQG.out; have := SZ7.out; have := SZ8.out; have := SZ9.out; omega)
  have QG_10 : Hid (Box w10 w5.heap.size (.slice aG S.length cG) (.slice bG D.length eG) 26) := QG_9.out.win hw (by have := SZ1.out; have := LTP1.out; have := SZ2.out; have := SZ3.out; have := SZ4.out; have := LTQW.out; have := SZ5.out; have := LTQX1.out; have := SZ6.out; have := LTQG.out; have := SZ7.out; have := SZ8.out; have := SZ9.out; omega)
  have W_10 : Hid (Arr w2.heap.size w3.heap.size w10 (.agg #[.slice aW S.length cW, .slice bW D.length eW]) S D) := W_9.out.win hw (by have := SZ1.out; have := LTP1.out; have := SZ2.out; have := SZ3.out; have := SZ4.out; have := LTQW.out; have := SZ5.out; have := LTQX1.out; have := SZ6.out; have := LTQG.out; have := SZ7.out; have := SZ8.out; have := SZ9.out; omega)
  have G_10 : Hid (Arr (w4.heap.size + 1) w5.heap.size w10 (.agg #[.slice aG S.length cG, .slice bG D.length eG]) (upFrom ((1 : Int)) S.length) (upFrom ((1 : Int) + S.length) D.length)) := ha
  clear P1_9 QW_9 QX1_9 QG_9 W_9 G_9 P1c0 P1c1 QWc0 QWc1 QX1c0 QX1c1 QGc0 QGc1 ha hw
  have P1c0 := P1_10.out.c0
  have P1c1 := P1_10.out.c1
  have QWc0 := QW_10.out.c0
  have QWc1 := QW_10.out.c1
  have QX1c0 := QX1_10.out.c0
  have QX1c1 := QX1_10.out.c1
  have QGc0 := QG_10.out.c0
  have QGc1 := QG_10.out.c1
  go_wp2_with fail
  refine (held_arr (1 : Int) G_10.out LS.out LD.out (by decide) (by decide)).mono ?_
  rintro r w11 ⟨rfl, hb⟩
  have HB11 : Hid (Below w10.heap.size w10 w11) := hb
  have HT11 : Hid (Below w.heap.size w w11) := bTrans HT10.out HB11.out
  have SZ11 : Hid (w10.heap.size ≤ w11.heap.size) := HB11.out.size
  have P1_11 : Hid (Box w11 w.heap.size (.slice px1 s1.length c1') (.slice py1 d1.length e1') 35) := P1_10.out.keep HB11.out
  have QW_11 : Hid (Box w11 w3.heap.size (.slice aW S.length cW) (.slice bW D.length eW) 26) := QW_10.out.keep HB11.out
  have QX1_11 : Hid (Box w11 w4.heap.size (.slice aX1 s1.length cX1) (.slice bX1 d1.length eX1) 26) := QX1_10.out.keep HB11.out
  have QG_11 : Hid (Box w11 w5.heap.size (.slice aG S.length cG) (.slice bG D.length eG) 26) := QG_10.out.keep HB11.out
  have W_11 : Hid (Arr w2.heap.size w3.heap.size w11 (.agg #[.slice aW S.length cW, .slice bW D.length eW]) S D) := W_10.out.keep HB11.out
  have G_11 : Hid (Arr (w4.heap.size + 1) w5.heap.size w11 (.agg #[.slice aG S.length cG, .slice bG D.length eG]) (upFrom ((1 : Int)) S.length) (upFrom ((1 : Int) + S.length) D.length)) := G_10.out.keep HB11.out
  clear P1_10 QW_10 QX1_10 QG_10 W_10 G_10 P1c0 P1c1 QWc0 QWc1 QX1c0 QX1c1 QGc0 QGc1 hb
  have P1c0 := P1_11.out.c0
  have P1c1 := P1_11.out.c1
  have QWc0 := QW_11.out.c0
  have QWc1 := QW_11.out.c1
  have QX1c0 := QX1_11.out.c0
  have QX1c1 := QX1_11.out.c1
  have QGc0 := QG_11.out.c0
  have QGc1 := QG_11.out.c1
  go_wp2_with fail
  refine (to_arr (H1.out.keep HT11.out) Ls1.out Ld1.out).mono ?_
  rintro r w12 ⟨vY1, rfl, ha, hb⟩
  obtain ⟨aY1, cY1, bY1, eY1, rfl, _, _, _, _⟩ := ha.arrI
  have Y1_12 : Hid (Arr w11.heap.size w12.heap.size w12 (.agg #[.slice aY1 s1.length cY1, .slice bY1 d1.length eY1]) s1 d1) := ha.mono (by first | exact Nat.le_refl _ | simp | (simp; omega)) (Nat.le_refl _)
  clear ha
  have HB12 : Hid (Below w11.heap.size w11 w12) := hb
  have HT12 : Hid (Below w.heap.size w w12) := bTrans HT11.out HB12.out
  have SZ12 : Hid (w11.heap.size ≤ w12.heap.size) := HB12.out.size
  have P1_12 : Hid (Box w12 w.heap.size (.slice px1 s1.length c1') (.slice py1 d1.length e1') 35) := P1_11.out.keep HB12.out
  have QW_12 : Hid (Box w12 w3.heap.size (.slice aW S.length cW) (.slice bW D.length eW) 26) := QW_11.out.keep HB12.out
  have QX1_12 : Hid (Box w12 w4.heap.size (.slice aX1 s1.length cX1) (.slice bX1 d1.length eX1) 26) := QX1_11.out.keep HB12.out
  have QG_12 : Hid (Box w12 w5.heap.size (.slice aG S.length cG) (.slice bG D.length eG) 26) := QG_11.out.keep HB12.out
  have W_12 : Hid (Arr w2.heap.size w3.heap.size w12 (.agg #[.slice aW S.length cW, .slice bW D.length eW]) S D) := W_11.out.keep HB12.out
  have G_12 : Hid (Arr (w4.heap.size + 1) w5.heap.size w12 (.agg #[.slice aG S.length cG, .slice bG D.length eG]) (upFrom ((1 : Int)) S.length) (upFrom ((1 : Int) + S.length) D.length)) := G_11.out.keep HB12.out
  clear P1_11 QW_11 QX1_11 QG_11 W_11 G_11 P1c0 P1c1 QWc0 QWc1 QX1c0 QX1c1 QGc0 QGc1 hb
  have P1c0 := P1_12.out.c0
  have P1c1 := P1_12.out.c1
  have QWc0 := QW_12.out.c0
  have QWc1 := QW_12.out.c1
  have QX1c0 := QX1_12.out.c0
  have QX1c1 := QX1_12.out.c1
  have QGc0 := QG_12.out.c0
  have QGc1 := QG_12.out.c1
  go_wp2_with fail
  refine (IM.out _ _ (Y1_12.out.arrI)).mono ?_
  rintro r w13 ⟨vJ, rfl, ha, hb⟩
  obtain ⟨aJ, cJ, bJ, eJ, rfl, _, _, _, _⟩ := ha.arrI
  have J_13 : Hid (Arr w12.heap.size w13.heap.size w13 (.agg #[.slice aJ S.length cJ, .slice bJ D.length eJ]) S D) := ha.mono (by first | exact Nat.le_refl _ | simp | (simp; omega)) (Nat.le_refl _)
  clear ha
  have HB13 : Hid (Below w12.heap.size w12 w13) := hb
  have HT13 : Hid (Below w.heap.size w w13) := bTrans HT12.out HB13.out
  have SZ13 : Hid (w12.heap.size ≤ w13.heap.size) := HB13.out.size
  have P1_13 : Hid (Box w13 w.heap.size (.slice px1 s1.length c1') (.slice py1 d1.length e1') 35) := P1_12.out.keep HB13.out
  have QW_13 : Hid (Box w13 w3.heap.size (.slice aW S.length cW) (.slice bW D.length eW) 26) := QW_12.out.keep HB13.out
  have QX1_13 : Hid (Box w13 w4.heap.size (.slice aX1 s1.length cX1) (.slice bX1 d1.length eX1) 26) := QX1_12.out.keep HB13.out
  have QG_13 : Hid (Box w13 w5.heap.size (.slice aG S.length cG) (.slice bG D.length eG) 26) := QG_12.out.keep HB13.out
  have W_13 : Hid (Arr w2.heap.size w3.heap.size w13 (.agg #[.slice aW S.length cW, .slice bW D.length eW]) S D) := W_12.out.keep HB13.out
  have G_13 : Hid (Arr (w4.heap.size + 1) w5.heap.size w13 (.agg #[.slice aG S.length cG, .slice bG D.length eG]) (upFrom ((1 : Int)) S.length) (upFrom ((1 : Int) + S.length) D.length)) := G_12.out.keep HB13.out
  have Y1_13 : Hid (Arr w11.heap.size w12.heap.size w13 (.agg #[.slice aY1 s1.length cY1, .slice bY1 d1.length eY1]) s1 d1) := Y1_12.out.keep HB13.out
  clear P1_12 QW_12 QX1_12 QG_12 W_12 G_12 Y1_12 P1c0 P1c1 QWc0 QWc1 QX1c0 QX1c1 QGc0 QGc1 hb
  have P1c0 := P1_13.out.c0
  have P1c1 := P1_13.out.c1
  have P1d0 : ∀ o : Obj, (w13.alloc o).cell? ⟨w.heap.size, 0, none⟩ = some (.slice px1 s1.length c1') := fun o => (P1_13.out.keep (bAlloc (Below.refl _ _) o)).c0
  have P1d1 : ∀ o : Obj, (w13.alloc o).cell? ⟨w.heap.size, 1, none⟩ = some (.slice py1 d1.length e1') := fun o => (P1_13.out.keep (bAlloc (Below.refl _ _) o)).c1
  have QWc0 := QW_13.out.c0
  have QWc1 := QW_13.out.c1
  have QWd0 : ∀ o : Obj, (w13.alloc o).cell? ⟨w3.heap.size, 0, none⟩ = some (.slice aW S.length cW) := fun o => (QW_13.out.keep (bAlloc (Below.refl _ _) o)).c0
  have QWd1 : ∀ o : Obj, (w13.alloc o).cell? ⟨w3.heap.size, 1, none⟩ = some (.slice bW D.length eW) := fun o => (QW_13.out.keep (bAlloc (Below.refl _ _) o)).c1
  have QX1c0 := QX1_13.out.c0
  have QX1c1 := QX1_13.out.c1
  have QX1d0 : ∀ o : Obj, (w13.alloc o).cell? ⟨w4.heap.size, 0, none⟩ = some (.slice aX1 s1.length cX1) := fun o => (QX1_13.out.keep (bAlloc (Below.refl _ _) o)).c0
  have QX1d1 : ∀ o : Obj, (w13.alloc o).cell? ⟨w4.heap.size, 1, none⟩ = some (.slice bX1 d1.length eX1) := fun o => (QX1_13.out.keep (bAlloc (Below.refl _ _) o)).c1
  have QGc0 := QG_13.out.c0
  have QGc1 := QG_13.out.c1
  have QGd0 : ∀ o : Obj, (w13.alloc o).cell? ⟨w5.heap.size, 0, none⟩ = some (.slice aG S.length cG) := fun o => (QG_13.out.keep (bAlloc (Below.refl _ _) o)).c0
  have QGd1 : ∀ o : Obj, (w13.alloc o).cell? ⟨w5.heap.size, 1, none⟩ = some (.slice bG D.length eG) := fun o => (QG_13.out.keep (bAlloc (Below.refl _ _) o)).c1
  go_wp2_with fail
  refine (eq_arrI ((J_13.out.arrI).keep (bAlloc (Below.refl _ _) _)) ((W_13.out.arrI).keep (bAlloc (Below.refl _ _) _)) LS.out LD.out).mono ?_
  rintro r w14 ⟨rfl, hb⟩
  have HB14 : Hid (Below w13.heap.size w13 w14) := bTrans (bAlloc (Below.refl _ _) _) hb
  have HT14 : Hid (Below w.heap.size w w14) := bTrans HT13.out HB14.out
  have SZ14 : Hid (w13.heap.size ≤ w14.heap.size) := HB14.out.size
  have P1_14 : Hid (Box w14 w.heap.size (.slice px1 s1.length c1') (.slice py1 d1.length e1') 35) := P1_13.out.keep HB14.out
  have QW_14 : Hid (Box w14 w3.heap.size (.slice aW S.length cW) (.slice bW D.length eW) 26) := QW_13.out.keep HB14.out
  have QX1_14 : Hid (Box w14 w4.heap.size (.slice aX1 s1.length cX1) (.slice bX1 d1.length eX1) 26) := QX1_13.out.keep HB14.out
  have QG_14 : Hid (Box w14 w5.heap.size (.slice aG S.length cG) (.slice bG D.length eG) 26) := QG_13.out.keep HB14.out
  have W_14 : Hid (Arr w2.heap.size w3.heap.size w14 (.agg #[.slice aW S.length cW, .slice bW D.length eW]) S D) := W_13.out.keep HB14.out
  have G_14 : Hid (Arr (w4.heap.size + 1) w5.heap.size w14 (.agg #[.slice aG S.length cG, .slice bG D.length eG]) (upFrom ((1 : Int)) S.length) (upFrom ((1 : Int) + S.length) D.length)) := G_13.out.keep HB14.out
  have J_14 : Hid (Arr w12.heap.size w13.heap.size w14 (.agg #[.slice aJ S.length cJ, .slice bJ D.length eJ]) S D) := J_13.out.keep HB14.out
  have QJ_14 : Hid (Box w14 w13.heap.size (.slice aJ S.length cJ) (.slice bJ D.length eJ) 26) := (box_new w13 _ _ _).keep hb
  have LTQJ : Hid (w13.heap.size < w14.heap.size) := QJ_14.out.lt
  clear P1_13 QW_13 QX1_13 QG_13 W_13 G_13 J_13 P1c0 P1c1 P1d0 P1d1 QWc0 QWc1 QWd0 QWd1 QX1c0 QX1c1 QX1d0 QX1d1 QGc0 QGc1 QGd0 QGd1 hb
  have P1c0 := P1_14.out.c0
  have P1c1 := P1_14.out.c1
  have QWc0 := QW_14.out.c0
  have QWc1 := QW_14.out.c1
  have QX1c0 := QX1_14.out.c0
  have QX1c1 := QX1_14.out.c1
  have QGc0 := QG_14.out.c0
  have QGc1 := QG_14.out.c1
  have QJc0 := QJ_14.out.c0
  have QJc1 := QJ_14.out.c1
  go_wp2_with fail
  refine (held_arr (1 : Int) G_14.out LS.out LD.out (by decide) (by decide)).mono ?_
  rintro r w15 ⟨rfl, hb⟩
  have HB15 : Hid (Below w14.heap.size w14 w15) := hb
  have HT15 : Hid (Below w.heap.size w w15) := bTrans HT14.out HB15.out
  have SZ15 : Hid (w14.heap.size ≤ w15.heap.size) := HB15.out.size
  have P1_15 : Hid (Box w15 w.heap.size (.slice px1 s1.length c1') (.slice py1 d1.length e1') 35) := P1_14.out.keep HB15.out
  have QW_15 : Hid (Box w15 w3.heap.size (.slice aW S.length cW) (.slice bW D.length eW) 26) := QW_14.out.keep HB15.out
  have QX1_15 : Hid (Box w15 w4.heap.size (.slice aX1 s1.length cX1) (.slice bX1 d1.length eX1) 26) := QX1_14.out.keep HB15.out
  have QG_15 : Hid (Box w15 w5.heap.size (.slice aG S.length cG) (.slice bG D.length eG) 26) := QG_14.out.keep HB15.out
  have QJ_15 : Hid (Box w15 w13.heap.size (.slice aJ S.length cJ) (.slice bJ D.length eJ) 26) := QJ_14.out.keep HB15.out
  have G_15 : Hid (Arr (w4.heap.size + 1) w5.heap.size w15 (.agg #[.slice aG S.length cG, .slice bG D.length eG]) (upFrom ((1 : Int)) S.length) (upFrom ((1 : Int) + S.length) D.length)) := G_14.out.keep HB15.out
  clear P1_14 QW_14 QX1_14 QG_14 QJ_14 G_14 P1c0 P1c1 QWc0 QWc1 QX1c0 QX1c1 QGc0 QGc1 QJc0 QJc1 hb
  have P1c0 := P1_15.out.c0
  have P1c1 := P1_15.out.c1
  have QWc0 := QW_15.out.c0
  have QWc1 := QW_15.out.c1
  have QX1c0 := QX1_15.out.c0
  have QX1c1 := QX1_15.out.c1
  have QGc0 := QG_15.out.c0
  have QGc1 := QG_15.out.c1
  have QJc0 := QJ_15.out.c0
  have QJc1 := QJ_15.out.c1
  go_wp2
  go_ret
  exact ⟨rfl, HT15.out⟩

set_option maxRecDepth 100000 in
theorem lifted (os : Os) (started : os.Started) (H : Type) (enc : TypeId × Value → H) :
    ReturnsInHanded {} Try.checked os 4 .any (Rows.fnExactScanSpec.pre6 enc Try.prog Try.f4 Rows.fnExactScanRow.domain false) (Rows.fnExactScanSpec.post enc Try.prog Try.f4 false true false false) := by
  refine returnsInHanded_of_change (C := Try.checked) own started (by kernel_rfl) Try.func4
    (ChangeSpec.witness6 (enc := enc) (C := Try.checked) false ⟨#[], #[.int .i64 0, .agg #[.slice none 0 0, .slice none 0 0]], []⟩ 8 (by kernel_rfl) (by kernel_rfl) (by kernel_rfl) (by kernel_rfl)) ?_
  intro W base args ds gs before hval0 hW hcnd _
  have hval : ∀ (j : Nat) t v, Try.f4.params[j]? = some t → args[j]? = some v → Value.okWide Try.prog W .any base t v := hval0
  have hW' := hW
  obtain ⟨p, q, hA0, hV, rfl, hfz, hnd⟩ := hW
  have hA : DataW.TrodAll enc Try.prog W 0 (fun _ => true) true Try.f4.params.toList args.toList ds p := hA0
  rw [Try.params4] at hA hval
  obtain ⟨v0, vs0, e0, es0, p0, q0, hargs, rfl, rfl, h0, r0⟩ := trodAll_cons hA
  obtain ⟨v1, vs1, e1, es1, p1, q1, rfl, rfl, rfl, h1, r1⟩ := trodAll_cons r0
  obtain ⟨rfl, rfl, rfl⟩ := trodAll_nil r1
  obtain rfl : args = #[v0, v1] := by cases args; simp_all
  obtain ⟨rfl, rfl⟩ := trodVars_none hV
  obtain ⟨a0, rfl, rfl, rfl, w0⟩ := open_int Try.underlying3 (hval 0 3 v0 rfl rfl) h0
  have k1 := h1
  have lt1 : ∀ x ∈ p1, x.block < W.heap.size := by obtain ⟨m, hm⟩ := k1; exact DataW.trod_lt m _ _ _ hm
  obtain ⟨x1, y1, f1, g1, m1, rfl, rfl, rfl, hf1, hg1⟩ := Joins.open_agg2 Try.underlying35 (by kernel_rfl) (by kernel_rfl) (hval 1 35 v1 rfl rfl) h1
  obtain ⟨s1, i1, b1⟩ := cell_ints hf1
  obtain ⟨d1, o1, c1⟩ := cell_ints hg1
  have w1 : ArrI W (.agg #[x1, y1]) s1 d1 := by obtain ⟨a, c, rfl, g, i⟩ := i1; obtain ⟨a2, c2, rfl, g2, i2⟩ := o1; exact ⟨a, c, a2, c2, rfl, i, i2, g, g2⟩
  clear hA0 hval0
  refine (walk a0 _ s1 d1 W w0 w1 b1 c1).mono fun e W' ⟨he, bel⟩ => ?_
  subst he
  exact ⟨_, rfl, _, _, _, [], _, [], hW', trodAll_mk1 (shut_bool Try.underlying4 _), (trodAll_cons_mk (shut_int Try.underlying3 w0) (trodAll_cons_mk (Below.trod laidOut (by kernel_rfl) (of_decide_eq_true (by kernel_rfl)) k1 bel lt1) trodAll_mk0)), rfl, bel.frame _, fun h => by cases h⟩

theorem over : Rows.fnExactScanRow.holds Try.pinned (OpenSpec.ofChange Rows.fnExactScanSpec) :=
  OpenClaim.holds_of_wide 4 Try.f4 rfl rfl rfl rfl rfl rfl rfl ⟨rfl, rfl, rfl, rfl, rfl⟩ rfl rfl rfl rfl rfl (by kernel_rfl) Try.func4 (by kernel_rfl)
    (of_decide_eq_true (by kernel_rfl)) (by unfold Func.isWrapper; first | (rw [if_pos (by decide +kernel)]; kernel_rfl) | (rw [if_neg (by decide +kernel)]; exact ⟨rfl, rfl⟩))
    (fun os started H enc _ => lifted os started H enc)

/-- The statement. -/
theorem proved : Rows.FnExactScanSaid := over
end Go.Proofs.Ytcpgdhffemecbab.fnExactScan
namespace Go.Proofs.Ytcpgdhffemecbab
theorem fnExactScan_holds : Rows.FnExactScanSaid := fnExactScan.proved
#print axioms fnExactScan_holds
end Go.Proofs.Ytcpgdhffemecbab
