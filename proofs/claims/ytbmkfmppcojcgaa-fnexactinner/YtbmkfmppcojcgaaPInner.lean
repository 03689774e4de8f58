/-
  Proved: whatever two numbers and two arrays it is given, the law FnExactInner returns true (the program's Inner answers as the specification's, in memory of its own, and writes into no argument), and the arrays read as before. No condition.
-/
import Derived.Test.YtbmkfmppcojcgaaRows
import Derived.WalkKit
import Derived.ProofKit
import Derived.OpenShut
import Derived.ShutString
import Derived.ChangeOld
import Derived.Below
import Derived.Deep.Cut
import Derived.Test.YtbmkfmppcojcgaaY2
import Derived.Test.YtbmkfmppcojcgaaY14
import Derived.Test.YtbmkfmppcojcgaaSpecInner
import Derived.Test.YtbmkfmppcojcgaaImplInner
import Derived.Test.YtbmkfmppcojcgaaY3
namespace Go.Proofs.Ytbmkfmppcojcgaa.fnExactInner
open Go.ChangeShapes Go.WideShapes Go.ChangeAt Go.RowKit
open Go.ChangeMaps (open_string shut_string)
set_option linter.unusedVariables false
set_option linter.unusedSimpArgs false

theorem own : ownKnob Try.prog.godebug = none := by kernel_rfl
theorem laidOut : laidOutB Try.prog = true := by kernel_rfl

set_option maxRecDepth 20000 in
set_option maxHeartbeats 8000000 in
/-- The walk: the law returns true, and writes nothing that was there. -/
theorem walk (a0 : Int) (a1 : Int) (v2 : Value) (s2 d2 : List Int) (v3 : Value) (s3 d3 : List Int) (w : World) (w0 : (Lit.int .i64 a0).wf = true) (w1 : (Lit.int .i64 a1).wf = true) (w2 : ArrI w v2 s2 d2) (b2 : s2.length ≤ 9223372036854775807) (c2 : d2.length ≤ 9223372036854775807) (w3 : ArrI w v3 s3 d3) (b3 : s3.length ≤ 9223372036854775807) (c3 : d3.length ≤ 9223372036854775807) :
    Calls Try.prog 4 #[.int .i64 a0, .int .i64 a1, v2, v3] w fun e w' => e = .returned (.bool true) ∧ Below w.heap.size w w' := by
  have H2 : Hid (ArrI w v2 s2 d2) := w2
  obtain ⟨px2, c2', py2, e2', rfl, i1, i2, g1, g2⟩ := w2
  clear i1 i2 g1 g2
  have H3 : Hid (ArrI w v3 s3 d3) := w3
  obtain ⟨px3, c3', py3, e3', rfl, i1, i2, g1, g2⟩ := w3
  clear i1 i2 g1 g2
  by_cases big2 : (1048576 : Int) < (((s2.length + d2.length) : Nat) : Int)
  · have ZB : Hid (∀ W, Calls Try.prog 14 #[(.agg #[.slice px2 s2.length c2', .slice py2 d2.length e2']), .int .i64 1048576] W fun e w' => e = .returned (.int .i64 (-1)) ∧ Below W.heap.size W w') := fun W => szV_big (n := (s2.length + d2.length)) (left := 1048576) big2 ▸ sz_arr _ _ _ _ _ _ 1048576 W (by omega) (by omega) b2 c2
    clear big2
    go_enter Try.func4, Try.ntmps4
    go_wp2_with fail
    refine (ZB.out _).mono ?_
    rintro r w1 ⟨rfl, hb⟩
    have HB1 : Hid (Below w.heap.size w w1) := bTrans (bAlloc (bAlloc (Below.refl _ _) _) _) hb
    have HT1 : Hid (Below w.heap.size w w1) := HB1.out
    have SZ1 : Hid (w.heap.size ≤ w1.heap.size) := HB1.out.size
    have P2_1 : Hid (Box w1 w.heap.size (.slice px2 s2.length c2') (.slice py2 d2.length e2') 37) := ((box_new w _ _ _).keep (bAlloc (Below.refl _ _) _)).keep hb
    have LTP2 : Hid (w.heap.size < w1.heap.size) := P2_1.out.lt
    have P3_1 : Hid (Box w1 (w.heap.size + 1) (.slice px3 s3.length c3') (.slice py3 d3.length e3') 37) := (box_new2 w _ _ _ _).keep hb
    have LTP3 : Hid ((w.heap.size + 1) < w1.heap.size) := P3_1.out.lt
    clear hb
    go_wp2
    go_ret
    exact ⟨rfl, HT1.out⟩
  obtain ⟨N2, hN2⟩ : ∃ N : Int, N = 1048576 - (((s2.length + d2.length) : Nat) : Int) := ⟨_, rfl⟩
  have Z2 : Hid (∀ W, Calls Try.prog 14 #[(.agg #[.slice px2 s2.length c2', .slice py2 d2.length e2']), .int .i64 1048576] W fun e w' => e = .returned (.int .i64 N2) ∧ Below W.heap.size W w') := fun W => hN2 ▸ szV_small (n := (s2.length + d2.length)) (left := 1048576) (by omega) ▸ sz_arr _ _ _ _ _ _ 1048576 W (by omega) (by omega) b2 c2
  have n2 : 0 ≤ N2 := by omega
  have m2 : N2 ≤ 1048576 := by omega
  have Ls2 : Hid (s2.length ≤ 1048576) := by show _ ≤ _; omega
  have Ld2 : Hid (d2.length ≤ 1048576) := by show _ ≤ _; omega
  clear big2 hN2 b2 c2
  by_cases big3 : N2 < (((s3.length + d3.length) : Nat) : Int)
  · have ZB : Hid (∀ W, Calls Try.prog 14 #[(.agg #[.slice px3 s3.length c3', .slice py3 d3.length e3']), .int .i64 N2] W fun e w' => e = .returned (.int .i64 (-1)) ∧ Below W.heap.size W w') := fun W => szV_big (n := (s3.length + d3.length)) (left := N2) big3 ▸ sz_arr _ _ _ _ _ _ N2 W (by omega) (by omega) b3 c3
    clear big3
    go_enter Try.func4, Try.ntmps4
    go_wp2_with fail
    refine (Z2.out _).mono ?_
    rintro r w1 ⟨rfl, hb⟩
    have HB1 : Hid (Below w.heap.size w w1) := bTrans (bAlloc (bAlloc (Below.refl _ _) _) _) hb
    have HT1 : Hid (Below w.heap.size w w1) := HB1.out
    have SZ1 : Hid (w.heap.size ≤ w1.heap.size) := HB1.out.size
    have P2_1 : Hid (Box w1 w.heap.size (.slice px2 s2.length c2') (.slice py2 d2.length e2') 37) := ((box_new w _ _ _).keep (bAlloc (Below.refl _ _) _)).keep hb
    have LTP2 : Hid (w.heap.size < w1.heap.size) := P2_1.out.lt
    have P3_1 : Hid (Box w1 (w.heap.size + 1) (.slice px3 s3.length c3') (.slice py3 d3.length e3') 37) := (box_new2 w _ _ _ _).keep hb
    have LTP3 : Hid ((w.heap.size + 1) < w1.heap.size) := P3_1.out.lt
    clear hb
    have P2c0 := P2_1.out.c0
    have P2c1 := P2_1.out.c1
    have P3c0 := P3_1.out.c0
    have P3c1 := P3_1.out.c1
    go_wp2_with fail
    refine (ZB.out _).mono ?_
    rintro r w2 ⟨rfl, hb⟩
    have HB2 : Hid (Below w1.heap.size w1 w2) := hb
    have HT2 : Hid (Below w.heap.size w w2) := bTrans HT1.out HB2.out
    have SZ2 : Hid (w1.heap.size ≤ w2.heap.size) := HB2.out.size
    have P2_2 : Hid (Box w2 w.heap.size (.slice px2 s2.length c2') (.slice py2 d2.length e2') 37) := P2_1.out.keep HB2.out
    have P3_2 : Hid (Box w2 (w.heap.size + 1) (.slice px3 s3.length c3') (.slice py3 d3.length e3') 37) := P3_1.out.keep HB2.out
    clear P2_1 P3_1 P2c0 P2c1 P3c0 P3c1 hb
    go_wp2
    go_ret
    exact ⟨rfl, HT2.out⟩
  obtain ⟨N3, hN3⟩ : ∃ N : Int, N = N2 - (((s3.length + d3.length) : Nat) : Int) := ⟨_, rfl⟩
  have Z3 : Hid (∀ W, Calls Try.prog 14 #[(.agg #[.slice px3 s3.length c3', .slice py3 d3.length e3']), .int .i64 N2] W fun e w' => e = .returned (.int .i64 N3) ∧ Below W.heap.size W w') := fun W => hN3 ▸ szV_small (n := (s3.length + d3.length)) (left := N2) (by omega) ▸ sz_arr _ _ _ _ _ _ N2 W (by omega) (by omega) b3 c3
  have n3 : 0 ≤ N3 := by omega
  have m3 : N3 ≤ 1048576 := by omega
  have Ls3 : Hid (s3.length ≤ 1048576) := by show _ ≤ _; omega
  have Ld3 : Hid (d3.length ≤ 1048576) := by show _ ≤ _; omega
  clear big3 hN3 b3 c3
  obtain ⟨V, hV⟩ : ∃ x, x = (innerR a0 a1 s2 d2 s3 d3).1 := ⟨_, rfl⟩
  obtain ⟨S, hS⟩ : ∃ x, x = (innerR a0 a1 s2 d2 s3 d3).2.1 := ⟨_, rfl⟩
  obtain ⟨D, hD⟩ : ∃ x, x = (innerR a0 a1 s2 d2 s3 d3).2.2 := ⟨_, rfl⟩
  have SP : Hid (∀ (W : World) (u2 : Value) (_ : ArrI W u2 s2 d2) (u3 : Value) (_ : ArrI W u3 s3 d3), Calls Try.prog 15 #[.int .i64 a0, .int .i64 a1, u2, u3] W fun e w' => ∃ v, e = .returned (.tuple #[v, .int .i64 V]) ∧ Arr W.heap.size w'.heap.size w' v S D ∧ Below W.heap.size W w') := by
    intro W u2 h2 u3 h3
    rw [hV, hS, hD]
    exact inner_spec h2 h3 Ls2.out Ld2.out Ls3.out Ld3.out
  have IM : Hid (∀ (W : World) (u2 : Value) (_ : ArrI W u2 s2 d2) (u3 : Value) (_ : ArrI W u3 s3 d3), Calls Try.prog 12 #[.int .i64 a0, .int .i64 a1, u2, u3] W fun e w' => ∃ v, e = .returned (.tuple #[v, .int .i64 V]) ∧ Arr W.heap.size w'.heap.size w' v S D ∧ Below W.heap.size W w') := by
    intro W u2 h2 u3 h3
    rw [hV, hS, hD]
    exact inner_impl h2 h3 Ls2.out Ld2.out Ls3.out Ld3.out
  have LS : Hid (S.length ≤ 1048576) := by show _ ≤ _; rw [hS]; exact (mkR_len (m := 1048576) (fun h => (inner_len h).1) (fun h => (inner_len h).2)).1
  have LD : Hid (D.length ≤ 1048576) := by show _ ≤ _; rw [hD]; exact (mkR_len (n := 1048576) (fun h => (inner_len h).1) (fun h => (inner_len h).2)).2
  clear hV hS hD
  go_enter Try.func4, Try.ntmps4
  go_wp2_with fail
  refine (Z2.out _).mono ?_
  rintro r w1 ⟨rfl, hb⟩
  have HB1 : Hid (Below w.heap.size w w1) := bTrans (bAlloc (bAlloc (Below.refl _ _) _) _) hb
  have HT1 : Hid (Below w.heap.size w w1) := HB1.out
  have SZ1 : Hid (w.heap.size ≤ w1.heap.size) := HB1.out.size
  have P2_1 : Hid (Box w1 w.heap.size (.slice px2 s2.length c2') (.slice py2 d2.length e2') 37) := ((box_new w _ _ _).keep (bAlloc (Below.refl _ _) _)).keep hb
  have LTP2 : Hid (w.heap.size < w1.heap.size) := P2_1.out.lt
  have P3_1 : Hid (Box w1 (w.heap.size + 1) (.slice px3 s3.length c3') (.slice py3 d3.length e3') 37) := (box_new2 w _ _ _ _).keep hb
  have LTP3 : Hid ((w.heap.size + 1) < w1.heap.size) := P3_1.out.lt
  clear hb
  have P2c0 := P2_1.out.c0
  have P2c1 := P2_1.out.c1
  have P3c0 := P3_1.out.c0
  have P3c1 := P3_1.out.c1
  go_wp2_with fail
  refine (Z3.out _).mono ?_
  rintro r w2 ⟨rfl, hb⟩
  have HB2 : Hid (Below w1.heap.size w1 w2) := hb
  have HT2 : Hid (Below w.heap.size w w2) := bTrans HT1.out HB2.out
  have SZ2 : Hid (w1.heap.size ≤ w2.heap.size) := HB2.out.size
  have P2_2 : Hid (Box w2 w.heap.size (.slice px2 s2.length c2') (.slice py2 d2.length e2') 37) := P2_1.out.keep HB2.out
  have P3_2 : Hid (Box w2 (w.heap.size + 1) (.slice px3 s3.length c3') (.slice py3 d3.length e3') 37) := P3_1.out.keep HB2.out
  clear P2_1 P3_1 P2c0 P2c1 P3c0 P3c1 hb
  have P2c0 := P2_2.out.c0
  have P2c1 := P2_2.out.c1
  have P3c0 := P3_2.out.c0
  have P3c1 := P3_2.out.c1
  go_wp2_with fail
  go_cut [10, 11] from 21 (fun p q w' => ∃ (gW : Nat) (aW : Option Addr) (cW : Nat) (bW : Option Addr) (eW : Nat), p = .pointer (some ⟨gW, 0, none⟩) ∧ q = .int .i64 V ∧ Box w' gW (.slice aW S.length cW) (.slice bW D.length eW) 26 ∧ Arr w2.heap.size w'.heap.size w' (.agg #[.slice aW S.length cW, .slice bW D.length eW]) S D ∧ Below w2.heap.size w2 w')
  case first =>
    have u2_0 := (fun O : Obj => (show (World.drew (w2.alloc O)).cell? ⟨w.heap.size, 0, none⟩ = some (.slice px2 s2.length c2') from (P2_2.out.keep (bAlloc (Below.refl _ _) O)).c0))
    have u2_1 := (fun O : Obj => (show (World.drew (w2.alloc O)).cell? ⟨w.heap.size, 1, none⟩ = some (.slice py2 d2.length e2') from (P2_2.out.keep (bAlloc (Below.refl _ _) O)).c1))
    have u2_2 := (fun O : Obj => (show (World.drew (w2.alloc O)).cell? ⟨(w.heap.size + 1), 0, none⟩ = some (.slice px3 s3.length c3') from (P3_2.out.keep (bAlloc (Below.refl _ _) O)).c0))
    have u2_3 := (fun O : Obj => (show (World.drew (w2.alloc O)).cell? ⟨(w.heap.size + 1), 1, none⟩ = some (.slice py3 d3.length e3') from (P3_2.out.keep (bAlloc (Below.refl _ _) O)).c1))
    have LQ2_0 : Hid (w.heap.size < w2.heap.size) := P2_2.out.lt
    have LQ2_1 : Hid ((w.heap.size + 1) < w2.heap.size) := P3_2.out.lt
    go_region_held3 (fun w' => w'.cell? ⟨w.heap.size, 0, none⟩ = some (.slice px2 s2.length c2') ∧ w'.cell? ⟨w.heap.size, 1, none⟩ = some (.slice py2 d2.length e2') ∧ w'.cell? ⟨(w.heap.size + 1), 0, none⟩ = some (.slice px3 s3.length c3') ∧ w'.cell? ⟨(w.heap.size + 1), 1, none⟩ = some (.slice py3 d3.length e3'))
      (first | (refine ⟨?_, ?_, ?_, ?_⟩ <;> (first | with_reducible assumption | simp only [*])) | exact ⟨P2c0, P2c1, P3c0, P3c1⟩)
      (first
        | (go_at_call_of 16 (Value.agg #[.slice px2 s2.length c2', .slice py2 d2.length e2']); refine (to_arr (H2.out.keep (bTrans HT2.out (by repeat first | exact HR5.out | exact HR4.out | exact HR3.out | exact (Below.refl _ _).drew | exact Below.refl _ _ | refine bAlloc ?_ _ | refine Below.drew ?_))) Ls2.out Ld2.out).mono ?_; rintro r w3 ⟨vT2, rfl, ha, hb⟩; have T2_3 : Hid (ArrI w3 vT2 s2 d2) := ha.arrI; have HR3 : Hid (Below w2.heap.size w2 w3) := bTrans (by repeat first | exact HR5.out | exact HR4.out | exact HR3.out | exact (Below.refl _ _).drew | exact Below.refl _ _ | refine bAlloc ?_ _ | refine Below.drew ?_) hb; have y3_0 := (P2_2.out.keep HR3.out).c0; have u3_0 := (fun O : Obj => (P2_2.out.keep (bAlloc HR3.out O)).c0); have y3_1 := (P2_2.out.keep HR3.out).c1; have u3_1 := (fun O : Obj => (P2_2.out.keep (bAlloc HR3.out O)).c1); have y3_2 := (P3_2.out.keep HR3.out).c0; have u3_2 := (fun O : Obj => (P3_2.out.keep (bAlloc HR3.out O)).c0); have y3_3 := (P3_2.out.keep HR3.out).c1; have u3_3 := (fun O : Obj => (P3_2.out.keep (bAlloc HR3.out O)).c1); (try have bq2_3 : Hid (Box w3 w2.heap.size (.slice none 0 0) (.slice none 0 0) 26) := Box.keep (w := World.drew (World.alloc w2 (.cells #[.slice none 0 0, .slice none 0 0] 26))) (box_new w2 _ _ _) hb); clear ha hb)
        | (go_at_call_of 16 (Value.agg #[.slice px3 s3.length c3', .slice py3 d3.length e3']); refine (to_arr (H3.out.keep (bTrans HT2.out (by repeat first | exact HR5.out | exact HR4.out | exact HR3.out | exact (Below.refl _ _).drew | exact Below.refl _ _ | refine bAlloc ?_ _ | refine Below.drew ?_))) Ls3.out Ld3.out).mono ?_; rintro r w4 ⟨vT3, rfl, ha, hb⟩; have T3_4 : Hid (ArrI w4 vT3 s3 d3) := ha.arrI; have T2_4 : Hid (ArrI w4 vT2 s2 d2) := (T2_3.out.keep (by repeat first | exact Below.refl _ _ | refine bAlloc ?_ _)).keep hb; have HR4 : Hid (Below w2.heap.size w2 w4) := bTrans (by repeat first | exact HR5.out | exact HR4.out | exact HR3.out | exact (Below.refl _ _).drew | exact Below.refl _ _ | refine bAlloc ?_ _ | refine Below.drew ?_) hb; have y4_0 := (P2_2.out.keep HR4.out).c0; have u4_0 := (fun O : Obj => (P2_2.out.keep (bAlloc HR4.out O)).c0); have y4_1 := (P2_2.out.keep HR4.out).c1; have u4_1 := (fun O : Obj => (P2_2.out.keep (bAlloc HR4.out O)).c1); have y4_2 := (P3_2.out.keep HR4.out).c0; have u4_2 := (fun O : Obj => (P3_2.out.keep (bAlloc HR4.out O)).c0); have y4_3 := (P3_2.out.keep HR4.out).c1; have u4_3 := (fun O : Obj => (P3_2.out.keep (bAlloc HR4.out O)).c1); (try have bq2_4 : Hid (Box w4 w2.heap.size (.slice none 0 0) (.slice none 0 0) 26) := bq2_3.out.keep hb); (try have bq3_4 : Hid (Box w4 w3.heap.size (.slice none 0 0) (.slice none 0 0) 26) := (box_new w3 _ _ _).keep hb); clear ha hb)
        | (go_at_call 15; refine (SP.out _ _ (T2_4.out.keep (by repeat first | exact Below.refl _ _ | refine bAlloc ?_ _)) _ (T3_4.out.keep (by repeat first | exact Below.refl _ _ | refine bAlloc ?_ _))).mono ?_; rintro r w5 ⟨vW, rfl, ha, hb⟩; obtain ⟨aW, cW, bW, eW, rfl, _, _, _, _⟩ := ha.arrI; have SB : Hid (_ ≤ w5.heap.size) := hb.size; have HR5 : Hid (Below w2.heap.size w2 w5) := bTrans (by repeat first | exact HR5.out | exact HR4.out | exact HR3.out | exact (Below.refl _ _).drew | exact Below.refl _ _ | refine bAlloc ?_ _ | refine Below.drew ?_) hb; have y5_0 := (P2_2.out.keep HR5.out).c0; have u5_0 := (fun O : Obj => (P2_2.out.keep (bAlloc HR5.out O)).c0); have y5_1 := (P2_2.out.keep HR5.out).c1; have u5_1 := (fun O : Obj => (P2_2.out.keep (bAlloc HR5.out O)).c1); have y5_2 := (P3_2.out.keep HR5.out).c0; have u5_2 := (fun O : Obj => (P3_2.out.keep (bAlloc HR5.out O)).c0); have y5_3 := (P3_2.out.keep HR5.out).c1; have u5_3 := (fun O : Obj => (P3_2.out.keep (bAlloc HR5.out O)).c1); (try have bq2_5 : Hid (Box w5 w2.heap.size (.slice none 0 0) (.slice none 0 0) 26) := bq2_4.out.keep hb); (try have bq3_5 : Hid (Box w5 w3.heap.size (.slice none 0 0) (.slice none 0 0) 26) := bq3_4.out.keep hb); (try have bq4_5 : Hid (Box w5 w4.heap.size (.slice none 0 0) (.slice none 0 0) 26) := (box_new w4 _ _ _).keep hb); have LQ3_0 : Hid (w.heap.size < w3.heap.size) := Nat.lt_of_lt_of_le LQ2_0.out HR3.out.size; have LQ3_1 : Hid ((w.heap.size + 1) < w3.heap.size) := Nat.lt_of_lt_of_le LQ2_1.out HR3.out.size; have LQ4_0 : Hid (w.heap.size < w4.heap.size) := Nat.lt_of_lt_of_le LQ2_0.out HR4.out.size; have LQ4_1 : Hid ((w.heap.size + 1) < w4.heap.size) := Nat.lt_of_lt_of_le LQ2_1.out HR4.out.size; (try have q0 := bq2_5.out.c0); (try have q1 := bq2_5.out.c1); (try have f0 : w5.frozen? ⟨w2.heap.size, 0, none⟩ = false := free_at bq2_5.out 0); (try have f1 : w5.frozen? ⟨w2.heap.size, 1, none⟩ = false := free_at bq2_5.out 1); (try have t2_0 := (fun (_ : Hid (Box w5 w2.heap.size (.slice none 0 0) (.slice none 0 0) 26)) (x y : Value) => (((P2_2.out.keep HR5.out).win (win_setCell _ w2.heap.size 0 x) (.inl LQ2_0.out)).win (win_setCell _ w2.heap.size 1 y) (.inl LQ2_0.out)).c0) bq2_5); (try have t2_1 := (fun (_ : Hid (Box w5 w2.heap.size (.slice none 0 0) (.slice none 0 0) 26)) (x y : Value) => (((P2_2.out.keep HR5.out).win (win_setCell _ w2.heap.size 0 x) (.inl LQ2_0.out)).win (win_setCell _ w2.heap.size 1 y) (.inl LQ2_0.out)).c1) bq2_5); (try have t2_2 := (fun (_ : Hid (Box w5 w2.heap.size (.slice none 0 0) (.slice none 0 0) 26)) (x y : Value) => (((P3_2.out.keep HR5.out).win (win_setCell _ w2.heap.size 0 x) (.inl LQ2_1.out)).win (win_setCell _ w2.heap.size 1 y) (.inl LQ2_1.out)).c0) bq2_5); (try have t2_3 := (fun (_ : Hid (Box w5 w2.heap.size (.slice none 0 0) (.slice none 0 0) 26)) (x y : Value) => (((P3_2.out.keep HR5.out).win (win_setCell _ w2.heap.size 0 x) (.inl LQ2_1.out)).win (win_setCell _ w2.heap.size 1 y) (.inl LQ2_1.out)).c1) bq2_5); (try have q0 := bq3_5.out.c0); (try have q1 := bq3_5.out.c1); (try have f0 : w5.frozen? ⟨w3.heap.size, 0, none⟩ = false := free_at bq3_5.out 0); (try have f1 : w5.frozen? ⟨w3.heap.size, 1, none⟩ = false := free_at bq3_5.out 1); (try have t3_0 := (fun (_ : Hid (Box w5 w3.heap.size (.slice none 0 0) (.slice none 0 0) 26)) (x y : Value) => (((P2_2.out.keep HR5.out).win (win_setCell _ w3.heap.size 0 x) (.inl LQ3_0.out)).win (win_setCell _ w3.heap.size 1 y) (.inl LQ3_0.out)).c0) bq3_5); (try have t3_1 := (fun (_ : Hid (Box w5 w3.heap.size (.slice none 0 0) (.slice none 0 0) 26)) (x y : Value) => (((P2_2.out.keep HR5.out).win (win_setCell _ w3.heap.size 0 x) (.inl LQ3_0.out)).win (win_setCell _ w3.heap.size 1 y) (.inl LQ3_0.out)).c1) bq3_5); (try have t3_2 := (fun (_ : Hid (Box w5 w3.heap.size (.slice none 0 0) (.slice none 0 0) 26)) (x y : Value) => (((P3_2.out.keep HR5.out).win (win_setCell _ w3.heap.size 0 x) (.inl LQ3_1.out)).win (win_setCell _ w3.heap.size 1 y) (.inl LQ3_1.out)).c0) bq3_5); (try have t3_3 := (fun (_ : Hid (Box w5 w3.heap.size (.slice none 0 0) (.slice none 0 0) 26)) (x y : Value) => (((P3_2.out.keep HR5.out).win (win_setCell _ w3.heap.size 0 x) (.inl LQ3_1.out)).win (win_setCell _ w3.heap.size 1 y) (.inl LQ3_1.out)).c1) bq3_5); (try have q0 := bq4_5.out.c0); (try have q1 := bq4_5.out.c1); (try have f0 : w5.frozen? ⟨w4.heap.size, 0, none⟩ = false := free_at bq4_5.out 0); (try have f1 : w5.frozen? ⟨w4.heap.size, 1, none⟩ = false := free_at bq4_5.out 1); (try have t4_0 := (fun (_ : Hid (Box w5 w4.heap.size (.slice none 0 0) (.slice none 0 0) 26)) (x y : Value) => (((P2_2.out.keep HR5.out).win (win_setCell _ w4.heap.size 0 x) (.inl LQ4_0.out)).win (win_setCell _ w4.heap.size 1 y) (.inl LQ4_0.out)).c0) bq4_5); (try have t4_1 := (fun (_ : Hid (Box w5 w4.heap.size (.slice none 0 0) (.slice none 0 0) 26)) (x y : Value) => (((P2_2.out.keep HR5.out).win (win_setCell _ w4.heap.size 0 x) (.inl LQ4_0.out)).win (win_setCell _ w4.heap.size 1 y) (.inl LQ4_0.out)).c1) bq4_5); (try have t4_2 := (fun (_ : Hid (Box w5 w4.heap.size (.slice none 0 0) (.slice none 0 0) 26)) (x y : Value) => (((P3_2.out.keep HR5.out).win (win_setCell _ w4.heap.size 0 x) (.inl LQ4_1.out)).win (win_setCell _ w4.heap.size 1 y) (.inl LQ4_1.out)).c0) bq4_5); (try have t4_3 := (fun (_ : Hid (Box w5 w4.heap.size (.slice none 0 0) (.slice none 0 0) 26)) (x y : Value) => (((P3_2.out.keep HR5.out).win (win_setCell _ w4.heap.size 0 x) (.inl LQ4_1.out)).win (win_setCell _ w4.heap.size 1 y) (.inl LQ4_1.out)).c1) bq4_5); have W_5 : Hid (Arr _ w5.heap.size w5 (.agg #[.slice aW S.length cW, .slice bW D.length eW]) S D) := ha; clear ha hb))
    all_goals
      go_wp2_with fail
      go_meet
      case rel =>
        have SZF : Hid (w2.heap.size ≤ w3.heap.size ∧ w2.heap.size ≤ w4.heap.size ∧ w2.heap.size ≤ w5.heap.size) := by refine ⟨HR3.out.size, HR4.out.size, HR5.out.size⟩
        first
          | exact ⟨w5.heap.size, _, _, _, _, rfl, rfl, box_new w5 _ _ _, (W_5.out.keep (bAlloc (Below.refl _ _) _)).mono (by first | (have := SZF.out; simp; omega) | (have := SZF.out; omega)) (by simp), bAlloc HR5.out _⟩
          | exact ⟨w2.heap.size, _, _, _, _, rfl, rfl, arr_stored bq2_5.out, ((W_5.out.setCell (by have := bq2_4.out.lt; omega) _ _).setCell (by have := bq2_4.out.lt; omega) _ _).mono (by have := SZF.out; first | omega | (simp; omega)) (by simp [size_setCell]), below_setCell (below_setCell HR5.out (by first | exact Nat.le_refl _ | (have := SZF.out; omega)) _ _) (by first | exact Nat.le_refl _ | (have := SZF.out; omega)) _ _⟩
          | exact ⟨w3.heap.size, _, _, _, _, rfl, rfl, arr_stored bq3_5.out, ((W_5.out.setCell (by have := bq3_4.out.lt; omega) _ _).setCell (by have := bq3_4.out.lt; omega) _ _).mono (by have := SZF.out; first | omega | (simp; omega)) (by simp [size_setCell]), below_setCell (below_setCell HR5.out (by first | exact Nat.le_refl _ | (have := SZF.out; omega)) _ _) (by first | exact Nat.le_refl _ | (have := SZF.out; omega)) _ _⟩
          | exact ⟨w4.heap.size, _, _, _, _, rfl, rfl, arr_stored bq4_5.out, ((W_5.out.setCell (by simp) _ _).setCell (by simp) _ _).mono (by have := SZF.out; first | omega | (simp; omega)) (by simp [size_setCell]), below_setCell (below_setCell HR5.out (by first | exact Nat.le_refl _ | (have := SZF.out; omega)) _ _) (by first | exact Nat.le_refl _ | (have := SZF.out; omega)) _ _⟩
  obtain ⟨w5, hwc⟩ : ∃ x, x = wc := ⟨_, rfl⟩
  subst hwc
  obtain ⟨gW, aW, cW, bW, eW, rfl, rfl, hbx, har, hbl⟩ := hcut
  have HR5 : Hid (Below w2.heap.size w2 w5) := hbl
  have HT5 : Hid (Below w.heap.size w w5) := bTrans HT2.out HR5.out
  have SZ5 : Hid (w2.heap.size ≤ w5.heap.size) := HR5.out.size
  have P2_5 : Hid (Box w5 w.heap.size (.slice px2 s2.length c2') (.slice py2 d2.length e2') 37) := P2_2.out.keep HR5.out
  have P3_5 : Hid (Box w5 (w.heap.size + 1) (.slice px3 s3.length c3') (.slice py3 d3.length e3') 37) := P3_2.out.keep HR5.out
  have W_5 : Hid (Arr w2.heap.size w5.heap.size w5 (.agg #[.slice aW S.length cW, .slice bW D.length eW]) S D) := har
  have QW_5 : Hid (Box w5 gW (.slice aW S.length cW) (.slice bW D.length eW) 26) := hbx
  have LTQW : Hid (gW < w5.heap.size) := hbx.lt
  clear P2_2 P3_2 P2c0 P2c1 P3c0 P3c1 hbx har hbl
  have P2c0 := P2_5.out.c0
  have P2c1 := P2_5.out.c1
  have P3c0 := P3_5.out.c0
  have P3c1 := P3_5.out.c1
  have QWc0 := QW_5.out.c0
  have QWc1 := QW_5.out.c1
  go_wp2_with fail
  refine (to_arr (H2.out.keep HT5.out) Ls2.out Ld2.out).mono ?_
  rintro r w6 ⟨vX2, rfl, ha, hb⟩
  obtain ⟨aX2, cX2, bX2, eX2, rfl, _, _, _, _⟩ := ha.arrI
  have X2_6 : Hid (Arr w5.heap.size w6.heap.size w6 (.agg #[.slice aX2 s2.length cX2, .slice bX2 d2.length eX2]) s2 d2) := ha.mono (by first | exact Nat.le_refl _ | simp | (simp; omega)) (Nat.le_refl _)
  clear ha
  have HB6 : Hid (Below w5.heap.size w5 w6) := hb
  have HT6 : Hid (Below w.heap.size w w6) := bTrans HT5.out HB6.out
  have SZ6 : Hid (w5.heap.size ≤ w6.heap.size) := HB6.out.size
  have P2_6 : Hid (Box w6 w.heap.size (.slice px2 s2.length c2') (.slice py2 d2.length e2') 37) := P2_5.out.keep HB6.out
  have P3_6 : Hid (Box w6 (w.heap.size + 1) (.slice px3 s3.length c3') (.slice py3 d3.length e3') 37) := P3_5.out.keep HB6.out
  have QW_6 : Hid (Box w6 gW (.slice aW S.length cW) (.slice bW D.length eW) 26) := QW_5.out.keep HB6.out
  have W_6 : Hid (Arr w2.heap.size w5.heap.size w6 (.agg #[.slice aW S.length cW, .slice bW D.length eW]) S D) := W_5.out.keep HB6.out
  clear P2_5 P3_5 QW_5 W_5 P2c0 P2c1 P3c0 P3c1 QWc0 QWc1 hb
  have P2c0 := P2_6.out.c0
  have P2c1 := P2_6.out.c1
  have P2d0 : ∀ o : Obj, (w6.alloc o).cell? ⟨w.heap.size, 0, none⟩ = some (.slice px2 s2.length c2') := fun o => (P2_6.out.keep (bAlloc (Below.refl _ _) o)).c0
  have P2d1 : ∀ o : Obj, (w6.alloc o).cell? ⟨w.heap.size, 1, none⟩ = some (.slice py2 d2.length e2') := fun o => (P2_6.out.keep (bAlloc (Below.refl _ _) o)).c1
  have P3c0 := P3_6.out.c0
  have P3c1 := P3_6.out.c1
  have P3d0 : ∀ o : Obj, (w6.alloc o).cell? ⟨(w.heap.size + 1), 0, none⟩ = some (.slice px3 s3.length c3') := fun o => (P3_6.out.keep (bAlloc (Below.refl _ _) o)).c0
  have P3d1 : ∀ o : Obj, (w6.alloc o).cell? ⟨(w.heap.size + 1), 1, none⟩ = some (.slice py3 d3.length e3') := fun o => (P3_6.out.keep (bAlloc (Below.refl _ _) o)).c1
  have QWc0 := QW_6.out.c0
  have QWc1 := QW_6.out.c1
  have QWd0 : ∀ o : Obj, (w6.alloc o).cell? ⟨gW, 0, none⟩ = some (.slice aW S.length cW) := fun o => (QW_6.out.keep (bAlloc (Below.refl _ _) o)).c0
  have QWd1 : ∀ o : Obj, (w6.alloc o).cell? ⟨gW, 1, none⟩ = some (.slice bW D.length eW) := fun o => (QW_6.out.keep (bAlloc (Below.refl _ _) o)).c1
  go_wp2_with fail
  refine (to_arr ((H3.out.keep HT6.out).keep (bAlloc (Below.refl _ _) _)) Ls3.out Ld3.out).mono ?_
  rintro r w7 ⟨vX3, rfl, ha, hb⟩
  obtain ⟨aX3, cX3, bX3, eX3, rfl, _, _, _, _⟩ := ha.arrI
  have X3_7 : Hid (Arr (w6.heap.size + 1) w7.heap.size w7 (.agg #[.slice aX3 s3.length cX3, .slice bX3 d3.length eX3]) s3 d3) := ha.mono (by first | exact Nat.le_refl _ | simp | (simp; omega)) (Nat.le_refl _)
  clear ha
  have HB7 : Hid (Below w6.heap.size w6 w7) := bTrans (bAlloc (Below.refl _ _) _) hb
  have HT7 : Hid (Below w.heap.size w w7) := bTrans HT6.out HB7.out
  have SZ7 : Hid (w6.heap.size ≤ w7.heap.size) := HB7.out.size
  have P2_7 : Hid (Box w7 w.heap.size (.slice px2 s2.length c2') (.slice py2 d2.length e2') 37) := P2_6.out.keep HB7.out
  have P3_7 : Hid (Box w7 (w.heap.size + 1) (.slice px3 s3.length c3') (.slice py3 d3.length e3') 37) := P3_6.out.keep HB7.out
  have QW_7 : Hid (Box w7 gW (.slice aW S.length cW) (.slice bW D.length eW) 26) := QW_6.out.keep HB7.out
  have W_7 : Hid (Arr w2.heap.size w5.heap.size w7 (.agg #[.slice aW S.length cW, .slice bW D.length eW]) S D) := W_6.out.keep HB7.out
  have X2_7 : Hid (Arr w5.heap.size w6.heap.size w7 (.agg #[.slice aX2 s2.length cX2, .slice bX2 d2.length eX2]) s2 d2) := X2_6.out.keep HB7.out
  have QX2_7 : Hid (Box w7 w6.heap.size (.slice aX2 s2.length cX2) (.slice bX2 d2.length eX2) 26) := (box_new w6 _ _ _).keep hb
  have LTQX2 : Hid (w6.heap.size < w7.heap.size) := QX2_7.out.lt
  clear P2_6 P3_6 QW_6 W_6 X2_6 P2c0 P2c1 P2d0 P2d1 P3c0 P3c1 P3d0 P3d1 QWc0 QWc1 QWd0 QWd1 hb
  have P2c0 := P2_7.out.c0
  have P2c1 := P2_7.out.c1
  have P2d0 : ∀ o : Obj, (w7.alloc o).cell? ⟨w.heap.size, 0, none⟩ = some (.slice px2 s2.length c2') := fun o => (P2_7.out.keep (bAlloc (Below.refl _ _) o)).c0
  have P2d1 : ∀ o : Obj, (w7.alloc o).cell? ⟨w.heap.size, 1, none⟩ = some (.slice py2 d2.length e2') := fun o => (P2_7.out.keep (bAlloc (Below.refl _ _) o)).c1
  have P3c0 := P3_7.out.c0
  have P3c1 := P3_7.out.c1
  have P3d0 : ∀ o : Obj, (w7.alloc o).cell? ⟨(w.heap.size + 1), 0, none⟩ = some (.slice px3 s3.length c3') := fun o => (P3_7.out.keep (bAlloc (Below.refl _ _) o)).c0
  have P3d1 : ∀ o : Obj, (w7.alloc o).cell? ⟨(w.heap.size + 1), 1, none⟩ = some (.slice py3 d3.length e3') := fun o => (P3_7.out.keep (bAlloc (Below.refl _ _) o)).c1
  have QWc0 := QW_7.out.c0
  have QWc1 := QW_7.out.c1
  have QWd0 : ∀ o : Obj, (w7.alloc o).cell? ⟨gW, 0, none⟩ = some (.slice aW S.length cW) := fun o => (QW_7.out.keep (bAlloc (Below.refl _ _) o)).c0
  have QWd1 : ∀ o : Obj, (w7.alloc o).cell? ⟨gW, 1, none⟩ = some (.slice bW D.length eW) := fun o => (QW_7.out.keep (bAlloc (Below.refl _ _) o)).c1
  have QX2c0 := QX2_7.out.c0
  have QX2c1 := QX2_7.out.c1
  have QX2d0 : ∀ o : Obj, (w7.alloc o).cell? ⟨w6.heap.size, 0, none⟩ = some (.slice aX2 s2.length cX2) := fun o => (QX2_7.out.keep (bAlloc (Below.refl _ _) o)).c0
  have QX2d1 : ∀ o : Obj, (w7.alloc o).cell? ⟨w6.heap.size, 1, none⟩ = some (.slice bX2 d2.length eX2) := fun o => (QX2_7.out.keep (bAlloc (Below.refl _ _) o)).c1
  go_wp2_with fail
  refine (IM.out _ _ ((X2_7.out.arrI).keep (bAlloc (Below.refl _ _) _)) _ ((X3_7.out.arrI).keep (bAlloc (Below.refl _ _) _))).mono ?_
  rintro r w8 ⟨vG, rfl, ha, hb⟩
  obtain ⟨aG, cG, bG, eG, rfl, _, _, _, _⟩ := ha.arrI
  have G_8 : Hid (Arr (w7.heap.size + 1) w8.heap.size w8 (.agg #[.slice aG S.length cG, .slice bG D.length eG]) S D) := ha.mono (by first | exact Nat.le_refl _ | simp | (simp; omega)) (Nat.le_refl _)
  clear ha
  have HB8 : Hid (Below w7.heap.size w7 w8) := bTrans (bAlloc (Below.refl _ _) _) hb
  have HT8 : Hid (Below w.heap.size w w8) := bTrans HT7.out HB8.out
  have SZ8 : Hid (w7.heap.size ≤ w8.heap.size) := HB8.out.size
  have P2_8 : Hid (Box w8 w.heap.size (.slice px2 s2.length c2') (.slice py2 d2.length e2') 37) := P2_7.out.keep HB8.out
  have P3_8 : Hid (Box w8 (w.heap.size + 1) (.slice px3 s3.length c3') (.slice py3 d3.length e3') 37) := P3_7.out.keep HB8.out
  have QW_8 : Hid (Box w8 gW (.slice aW S.length cW) (.slice bW D.length eW) 26) := QW_7.out.keep HB8.out
  have QX2_8 : Hid (Box w8 w6.heap.size (.slice aX2 s2.length cX2) (.slice bX2 d2.length eX2) 26) := QX2_7.out.keep HB8.out
  have W_8 : Hid (Arr w2.heap.size w5.heap.size w8 (.agg #[.slice aW S.length cW, .slice bW D.length eW]) S D) := W_7.out.keep HB8.out
  have X2_8 : Hid (Arr w5.heap.size w6.heap.size w8 (.agg #[.slice aX2 s2.length cX2, .slice bX2 d2.length eX2]) s2 d2) := X2_7.out.keep HB8.out
  have X3_8 : Hid (Arr (w6.heap.size + 1) w7.heap.size w8 (.agg #[.slice aX3 s3.length cX3, .slice bX3 d3.length eX3]) s3 d3) := X3_7.out.keep HB8.out
  have QX3_8 : Hid (Box w8 w7.heap.size (.slice aX3 s3.length cX3) (.slice bX3 d3.length eX3) 26) := (box_new w7 _ _ _).keep hb
  have LTQX3 : Hid (w7.heap.size < w8.heap.size) := QX3_8.out.lt
  clear P2_7 P3_7 QW_7 QX2_7 W_7 X2_7 X3_7 P2c0 P2c1 P2d0 P2d1 P3c0 P3c1 P3d0 P3d1 QWc0 QWc1 QWd0 QWd1 QX2c0 QX2c1 QX2d0 QX2d1 hb
  have P2c0 := P2_8.out.c0
  have P2c1 := P2_8.out.c1
  have P2d0 : ∀ o : Obj, (w8.alloc o).cell? ⟨w.heap.size, 0, none⟩ = some (.slice px2 s2.length c2') := fun o => (P2_8.out.keep (bAlloc (Below.refl _ _) o)).c0
  have P2d1 : ∀ o : Obj, (w8.alloc o).cell? ⟨w.heap.size, 1, none⟩ = some (.slice py2 d2.length e2') := fun o => (P2_8.out.keep (bAlloc (Below.refl _ _) o)).c1
  have P3c0 := P3_8.out.c0
  have P3c1 := P3_8.out.c1
  have P3d0 : ∀ o : Obj, (w8.alloc o).cell? ⟨(w.heap.size + 1), 0, none⟩ = some (.slice px3 s3.length c3') := fun o => (P3_8.out.keep (bAlloc (Below.refl _ _) o)).c0
  have P3d1 : ∀ o : Obj, (w8.alloc o).cell? ⟨(w.heap.size + 1), 1, none⟩ = some (.slice py3 d3.length e3') := fun o => (P3_8.out.keep (bAlloc (Below.refl _ _) o)).c1
  have QWc0 := QW_8.out.c0
  have QWc1 := QW_8.out.c1
  have QWd0 : ∀ o : Obj, (w8.alloc o).cell? ⟨gW, 0, none⟩ = some (.slice aW S.length cW) := fun o => (QW_8.out.keep (bAlloc (Below.refl _ _) o)).c0
  have QWd1 : ∀ o : Obj, (w8.alloc o).cell? ⟨gW, 1, none⟩ = some (.slice bW D.length eW) := fun o => (QW_8.out.keep (bAlloc (Below.refl _ _) o)).c1
  have QX2c0 := QX2_8.out.c0
  have QX2c1 := QX2_8.out.c1
  have QX2d0 : ∀ o : Obj, (w8.alloc o).cell? ⟨w6.heap.size, 0, none⟩ = some (.slice aX2 s2.length cX2) := fun o => (QX2_8.out.keep (bAlloc (Below.refl _ _) o)).c0
  have QX2d1 : ∀ o : Obj, (w8.alloc o).cell? ⟨w6.heap.size, 1, none⟩ = some (.slice bX2 d2.length eX2) := fun o => (QX2_8.out.keep (bAlloc (Below.refl _ _) o)).c1
  have QX3c0 := QX3_8.out.c0
  have QX3c1 := QX3_8.out.c1
  have QX3d0 : ∀ o : Obj, (w8.alloc o).cell? ⟨w7.heap.size, 0, none⟩ = some (.slice aX3 s3.length cX3) := fun o => (QX3_8.out.keep (bAlloc (Below.refl _ _) o)).c0
  have QX3d1 : ∀ o : Obj, (w8.alloc o).cell? ⟨w7.heap.size, 1, none⟩ = some (.slice bX3 d3.length eX3) := fun o => (QX3_8.out.keep (bAlloc (Below.refl _ _) o)).c1
  have hneV : (V != V) = false := by simp
  go_wp2_with fail
  refine (eq_arrI ((G_8.out.arrI).keep (bAlloc (Below.refl _ _) _)) ((W_8.out.arrI).keep (bAlloc (Below.refl _ _) _)) LS.out LD.out).mono ?_
  rintro r w9 ⟨rfl, hb⟩
  have HB9 : Hid (Below w8.heap.size w8 w9) := bTrans (bAlloc (Below.refl _ _) _) hb
  have HT9 : Hid (Below w.heap.size w w9) := bTrans HT8.out HB9.out
  have SZ9 : Hid (w8.heap.size ≤ w9.heap.size) := HB9.out.size
  have P2_9 : Hid (Box w9 w.heap.size (.slice px2 s2.length c2') (.slice py2 d2.length e2') 37) := P2_8.out.keep HB9.out
  have P3_9 : Hid (Box w9 (w.heap.size + 1) (.slice px3 s3.length c3') (.slice py3 d3.length e3') 37) := P3_8.out.keep HB9.out
  have QW_9 : Hid (Box w9 gW (.slice aW S.length cW) (.slice bW D.length eW) 26) := QW_8.out.keep HB9.out
  have QX2_9 : Hid (Box w9 w6.heap.size (.slice aX2 s2.length cX2) (.slice bX2 d2.length eX2) 26) := QX2_8.out.keep HB9.out
  have QX3_9 : Hid (Box w9 w7.heap.size (.slice aX3 s3.length cX3) (.slice bX3 d3.length eX3) 26) := QX3_8.out.keep HB9.out
  have W_9 : Hid (Arr w2.heap.size w5.heap.size w9 (.agg #[.slice aW S.length cW, .slice bW D.length eW]) S D) := W_8.out.keep HB9.out
  have X2_9 : Hid (Arr w5.heap.size w6.heap.size w9 (.agg #[.slice aX2 s2.length cX2, .slice bX2 d2.length eX2]) s2 d2) := X2_8.out.keep HB9.out
  have X3_9 : Hid (Arr (w6.heap.size + 1) w7.heap.size w9 (.agg #[.slice aX3 s3.length cX3, .slice bX3 d3.length eX3]) s3 d3) := X3_8.out.keep HB9.out
  have G_9 : Hid (Arr (w7.heap.size + 1) w8.heap.size w9 (.agg #[.slice aG S.length cG, .slice bG D.length eG]) S D) := G_8.out.keep HB9.out
  have QG_9 : Hid (Box w9 w8.heap.size (.slice aG S.length cG) (.slice bG D.length eG) 26) := (box_new w8 _ _ _).keep hb
  have LTQG : Hid (w8.heap.size < w9.heap.size) := QG_9.out.lt
  clear P2_8 P3_8 QW_8 QX2_8 QX3_8 W_8 X2_8 X3_8 G_8 P2c0 P2c1 P2d0 P2d1 P3c0 P3c1 P3d0 P3d1 QWc0 QWc1 QWd0 QWd1 QX2c0 QX2c1 QX2d0 QX2d1 QX3c0 QX3c1 QX3d0 QX3d1 hb
  have P2c0 := P2_9.out.c0
  have P2c1 := P2_9.out.c1
  have P3c0 := P3_9.out.c0
  have P3c1 := P3_9.out.c1
  have QWc0 := QW_9.out.c0
  have QWc1 := QW_9.out.c1
  have QX2c0 := QX2_9.out.c0
  have QX2c1 := QX2_9.out.c1
  have QX3c0 := QX3_9.out.c0
  have QX3c1 := QX3_9.out.c1
  have QGc0 := QG_9.out.c0
  have QGc1 := QG_9.out.c1
  go_wp2_with fail
  go_region_held3 (fun w' => w'.cell? ⟨w.heap.size, 0, none⟩ = some (.slice px2 s2.length c2') ∧ w'.cell? ⟨w.heap.size, 1, none⟩ = some (.slice py2 d2.length e2') ∧ w'.cell? ⟨w6.heap.size, 0, none⟩ = some (.slice aX2 s2.length cX2) ∧ w'.cell? ⟨w6.heap.size, 1, none⟩ = some (.slice bX2 d2.length eX2))
    (first | exact ⟨z0, z1, z2, z3⟩ | exact ⟨y0, y1, y2, y3⟩ | exact ⟨P2c0, P2c1, QX2c0, QX2c1⟩)
    (first
      | (go_at_call 16; refine (to_arr (H2.out.keep (HT9.out.drew)) Ls2.out Ld2.out).mono ?_; rintro r wa10 ⟨va, rfl, ha, hb⟩; have AA10 : Hid (ArrI wa10 va s2 d2) := ha.arrI; have HA10 : Hid (Below w9.heap.size w9 wa10) := bTrans ((Below.refl w9.heap.size w9).drew) hb; have y0 := (P2_9.out.keep HA10.out).c0; have y1 := (P2_9.out.keep HA10.out).c1; have y2 := (QX2_9.out.keep HA10.out).c0; have y3 := (QX2_9.out.keep HA10.out).c1; clear ha hb)
      | (go_at_call 17; refine (eq_arrI (X2_9.out.arrI.keep HA10.out) AA10.out Ls2.out Ld2.out).mono ?_; rintro r w10 ⟨rfl, hb⟩; have HB10 : Hid (Below w9.heap.size w9 w10) := bTrans HA10.out hb; have z0 := (P2_9.out.keep HB10.out).c0; have z1 := (P2_9.out.keep HB10.out).c1; have z2 := (QX2_9.out.keep HB10.out).c0; have z3 := (QX2_9.out.keep HB10.out).c1; clear hb))
  have HT10 : Hid (Below w.heap.size w w10) := bTrans HT9.out HB10.out
  have SZ10 : Hid (w9.heap.size ≤ w10.heap.size) := HB10.out.size
  have P2_10 : Hid (Box w10 w.heap.size (.slice px2 s2.length c2') (.slice py2 d2.length e2') 37) := P2_9.out.keep HB10.out
  have P3_10 : Hid (Box w10 (w.heap.size + 1) (.slice px3 s3.length c3') (.slice py3 d3.length e3') 37) := P3_9.out.keep HB10.out
  have QW_10 : Hid (Box w10 gW (.slice aW S.length cW) (.slice bW D.length eW) 26) := QW_9.out.keep HB10.out
  have QX2_10 : Hid (Box w10 w6.heap.size (.slice aX2 s2.length cX2) (.slice bX2 d2.length eX2) 26) := QX2_9.out.keep HB10.out
  have QX3_10 : Hid (Box w10 w7.heap.size (.slice aX3 s3.length cX3) (.slice bX3 d3.length eX3) 26) := QX3_9.out.keep HB10.out
  have QG_10 : Hid (Box w10 w8.heap.size (.slice aG S.length cG) (.slice bG D.length eG) 26) := QG_9.out.keep HB10.out
  have W_10 : Hid (Arr w2.heap.size w5.heap.size w10 (.agg #[.slice aW S.length cW, .slice bW D.length eW]) S D) := W_9.out.keep HB10.out
  have X2_10 : Hid (Arr w5.heap.size w6.heap.size w10 (.agg #[.slice aX2 s2.length cX2, .slice bX2 d2.length eX2]) s2 d2) := X2_9.out.keep HB10.out
  have X3_10 : Hid (Arr (w6.heap.size + 1) w7.heap.size w10 (.agg #[.slice aX3 s3.length cX3, .slice bX3 d3.length eX3]) s3 d3) := X3_9.out.keep HB10.out
  have G_10 : Hid (Arr (w7.heap.size + 1) w8.heap.size w10 (.agg #[.slice aG S.length cG, .slice bG D.length eG]) S D) := G_9.out.keep HB10.out
  clear P2_9 P3_9 QW_9 QX2_9 QX3_9 QG_9 W_9 X2_9 X3_9 G_9 P2c0 P2c1 P3c0 P3c1 QWc0 QWc1 QX2c0 QX2c1 QX3c0 QX3c1 QGc0 QGc1 y0 y1 y2 y3 z0 z1 z2 z3 AA10 HA10
  have P2c0 := P2_10.out.c0
  have P2c1 := P2_10.out.c1
  have P3c0 := P3_10.out.c0
  have P3c1 := P3_10.out.c1
  have QWc0 := QW_10.out.c0
  have QWc1 := QW_10.out.c1
  have QX2c0 := QX2_10.out.c0
  have QX2c1 := QX2_10.out.c1
  have QX3c0 := QX3_10.out.c0
  have QX3c1 := QX3_10.out.c1
  have QGc0 := QG_10.out.c0
  have QGc1 := QG_10.out.c1
  go_wp2_with fail
  go_region_held3 (fun w' => w'.cell? ⟨(w.heap.size + 1), 0, none⟩ = some (.slice px3 s3.length c3') ∧ w'.cell? ⟨(w.heap.size + 1), 1, none⟩ = some (.slice py3 d3.length e3') ∧ w'.cell? ⟨w7.heap.size, 0, none⟩ = some (.slice aX3 s3.length cX3) ∧ w'.cell? ⟨w7.heap.size, 1, none⟩ = some (.slice bX3 d3.length eX3))
    (first | exact ⟨z0, z1, z2, z3⟩ | exact ⟨y0, y1, y2, y3⟩ | exact ⟨P3c0, P3c1, QX3c0, QX3c1⟩)
    (first
      | (go_at_call 16; refine (to_arr (H3.out.keep (HT10.out.drew)) Ls3.out Ld3.out).mono ?_; rintro r wa11 ⟨va, rfl, ha, hb⟩; have AA11 : Hid (ArrI wa11 va s3 d3) := ha.arrI; have HA11 : Hid (Below w10.heap.size w10 wa11) := bTrans ((Below.refl w10.heap.size w10).drew) hb; have y0 := (P3_10.out.keep HA11.out).c0; have y1 := (P3_10.out.keep HA11.out).c1; have y2 := (QX3_10.out.keep HA11.out).c0; have y3 := (QX3_10.out.keep HA11.out).c1; clear ha hb)
      | (go_at_call 17; refine (eq_arrI (X3_10.out.arrI.keep HA11.out) AA11.out Ls3.out Ld3.out).mono ?_; rintro r w11 ⟨rfl, hb⟩; have HB11 : Hid (Below w10.heap.size w10 w11) := bTrans HA11.out hb; have z0 := (P3_10.out.keep HB11.out).c0; have z1 := (P3_10.out.keep HB11.out).c1; have z2 := (QX3_10.out.keep HB11.out).c0; have z3 := (QX3_10.out.keep HB11.out).c1; clear hb))
  have HT11 : Hid (Below w.heap.size w w11) := bTrans HT10.out HB11.out
  have SZ11 : Hid (w10.heap.size ≤ w11.heap.size) := HB11.out.size
  have P2_11 : Hid (Box w11 w.heap.size (.slice px2 s2.length c2') (.slice py2 d2.length e2') 37) := P2_10.out.keep HB11.out
  have P3_11 : Hid (Box w11 (w.heap.size + 1) (.slice px3 s3.length c3') (.slice py3 d3.length e3') 37) := P3_10.out.keep HB11.out
  have QW_11 : Hid (Box w11 gW (.slice aW S.length cW) (.slice bW D.length eW) 26) := QW_10.out.keep HB11.out
  have QX2_11 : Hid (Box w11 w6.heap.size (.slice aX2 s2.length cX2) (.slice bX2 d2.length eX2) 26) := QX2_10.out.keep HB11.out
  have QX3_11 : Hid (Box w11 w7.heap.size (.slice aX3 s3.length cX3) (.slice bX3 d3.length eX3) 26) := QX3_10.out.keep HB11.out
  have QG_11 : Hid (Box w11 w8.heap.size (.slice aG S.length cG) (.slice bG D.length eG) 26) := QG_10.out.keep HB11.out
  have W_11 : Hid (Arr w2.heap.size w5.heap.size w11 (.agg #[.slice aW S.length cW, .slice bW D.length eW]) S D) := W_10.out.keep HB11.out
  have X2_11 : Hid (Arr w5.heap.size w6.heap.size w11 (.agg #[.slice aX2 s2.length cX2, .slice bX2 d2.length eX2]) s2 d2) := X2_10.out.keep HB11.out
  have X3_11 : Hid (Arr (w6.heap.size + 1) w7.heap.size w11 (.agg #[.slice aX3 s3.length cX3, .slice bX3 d3.length eX3]) s3 d3) := X3_10.out.keep HB11.out
  have G_11 : Hid (Arr (w7.heap.size + 1) w8.heap.size w11 (.agg #[.slice aG S.length cG, .slice bG D.length eG]) S D) := G_10.out.keep HB11.out
  clear P2_10 P3_10 QW_10 QX2_10 QX3_10 QG_10 W_10 X2_10 X3_10 G_10 P2c0 P2c1 P3c0 P3c1 QWc0 QWc1 QX2c0 QX2c1 QX3c0 QX3c1 QGc0 QGc1 y0 y1 y2 y3 z0 z1 z2 z3 AA11 HA11
  have P2c0 := P2_11.out.c0
  have P2c1 := P2_11.out.c1
  have P3c0 := P3_11.out.c0
  have P3c1 := P3_11.out.c1
  have QWc0 := QW_11.out.c0
  have QWc1 := QW_11.out.c1
  have QX2c0 := QX2_11.out.c0
  have QX2c1 := QX2_11.out.c1
  have QX3c0 := QX3_11.out.c0
  have QX3c1 := QX3_11.out.c1
  have QGc0 := QG_11.out.c0
  have QGc1 := QG_11.out.c1
  go_wp2_with fail
  refine (mark_arr X2_11.out Ls2.out Ld2.out (1 : Int) (by have := Ls2.out; have := Ld2.out; have := Ls3.out; have := Ld3.out; have := LS.out; have := LD.out; omega) (by have := Ls2.out; have := Ld2.out; have := Ls3.out; have := Ld3.out; have := LS.out; have := LD.out; omega)).mono ?_
  rintro r w12 ⟨rfl, ha, hw⟩
  have HT12 : Hid (Below w.heap.size w w12) := HT11.out.trans (hw.below (by have := SZ1.out; have := LTP2.out; have := LTP3.out; have := SZ2.out; have := SZ5.out; have := LTQW.out; have := SZ6.out; have := SZ7.out; have := LTQX2.out; have := SZ8.out; have := LTQX3.out; have := SZ9.out; have := LTQG.out; have := SZ10.out; have := SZ11.out; omega) HT11.out.size)
  have SZ12 : Hid (w11.heap.size ≤ w12.heap.size) := hw.size
  have P2_12 : Hid (Box w12 w.heap.size (.slice px2 s2.length c2') (.slice py2 d2.length e2') 37) := P2_11.out.win hw (by have := SZ1.out; have := LTP2.out; have := LTP3.out; have := SZ2.out; have := SZ5.out; have := LTQW.out; have := SZ6.out; have := SZ7.out; have := LTQX2.out; have := SZ8.out; have := LTQX3.out; have := SZ9.out; have := LTQG.out; have := SZ10.out; have := SZ11.out; omega)
  have P3_12 : Hid (Box w12 (w.heap.size + 1) (.slice px3 s3.length c3') (.slice py3 d3.length e3') 37) := P3_11.out.win hw (by have := SZ1.out; have := LTP2.out; have := LTP3.out; have := SZ2.out; have := SZ5.out; have := LTQW.out; have := SZ6.out; have := SZ7.out; have := LTQX2.out; have := SZ8.out; have := LTQX3.out; have := SZ9.out; have := LTQG.out; have := SZ10.out; have := SZ11.out; omega)
  have QW_12 : Hid (Box w12 gW (.slice aW S.length cW) (.slice bW D.length eW) 26) := QW_11.out.win hw (by have := SZ1.out; have := LTP2.out; have := LTP3.out; have := SZ2.out; have := SZ5.out; have := LTQW.out; have := SZ6.out; have := SZ7.out; have := LTQX2.out; have := SZ8.out; have := LTQX3.out; have := SZ9.out; have := LTQG.out; have := SZ10.out; have := SZ11.out; omega)
  have QX2_12 : Hid (Box w12 w6.heap.size (.slice aX2 s2.length cX2) (.slice bX2 d2.length eX2) 26) := QX2_11.out.win hw (by have := SZ1.out; have := LTP2.out; have := LTP3.out; have := SZ2.out; have := SZ5.out; have := LTQW.out; have := SZ6.out; have := SZ7.out; have := LTQX2.out; have := SZ8.out; have := LTQX3.out; have := SZ9.out; have := LTQG.out; have := SZ10.out; have := SZ11.out; omega)
  have QX3_12 : Hid (Box w12 w7.heap.size (.slice aX3 s3.length cX3) (.slice bX3 d3.length eX3) 26) := QX3_11.out.win hw (by have := SZ1.out; have := LTP2.out; have := LTP3.out; have := SZ2.out; have := SZ5.out; have := LTQW.out; have := SZ6.out; have := SZ7.out; have := LTQX2.out; have := SZ8.out; have := LTQX3.out; have := SZ9.out; have := LTQG.out; have := SZ10.out; have := SZ11.out; omega)
  have QG_12 : Hid (Box w12 w8.heap.size (.slice aG S.length cG) (.slice bG D.length eG) 26) := QG_11.out.win hw (by have := SZ1.out; have := LTP2.out; have := LTP3.out; have := SZ2.out; have := SZ5.out; have := LTQW.out; have := SZ6.out; have := SZ7.out; have := LTQX2.out; have := SZ8.out; have := LTQX3.out; have := SZ9.out; have := LTQG.out; have := SZ10.out; have := SZ11.out; omega)
  have W_12 : Hid (Arr w2.heap.size w5.heap.size w12 (.agg #[.slice aW S.length cW, .slice bW D.length eW]) S D) := W_11.out.win hw (by have := SZ1.out; have := LTP2.out; have := LTP3.out; have := SZ2.out; have := SZ5.out; have := LTQW.out; have := SZ6.out; have := SZ7.out; have := LTQX2.out; have := SZ8.out; have := LTQX3.out; have := SZ9.out; have := LTQG.out; have := SZ10.out; have := SZ11.out; omega)
  have X3_12 : Hid (Arr (w6.heap.size + 1) w7.heap.size w12 (.agg #[.slice aX3 s3.length cX3, .slice bX3 d3.length eX3]) s3 d3) := X3_11.out.win hw (by have := SZ1.out; have := LTP2.out; have := LTP3.out; have := SZ2.out; have := SZ5.out; have := LTQW.out; have := SZ6.out; have := SZ7.out; have := LTQX2.out; have := SZ8.out; have := LTQX3.out; have := SZ9.out; have := LTQG.out; have := SZ10.out; have := SZ11.out; omega)
  have G_12 : Hid (Arr (w7.heap.size + 1) w8.heap.size w12 (.agg #[.slice aG S.length cG, .slice bG D.length eG]) S D) := G_11.out.win hw (by have := SZ1.out; have := LTP2.out; have := LTP3.out; have := SZ2.out; have := SZ5.out; have := LTQW.out; have := SZ6.out; have := SZ7.out; have := LTQX2.out; have := SZ8.out; have := LTQX3.out; have := SZ9.out; have := LTQG.out; have := SZ10.out; have := SZ11.out; omega)
  have X2_12 : Hid (Arr w5.heap.size w6.heap.size w12 (.agg #[.slice aX2 s2.length cX2, .slice bX2 d2.length eX2]) (upFrom ((1 : Int)) s2.length) (upFrom ((1 : Int) + s2.length) d2.length)) := ha
  clear P2_11 P3_11 QW_11 QX2_11 QX3_11 QG_11 W_11 X3_11 G_11 X2_11 P2c0 P2c1 P3c0 P3c1 QWc0 QWc1 QX2c0 QX2c1 QX3c0 QX3c1 QGc0 QGc1 ha hw
  have P2c0 := P2_12.out.c0
  have P2c1 := P2_12.out.c1
  have P3c0 := P3_12.out.c0
  have P3c1 := P3_12.out.c1
  have QWc0 := QW_12.out.c0
  have QWc1 := QW_12.out.c1
  have QX2c0 := QX2_12.out.c0
  have QX2c1 := QX2_12.out.c1
  have QX3c0 := QX3_12.out.c0
  have QX3c1 := QX3_12.out.c1
  have QGc0 := QG_12.out.c0
  have QGc1 := QG_12.out.c1
  go_wp2_with fail
  refine (mark_arr X3_12.out Ls3.out Ld3.out ((1 : Int) + s2.length + d2.length) (by have := Ls2.out; have := Ld2.out; have := Ls3.out; have := Ld3.out; have := LS.out; have := LD.out; omega) (by have := Ls2.out; have := Ld2.out; have := Ls3.out; have := Ld3.out; have := LS.out; have := LD.out; omega)).mono ?_
  rintro r w13 ⟨rfl, ha, hw⟩
  have HT13 : Hid (Below w.heap.size w w13) := HT12.out.trans (hw.below (by have := SZ1.out; have := LTP2.out; have := LTP3.out; have := SZ2.out; have := SZ5.out; have := LTQW.out; have := SZ6.out; have := SZ7.out; have := LTQX2.out; have := SZ8.out; have := LTQX3.out; have := SZ9.out; have := LTQG.out; have := SZ10.out; have := SZ11.out; have := SZ12.out; omega) HT12.out.size)
  have SZ13 : Hid (w12.heap.size ≤ w13.heap.size) := hw.size
  have P2_13 : Hid (Box w13 w.heap.size (.slice px2 s2.length c2') (.slice py2 d2.length e2') 37) := P2_12.out.win hw (by have := SZ1.out; have := LTP2.out; have := LTP3.out; have := SZ2.out; have := SZ5.out; have := LTQW.out; have := SZ6.out; have := SZ7.out; have := LTQX2.out; have := SZ8.out; have := LTQX3.out; have := SZ9.out; have := LTQG.out; have := SZ10.out; have := SZ11.out; have := SZ12.out; omega)
  have P3_13 : Hid (Box w13 (w.heap.size + 1) (.slice px3 s3.length c3') (.slice py3 d3.length e3') 37) := P3_12.out.win hw (by have := SZ1.out; have := LTP2.out; have := LTP3.out; have := SZ2.out; have := SZ5.out; have := LTQW.out; have := SZ6.out; have := SZ7.out; have := LTQX2.out; have := SZ8.out; have := LTQX3.out; have := SZ9.out; have := LTQG.out; have := SZ10.out; have := SZ11.out; have := SZ12.out; omega)
  have QW_13 : Hid (Box w13 gW (.slice aW S.length cW) (.slice bW D.length eW) 26) := QW_12.out.win hw (by have := SZ1.out; have := LTP2.out; have := LTP3.out; have := SZ2.out; have := SZ5.out; have := LTQW.out; have := SZ6.out; have := SZ7.out; have := LTQX2.out; have := SZ8.out; have := LTQX3.out; have := SZ9.out; have := LTQG.out; have := SZ10.out; have := SZ11.out; have := SZ12.out; omega)
  have QX2_13 : Hid (Box w13 w6.heap.size (.slice aX2 s2.length cX2) (.slice bX2 d2.length eX2) 26) := QX2_12.out.win hw (by have := SZ1.out; have := LTP2.out; have := LTP3.out; have := SZ2.out; have := SZ5.out; have := LTQW.out; have := SZ6.out; have := SZ7.out; have := LTQX2.out; have := SZ8.out; have := LTQX3.out; have := SZ9.out; have := LTQG.out; have := SZ10.out; have := SZ11.out; have := SZ12.out; omega)
  have QX3_13 : Hid (Box w13 w7.heap.size (.slice aX3 s3.length cX3) (.slice bX3 d3.length eX3) 26) := QX3_12.out.win hw (by have := SZ1.out; have := LTP2.out; have := LTP3.out; have := SZ2.out; have := SZ5.out; have := LTQW.out; have := SZ6.out; have := SZ7.out; have := LTQX2.out; have := SZ8.out; have := LTQX3.out; have := SZ9.out; have := LTQG.out; have := SZ10.out; have := SZ11.out; have := SZ12.out; omega)
  have QG_13 : Hid (Box w13 w8.heap.size (.slice aG S.length cG) (.slice bG D.length eG) 26) := QG_12.out.win hw (by have := SZ1.out; have := LTP2.out; have := LTP3.out; have := SZ2.out; have := SZ5.out; have := LTQW.out; have := SZ6.out; have := SZ7.out; have := LTQX2.out; have := SZ8.out; have := LTQX3.out; have := SZ9.out; have := LTQG.out; have := SZ10.out; have := SZ11.out; have := SZ12.out; omega)
  have W_13 : Hid (Arr w2.heap.size w5.heap.size w13 (.agg #[.slice aW S.length cW, .slice bW D.length eW]) S D) := W_12.out.win hw (by have := SZ1.out; have := LTP2.out; have := LTP3.out; have := SZ2.out; have := SZ5.out; have := LTQW.out; have := SZ6.out; have := SZ7.out; have := LTQX2.out; have := SZ8.out; have := LTQX3.out; have := SZ9.out; have := LTQG.out; have := SZ10.out; have := SZ11.out; have := SZ12.out; omega)
  have X2_13 : Hid (Arr w5.heap.size w6.heap.size w13 (.agg #[.slice aX2 s2.length cX2, .slice bX2 d2.length eX2]) (upFrom ((1 : Int)) s2.length) (upFrom ((1 : Int) + s2.length) d2.length)) := X2_12.out.win hw (by have := SZ1.out; have := LTP2.out; have := LTP3.out; have := SZ2.out; have := SZ5.out; have := LTQW.out; have := SZ6.out; have := SZ7.out; have := LTQX2.out; have := SZ8.out; have := LTQX3.out; have := SZ9.out; have := LTQG.out; have := SZ10.out; have := SZ11.out; have := SZ12.out; omega)
  have G_13 : Hid (Arr (w7.heap.size + 1) w8.heap.size w13 (.agg #[.slice aG S.length cG, .slice bG D.length eG]) S D) := G_12.out.win hw (by have := SZ1.out; have := LTP2.out; have := LTP3.out; have := SZ2.out; have := SZ5.out; have := LTQW.out; have := SZ6.out; have := SZ7.out; have := LTQX2.out; have := SZ8.out; have := LTQX3.out; have := SZ9.out; have := LTQG.out; have := SZ10.out; have := SZ11.out; have := SZ12.out; omega)
  have X3_13 : Hid (Arr (w6.heap.size + 1) w7.heap.size w13 (.agg #[.slice aX3 s3.length cX3, .slice bX3 d3.length eX3]) (upFrom (((1 : Int) + s2.length + d2.length)) s3.length) (upFrom (((1 : Int) + s2.length + d2.length) + s3.length) d3.length)) := ha
  clear P2_12 P3_12 QW_12 QX2_12 QX3_12 QG_12 W_12 X2_12 G_12 X3_12 P2c0 P2c1 P3c0 P3c1 QWc0 QWc1 QX2c0 QX2c1 QX3c0 QX3c1 QGc0 QGc1 ha hw
  have P2c0 := P2_13.out.c0
  have P2c1 := P2_13.out.c1
  have P3c0 := P3_13.out.c0
  have P3c1 := P3_13.out.c1
  have QWc0 := QW_13.out.c0
  have QWc1 := QW_13.out.c1
  have QX2c0 := QX2_13.out.c0
  have QX2c1 := QX2_13.out.c1
  have QX3c0 := QX3_13.out.c0
  have QX3c1 := QX3_13.out.c1
  have QGc0 := QG_13.out.c0
  have QGc1 := QG_13.out.c1
  go_wp2_with fail
  refine (eq_arrI (G_13.out.arrI) (W_13.out.arrI) LS.out LD.out).mono ?_
  rintro r w14 ⟨rfl, hb⟩
  have HB14 : Hid (Below w13.heap.size w13 w14) := hb
  have HT14 : Hid (Below w.heap.size w w14) := bTrans HT13.out HB14.out
  have SZ14 : Hid (w13.heap.size ≤ w14.heap.size) := HB14.out.size
  have P2_14 : Hid (Box w14 w.heap.size (.slice px2 s2.length c2') (.slice py2 d2.length e2') 37) := P2_13.out.keep HB14.out
  have P3_14 : Hid (Box w14 (w.heap.size + 1) (.slice px3 s3.length c3') (.slice py3 d3.length e3') 37) := P3_13.out.keep HB14.out
  have QW_14 : Hid (Box w14 gW (.slice aW S.length cW) (.slice bW D.length eW) 26) := QW_13.out.keep HB14.out
  have QX2_14 : Hid (Box w14 w6.heap.size (.slice aX2 s2.length cX2) (.slice bX2 d2.length eX2) 26) := QX2_13.out.keep HB14.out
  have QX3_14 : Hid (Box w14 w7.heap.size (.slice aX3 s3.length cX3) (.slice bX3 d3.length eX3) 26) := QX3_13.out.keep HB14.out
  have QG_14 : Hid (Box w14 w8.heap.size (.slice aG S.length cG) (.slice bG D.length eG) 26) := QG_13.out.keep HB14.out
  have W_14 : Hid (Arr w2.heap.size w5.heap.size w14 (.agg #[.slice aW S.length cW, .slice bW D.length eW]) S D) := W_13.out.keep HB14.out
  have G_14 : Hid (Arr (w7.heap.size + 1) w8.heap.size w14 (.agg #[.slice aG S.length cG, .slice bG D.length eG]) S D) := G_13.out.keep HB14.out
  clear P2_13 P3_13 QW_13 QX2_13 QX3_13 QG_13 W_13 G_13 P2c0 P2c1 P3c0 P3c1 QWc0 QWc1 QX2c0 QX2c1 QX3c0 QX3c1 QGc0 QGc1 hb
  have P2c0 := P2_14.out.c0
  have P2c1 := P2_14.out.c1
  have P3c0 := P3_14.out.c0
  have P3c1 := P3_14.out.c1
  have QWc0 := QW_14.out.c0
  have QWc1 := QW_14.out.c1
  have QX2c0 := QX2_14.out.c0
  have QX2c1 := QX2_14.out.c1
  have QX3c0 := QX3_14.out.c0
  have QX3c1 := QX3_14.out.c1
  have QGc0 := QG_14.out.c0
  have QGc1 := QG_14.out.c1
  go_wp2_with fail
  refine (mark_arr G_14.out LS.out LD.out (1 : Int) (by have := Ls2.out; have := Ld2.out; have := Ls3.out; have := Ld3.out; have := LS.out; have := LD.out; omega) (by have := Ls2.out; have := Ld2.out; have := Ls3.out; have := Ld3.out; have := LS.out; have := LD.out; omega)).mono ?_
  rintro r w15 ⟨rfl, ha, hw⟩
  have HT15 : Hid (Below w.heap.size w w15) := HT14.out.trans (hw.below (by have := SZ1.out; have := LTP2.out; have := LTP3.out; have := SZ2.out; have := SZ5.out; have := LTQW.out; have := SZ6.out; have := SZ7.out; have := LTQX2.out; have := SZ8.out; have := LTQX3.out; have := SZ9.out; have := LTQG.out; have := SZ10.out; have := SZ11.out; have := SZ12.out; have := SZ13.out; have := SZ14.out; omega) HT14.out.size)
  have SZ15 : Hid (w14.heap.size ≤ w15.heap.size) := hw.size
  have P2_15 : Hid (Box w15 w.heap.size (.slice px2 s2.length c2') (.slice py2 d2.length e2') 37) := P2_14.out.win hw (by have := SZ1.out; have := LTP2.out; have := LTP3.out; have := SZ2.out; have := SZ5.out; have := LTQW.out; have := SZ6.out; have := SZ7.out; have := LTQX2.out; have := SZ8.out; have := LTQX3.out; have := SZ9.out; have := LTQG.out; have := SZ10.out; have := SZ11.out; have := SZ12.out; have := SZ13.out; have := SZ14.out; omega)
  have P3_15 : Hid (Box w15 (w.heap.size + 1) (.slice px3 s3.length c3') (.slice py3 d3.length e3') 37) := P3_14.out.win hw (by have := SZ1.out; have := LTP2.out; have := LTP3.out; have := SZ2.out; have := SZ5.out; have := LTQW.out; have := SZ6.out; have := SZ7.out; have := LTQX2.out; have := SZ8.out; have := LTQX3.out; have := SZ9.out; have := LTQG.out; have := SZ10.out; have := SZ11.out; have := SZ12.out; have := SZ13.out; have := SZ14.out; omega)
  have QW_15 : Hid (Box w15 gW (.slice aW S.length cW) (.slice bW D.length eW) 26) := QW_14.out.win hw (by have := SZ1.out; have := LTP2.out; have := LTP3.out; have := SZ2.out; have := SZ5.out; have := LTQW.out; have := SZ6.out; have := SZ7.out; have := LTQX2.out; have := SZ8.out; have := LTQX3.out; have := SZ9.out; have := LTQG.out; have := SZ10.out; have := SZ11.out; have := SZ12.out; have := SZ13.out; have := SZ14.out; omega)
  have QX2_15 : Hid (Box w15 w6.heap.size (.slice aX2 s2.length cX2) (.slice bX2 d2.length eX2) 26) := QX2_14.out.win hw (by have := SZ1.out; have := LTP2.out; have := LTP3.out; have := SZ2.out; have := SZ5.out; have := LTQW.out; have := SZ6.out; have := SZ7.out; have := LTQX2.out; have := SZ8.out; have := LTQX3.out; have := SZ9.out; have := LTQG.out; have := SZ10.out; have := SZ11.out; have := SZ12.out; have := SZ13.out; have := SZ14.out; omega)
  have QX3_15 : Hid (Box w15 w7.heap.size (.slice aX3 s3.length cX3) (.slice bX3 d3.length eX3) 26) := QX3_14.out.win hw (by have := SZ1.out; have := LTP2.out; have := LTP3.out; have := SZ2.out; have := SZ5.out; have := LTQW.out; have := SZ6.out; have := SZ7.out; have := LTQX2.out; have := SZ8.out; have := LTQX3.out; have := SZ9.out; have := LTQG.out; have := SZ10.out; have := SZ11.out; have := SZ12.out; have := SZ13.out; have := SZ14.out; omega)
  have QG_15 : Hid (Box w15 w8.heap.size (.slice aG S.length cG) (.slice bG D.length eG) 26) := QG_14.out.win hw (by have := SZ1.out; have := LTP2.out; have := LTP3.out; have := SZ2.out; have := SZ5.out; have := LTQW.out; have := SZ6.out; have := SZ7.out; have := LTQX2.out; have := SZ8.out; have := LTQX3.out; have := SZ9.out; have := LTQG.out; have := SZ10.out; have := SZ11.out; have := SZ12.out; have := SZ13.out; have := SZ14.out; omega)
  have W_15 : Hid (Arr w2.heap.size w5.heap.size w15 (.agg #[.slice aW S.length cW, .slice bW D.length eW]) S D) := W_14.out.win hw (by have := SZ1.out; have := LTP2.out; have := LTP3.out; have := SZ2.out; have := SZ5.out; have := LTQW.out; have := SZ6.out; have := SZ7.out; have := LTQX2.out; have := SZ8.out; have := LTQX3.out; have := SZ9.out; have := LTQG.out; have := SZ10.out; have := SZ11.out; have := SZ12.out; have := SZ13.out; have := SZ14.out; omega)
  have G_15 : Hid (Arr (w7.heap.size + 1) w8.heap.size w15 (.agg #[.slice aG S.length cG, .slice bG D.length eG]) (upFrom ((1 : Int)) S.length) (upFrom ((1 : Int) + S.length) D.length)) := ha
  clear P2_14 P3_14 QW_14 QX2_14 QX3_14 QG_14 W_14 G_14 P2c0 P2c1 P3c0 P3c1 QWc0 QWc1 QX2c0 QX2c1 QX3c0 QX3c1 QGc0 QGc1 ha hw
  have P2c0 := P2_15.out.c0
  have P2c1 := P2_15.out.c1
  have P3c0 := P3_15.out.c0
  have P3c1 := P3_15.out.c1
  have QWc0 := QW_15.out.c0
  have QWc1 := QW_15.out.c1
  have QX2c0 := QX2_15.out.c0
  have QX2c1 := QX2_15.out.c1
  have QX3c0 := QX3_15.out.c0
  have QX3c1 := QX3_15.out.c1
  have QGc0 := QG_15.out.c0
  have QGc1 := QG_15.out.c1
  go_wp2_with fail
  refine (held_arr (1 : Int) G_15.out LS.out LD.out (by decide) (by decide)).mono ?_
  rintro r w16 ⟨rfl, hb⟩
  have HB16 : Hid (Below w15.heap.size w15 w16) := hb
  have HT16 : Hid (Below w.heap.size w w16) := bTrans HT15.out HB16.out
  have SZ16 : Hid (w15.heap.size ≤ w16.heap.size) := HB16.out.size
  have P2_16 : Hid (Box w16 w.heap.size (.slice px2 s2.length c2') (.slice py2 d2.length e2') 37) := P2_15.out.keep HB16.out
  have P3_16 : Hid (Box w16 (w.heap.size + 1) (.slice px3 s3.length c3') (.slice py3 d3.length e3') 37) := P3_15.out.keep HB16.out
  have QW_16 : Hid (Box w16 gW (.slice aW S.length cW) (.slice bW D.length eW) 26) := QW_15.out.keep HB16.out
  have QX2_16 : Hid (Box w16 w6.heap.size (.slice aX2 s2.length cX2) (.slice bX2 d2.length eX2) 26) := QX2_15.out.keep HB16.out
  have QX3_16 : Hid (Box w16 w7.heap.size (.slice aX3 s3.length cX3) (.slice bX3 d3.length eX3) 26) := QX3_15.out.keep HB16.out
  have QG_16 : Hid (Box w16 w8.heap.size (.slice aG S.length cG) (.slice bG D.length eG) 26) := QG_15.out.keep HB16.out
  have W_16 : Hid (Arr w2.heap.size w5.heap.size w16 (.agg #[.slice aW S.length cW, .slice bW D.length eW]) S D) := W_15.out.keep HB16.out
  have G_16 : Hid (Arr (w7.heap.size + 1) w8.heap.size w16 (.agg #[.slice aG S.length cG, .slice bG D.length eG]) (upFrom ((1 : Int)) S.length) (upFrom ((1 : Int) + S.length) D.length)) := G_15.out.keep HB16.out
  clear P2_15 P3_15 QW_15 QX2_15 QX3_15 QG_15 W_15 G_15 P2c0 P2c1 P3c0 P3c1 QWc0 QWc1 QX2c0 QX2c1 QX3c0 QX3c1 QGc0 QGc1 hb
  have P2c0 := P2_16.out.c0
  have P2c1 := P2_16.out.c1
  have P3c0 := P3_16.out.c0
  have P3c1 := P3_16.out.c1
  have QWc0 := QW_16.out.c0
  have QWc1 := QW_16.out.c1
  have QX2c0 := QX2_16.out.c0
  have QX2c1 := QX2_16.out.c1
  have QX3c0 := QX3_16.out.c0
  have QX3c1 := QX3_16.out.c1
  have QGc0 := QG_16.out.c0
  have QGc1 := QG_16.out.c1
  go_wp2_with fail
  go_cut [19, 20] from 21 (fun p q w' => ∃ (gJ : Nat) (aJ : Option Addr) (cJ : Nat) (bJ : Option Addr) (eJ : Nat), p = .pointer (some ⟨gJ, 0, none⟩) ∧ q = .int .i64 V ∧ Box w' gJ (.slice aJ S.length cJ) (.slice bJ D.length eJ) 26 ∧ Arr w16.heap.size w'.heap.size w' (.agg #[.slice aJ S.length cJ, .slice bJ D.length eJ]) S D ∧ Below w16.heap.size w16 w')
  case first =>
    have u16_0 := (fun O : Obj => (show (World.drew (w16.alloc O)).cell? ⟨w.heap.size, 0, none⟩ = some (.slice px2 s2.length c2') from (P2_16.out.keep (bAlloc (Below.refl _ _) O)).c0))
    have u16_1 := (fun O : Obj => (show (World.drew (w16.alloc O)).cell? ⟨w.heap.size, 1, none⟩ = some (.slice py2 d2.length e2') from (P2_16.out.keep (bAlloc (Below.refl _ _) O)).c1))
    have u16_2 := (fun O : Obj => (show (World.drew (w16.alloc O)).cell? ⟨(w.heap.size + 1), 0, none⟩ = some (.slice px3 s3.length c3') from (P3_16.out.keep (bAlloc (Below.refl _ _) O)).c0))
    have u16_3 := (fun O : Obj => (show (World.drew (w16.alloc O)).cell? ⟨(w.heap.size + 1), 1, none⟩ = some (.slice py3 d3.length e3') from (P3_16.out.keep (bAlloc (Below.refl _ _) O)).c1))
    have LQ16_0 : Hid (w.heap.size < w16.heap.size) := P2_16.out.lt
    have LQ16_1 : Hid ((w.heap.size + 1) < w16.heap.size) := P3_16.out.lt
    go_region_held3 (fun w' => w'.cell? ⟨w.heap.size, 0, none⟩ = some (.slice px2 s2.length c2') ∧ w'.cell? ⟨w.heap.size, 1, none⟩ = some (.slice py2 d2.length e2') ∧ w'.cell? ⟨(w.heap.size + 1), 0, none⟩ = some (.slice px3 s3.length c3') ∧ w'.cell? ⟨(w.heap.size + 1), 1, none⟩ = some (.slice py3 d3.length e3'))
      (first | (refine ⟨?_, ?_, ?_, ?_⟩ <;> (first | with_reducible assumption | simp only [*])) | exact ⟨P2c0, P2c1, P3c0, P3c1⟩)
      (first
        | (go_at_call_of 16 (Value.agg #[.slice px2 s2.length c2', .slice py2 d2.length e2']); refine (to_arr (H2.out.keep (bTrans HT16.out (by repeat first | exact HR19.out | exact HR18.out | exact HR17.out | exact (Below.refl _ _).drew | exact Below.refl _ _ | refine bAlloc ?_ _ | refine Below.drew ?_))) Ls2.out Ld2.out).mono ?_; rintro r w17 ⟨vY2, rfl, ha, hb⟩; have Y2_17 : Hid (ArrI w17 vY2 s2 d2) := ha.arrI; have HR17 : Hid (Below w16.heap.size w16 w17) := bTrans (by repeat first | exact HR19.out | exact HR18.out | exact HR17.out | exact (Below.refl _ _).drew | exact Below.refl _ _ | refine bAlloc ?_ _ | refine Below.drew ?_) hb; have y17_0 := (P2_16.out.keep HR17.out).c0; have u17_0 := (fun O : Obj => (P2_16.out.keep (bAlloc HR17.out O)).c0); have y17_1 := (P2_16.out.keep HR17.out).c1; have u17_1 := (fun O : Obj => (P2_16.out.keep (bAlloc HR17.out O)).c1); have y17_2 := (P3_16.out.keep HR17.out).c0; have u17_2 := (fun O : Obj => (P3_16.out.keep (bAlloc HR17.out O)).c0); have y17_3 := (P3_16.out.keep HR17.out).c1; have u17_3 := (fun O : Obj => (P3_16.out.keep (bAlloc HR17.out O)).c1); (try have bq16_17 : Hid (Box w17 w16.heap.size (.slice none 0 0) (.slice none 0 0) 26) := Box.keep (w := World.drew (World.alloc w16 (.cells #[.slice none 0 0, .slice none 0 0] 26))) (box_new w16 _ _ _) hb); clear ha hb)
        | (go_at_call_of 16 (Value.agg #[.slice px3 s3.length c3', .slice py3 d3.length e3']); refine (to_arr (H3.out.keep (bTrans HT16.out (by repeat first | exact HR19.out | exact HR18.out | exact HR17.out | exact (Below.refl _ _).drew | exact Below.refl _ _ | refine bAlloc ?_ _ | refine Below.drew ?_))) Ls3.out Ld3.out).mono ?_; rintro r w18 ⟨vY3, rfl, ha, hb⟩; have Y3_18 : Hid (ArrI w18 vY3 s3 d3) := ha.arrI; have Y2_18 : Hid (ArrI w18 vY2 s2 d2) := (Y2_17.out.keep (by repeat first | exact Below.refl _ _ | refine bAlloc ?_ _)).keep hb; have HR18 : Hid (Below w16.heap.size w16 w18) := bTrans (by repeat first | exact HR19.out | exact HR18.out | exact HR17.out | exact (Below.refl _ _).drew | exact Below.refl _ _ | refine bAlloc ?_ _ | refine Below.drew ?_) hb; have y18_0 := (P2_16.out.keep HR18.out).c0; have u18_0 := (fun O : Obj => (P2_16.out.keep (bAlloc HR18.out O)).c0); have y18_1 := (P2_16.out.keep HR18.out).c1; have u18_1 := (fun O : Obj => (P2_16.out.keep (bAlloc HR18.out O)).c1); have y18_2 := (P3_16.out.keep HR18.out).c0; have u18_2 := (fun O : Obj => (P3_16.out.keep (bAlloc HR18.out O)).c0); have y18_3 := (P3_16.out.keep HR18.out).c1; have u18_3 := (fun O : Obj => (P3_16.out.keep (bAlloc HR18.out O)).c1); (try have bq16_18 : Hid (Box w18 w16.heap.size (.slice none 0 0) (.slice none 0 0) 26) := bq16_17.out.keep hb); (try have bq17_18 : Hid (Box w18 w17.heap.size (.slice none 0 0) (.slice none 0 0) 26) := (box_new w17 _ _ _).keep hb); clear ha hb)
        | (go_at_call 12; refine (IM.out _ _ (Y2_18.out.keep (by repeat first | exact Below.refl _ _ | refine bAlloc ?_ _)) _ (Y3_18.out.keep (by repeat first | exact Below.refl _ _ | refine bAlloc ?_ _))).mono ?_; rintro r w19 ⟨vJ, rfl, ha, hb⟩; obtain ⟨aJ, cJ, bJ, eJ, rfl, _, _, _, _⟩ := ha.arrI; have SB : Hid (_ ≤ w19.heap.size) := hb.size; have HR19 : Hid (Below w16.heap.size w16 w19) := bTrans (by repeat first | exact HR19.out | exact HR18.out | exact HR17.out | exact (Below.refl _ _).drew | exact Below.refl _ _ | refine bAlloc ?_ _ | refine Below.drew ?_) hb; have y19_0 := (P2_16.out.keep HR19.out).c0; have u19_0 := (fun O : Obj => (P2_16.out.keep (bAlloc HR19.out O)).c0); have y19_1 := (P2_16.out.keep HR19.out).c1; have u19_1 := (fun O : Obj => (P2_16.out.keep (bAlloc HR19.out O)).c1); have y19_2 := (P3_16.out.keep HR19.out).c0; have u19_2 := (fun O : Obj => (P3_16.out.keep (bAlloc HR19.out O)).c0); have y19_3 := (P3_16.out.keep HR19.out).c1; have u19_3 := (fun O : Obj => (P3_16.out.keep (bAlloc HR19.out O)).c1); (try have bq16_19 : Hid (Box w19 w16.heap.size (.slice none 0 0) (.slice none 0 0) 26) := bq16_18.out.keep hb); (try have bq17_19 : Hid (Box w19 w17.heap.size (.slice none 0 0) (.slice none 0 0) 26) := bq17_18.out.keep hb); (try have bq18_19 : Hid (Box w19 w18.heap.size (.slice none 0 0) (.slice none 0 0) 26) := (box_new w18 _ _ _).keep hb); have LQ17_0 : Hid (w.heap.size < w17.heap.size) := Nat.lt_of_lt_of_le LQ16_0.out HR17.out.size; have LQ17_1 : Hid ((w.heap.size + 1) < w17.heap.size) := Nat.lt_of_lt_of_le LQ16_1.out HR17.out.size; have LQ18_0 : Hid (w.heap.size < w18.heap.size) := Nat.lt_of_lt_of_le LQ16_0.out HR18.out.size; have LQ18_1 : Hid ((w.heap.size + 1) < w18.heap.size) := Nat.lt_of_lt_of_le LQ16_1.out HR18.out.size; (try have q0 := bq16_19.out.c0); (try have q1 := bq16_19.out.c1); (try have f0 : w19.frozen? ⟨w16.heap.size, 0, none⟩ = false := free_at bq16_19.out 0); (try have f1 : w19.frozen? ⟨w16.heap.size, 1, none⟩ = false := free_at bq16_19.out 1); (try have t16_0 := (fun (_ : Hid (Box w19 w16.heap.size (.slice none 0 0) (.slice none 0 0) 26)) (x y : Value) => (((P2_16.out.keep HR19.out).win (win_setCell _ w16.heap.size 0 x) (.inl LQ16_0.out)).win (win_setCell _ w16.heap.size 1 y) (.inl LQ16_0.out)).c0) bq16_19); (try have t16_1 := (fun (_ : Hid (Box w19 w16.heap.size (.slice none 0 0) (.slice none 0 0) 26)) (x y : Value) => (((P2_16.out.keep HR19.out).win (win_setCell _ w16.heap.size 0 x) (.inl LQ16_0.out)).win (win_setCell _ w16.heap.size 1 y) (.inl LQ16_0.out)).c1) bq16_19); (try have t16_2 := (fun (_ : Hid (Box w19 w16.heap.size (.slice none 0 0) (.slice none 0 0) 26)) (x y : Value) => (((P3_16.out.keep HR19.out).win (win_setCell _ w16.heap.size 0 x) (.inl LQ16_1.out)).win (win_setCell _ w16.heap.size 1 y) (.inl LQ16_1.out)).c0) bq16_19); (try have t16_3 := (fun (_ : Hid (Box w19 w16.heap.size (.slice none 0 0) (.slice none 0 0) 26)) (x y : Value) => (((P3_16.out.keep HR19.out).win (win_setCell _ w16.heap.size 0 x) (.inl LQ16_1.out)).win (win_setCell _ w16.heap.size 1 y) (.inl LQ16_1.out)).c1) bq16_19); (try have q0 := bq17_19.out.c0); (try have q1 := bq17_19.out.c1); (try have f0 : w19.frozen? ⟨w17.heap.size, 0, none⟩ = false := free_at bq17_19.out 0); (try have f1 : w19.frozen? ⟨w17.heap.size, 1, none⟩ = false := free_at bq17_19.out 1); (try have t17_0 := (fun (_ : Hid (Box w19 w17.heap.size (.slice none 0 0) (.slice none 0 0) 26)) (x y : Value) => (((P2_16.out.keep HR19.out).win (win_setCell _ w17.heap.size 0 x) (.inl LQ17_0.out)).win (win_setCell _ w17.heap.size 1 y) (.inl LQ17_0.out)).c0) bq17_19); (try have t17_1 := (fun (_ : Hid (Box w19 w17.heap.size (.slice none 0 0) (.slice none 0 0) 26)) (x y : Value) => (((P2_16.out.keep HR19.out).win (win_setCell _ w17.heap.size 0 x) (.inl LQ17_0.out)).win (win_setCell _ w17.heap.size 1 y) (.inl LQ17_0.out)).c1) bq17_19); (try have t17_2 := (fun (_ : Hid (Box w19 w17.heap.size (.slice none 0 0) (.slice none 0 0) 26)) (x y : Value) => (((P3_16.out.keep HR19.out).win (win_setCell _ w17.heap.size 0 x) (.inl LQ17_1.out)).win (win_setCell _ w17.heap.size 1 y) (.inl LQ17_1.out)).c0) bq17_19); (try have t17_3 := (fun (_ : Hid (Box w19 w17.heap.size (.slice none 0 0) (.slice none 0 0) 26)) (x y : Value) => (((P3_16.out.keep HR19.out).win (win_setCell _ w17.heap.size 0 x) (.inl LQ17_1.out)).win (win_setCell _ w17.heap.size 1 y) (.inl LQ17_1.out)).c1) bq17_19); (try have q0 := bq18_19.out.c0); (try have q1 := bq18_19.out.c1); (try have f0 : w19.frozen? ⟨w18.heap.size, 0, none⟩ = false := free_at bq18_19.out 0); (try have f1 : w19.frozen? ⟨w18.heap.size, 1, none⟩ = false := free_at bq18_19.out 1); (try have t18_0 := (fun (_ : Hid (Box w19 w18.heap.size (.slice none 0 0) (.slice none 0 0) 26)) (x y : Value) => (((P2_16.out.keep HR19.out).win (win_setCell _ w18.heap.size 0 x) (.inl LQ18_0.out)).win (win_setCell _ w18.heap.size 1 y) (.inl LQ18_0.out)).c0) bq18_19); (try have t18_1 := (fun (_ : Hid (Box w19 w18.heap.size (.slice none 0 0) (.slice none 0 0) 26)) (x y : Value) => (((P2_16.out.keep HR19.out).win (win_setCell _ w18.heap.size 0 x) (.inl LQ18_0.out)).win (win_setCell _ w18.heap.size 1 y) (.inl LQ18_0.out)).c1) bq18_19); (try have t18_2 := (fun (_ : Hid (Box w19 w18.heap.size (.slice none 0 0) (.slice none 0 0) 26)) (x y : Value) => (((P3_16.out.keep HR19.out).win (win_setCell _ w18.heap.size 0 x) (.inl LQ18_1.out)).win (win_setCell _ w18.heap.size 1 y) (.inl LQ18_1.out)).c0) bq18_19); (try have t18_3 := (fun (_ : Hid (Box w19 w18.heap.size (.slice none 0 0) (.slice none 0 0) 26)) (x y : Value) => (((P3_16.out.keep HR19.out).win (win_setCell _ w18.heap.size 0 x) (.inl LQ18_1.out)).win (win_setCell _ w18.heap.size 1 y) (.inl LQ18_1.out)).c1) bq18_19); have J_19 : Hid (Arr _ w19.heap.size w19 (.agg #[.slice aJ S.length cJ, .slice bJ D.length eJ]) S D) := ha; clear ha hb))
    all_goals
      go_wp2_with fail
      go_meet
      case rel =>
        have SZF : Hid (w16.heap.size ≤ w17.heap.size ∧ w16.heap.size ≤ w18.heap.size ∧ w16.heap.size ≤ w19.heap.size) := by refine ⟨HR17.out.size, HR18.out.size, HR19.out.size⟩
        first
          | exact ⟨w19.heap.size, _, _, _, _, rfl, rfl, box_new w19 _ _ _, (J_19.out.keep (bAlloc (Below.refl _ _) _)).mono (by first | (have := SZF.out; simp; omega) | (have := SZF.out; omega)) (by simp), bAlloc HR19.out _⟩
          | exact ⟨w16.heap.size, _, _, _, _, rfl, rfl, arr_stored bq16_19.out, ((J_19.out.setCell (by have := bq16_18.out.lt; omega) _ _).setCell (by have := bq16_18.out.lt; omega) _ _).mono (by have := SZF.out; first | omega | (simp; omega)) (by simp [size_setCell]), below_setCell (below_setCell HR19.out (by first | exact Nat.le_refl _ | (have := SZF.out; omega)) _ _) (by first | exact Nat.le_refl _ | (have := SZF.out; omega)) _ _⟩
          | exact ⟨w17.heap.size, _, _, _, _, rfl, rfl, arr_stored bq17_19.out, ((J_19.out.setCell (by have := bq17_18.out.lt; omega) _ _).setCell (by have := bq17_18.out.lt; omega) _ _).mono (by have := SZF.out; first | omega | (simp; omega)) (by simp [size_setCell]), below_setCell (below_setCell HR19.out (by first | exact Nat.le_refl _ | (have := SZF.out; omega)) _ _) (by first | exact Nat.le_refl _ | (have := SZF.out; omega)) _ _⟩
          | exact ⟨w18.heap.size, _, _, _, _, rfl, rfl, arr_stored bq18_19.out, ((J_19.out.setCell (by simp) _ _).setCell (by simp) _ _).mono (by have := SZF.out; first | omega | (simp; omega)) (by simp [size_setCell]), below_setCell (below_setCell HR19.out (by first | exact Nat.le_refl _ | (have := SZF.out; omega)) _ _) (by first | exact Nat.le_refl _ | (have := SZF.out; omega)) _ _⟩
  obtain ⟨w19, hwc⟩ : ∃ x, x = wc := ⟨_, rfl⟩
  subst hwc
  obtain ⟨gJ, aJ, cJ, bJ, eJ, rfl, rfl, hbx, har, hbl⟩ := hcut
  have HR19 : Hid (Below w16.heap.size w16 w19) := hbl
  have HT19 : Hid (Below w.heap.size w w19) := bTrans HT16.out HR19.out
  have SZ19 : Hid (w16.heap.size ≤ w19.heap.size) := HR19.out.size
  have P2_19 : Hid (Box w19 w.heap.size (.slice px2 s2.length c2') (.slice py2 d2.length e2') 37) := P2_16.out.keep HR19.out
  have P3_19 : Hid (Box w19 (w.heap.size + 1) (.slice px3 s3.length c3') (.slice py3 d3.length e3') 37) := P3_16.out.keep HR19.out
  have QW_19 : Hid (Box w19 gW (.slice aW S.length cW) (.slice bW D.length eW) 26) := QW_16.out.keep HR19.out
  have QX2_19 : Hid (Box w19 w6.heap.size (.slice aX2 s2.length cX2) (.slice bX2 d2.length eX2) 26) := QX2_16.out.keep HR19.out
  have QX3_19 : Hid (Box w19 w7.heap.size (.slice aX3 s3.length cX3) (.slice bX3 d3.length eX3) 26) := QX3_16.out.keep HR19.out
  have QG_19 : Hid (Box w19 w8.heap.size (.slice aG S.length cG) (.slice bG D.length eG) 26) := QG_16.out.keep HR19.out
  have W_19 : Hid (Arr w2.heap.size w5.heap.size w19 (.agg #[.slice aW S.length cW, .slice bW D.length eW]) S D) := W_16.out.keep HR19.out
  have G_19 : Hid (Arr (w7.heap.size + 1) w8.heap.size w19 (.agg #[.slice aG S.length cG, .slice bG D.length eG]) (upFrom ((1 : Int)) S.length) (upFrom ((1 : Int) + S.length) D.length)) := G_16.out.keep HR19.out
  have J_19 : Hid (Arr w16.heap.size w19.heap.size w19 (.agg #[.slice aJ S.length cJ, .slice bJ D.length eJ]) S D) := har
  have QJ_19 : Hid (Box w19 gJ (.slice aJ S.length cJ) (.slice bJ D.length eJ) 26) := hbx
  have LTQJ : Hid (gJ < w19.heap.size) := hbx.lt
  clear P2_16 P3_16 QW_16 QX2_16 QX3_16 QG_16 W_16 G_16 P2c0 P2c1 P3c0 P3c1 QWc0 QWc1 QX2c0 QX2c1 QX3c0 QX3c1 QGc0 QGc1 hbx har hbl
  have P2c0 := P2_19.out.c0
  have P2c1 := P2_19.out.c1
  have P3c0 := P3_19.out.c0
  have P3c1 := P3_19.out.c1
  have QWc0 := QW_19.out.c0
  have QWc1 := QW_19.out.c1
  have QX2c0 := QX2_19.out.c0
  have QX2c1 := QX2_19.out.c1
  have QX3c0 := QX3_19.out.c0
  have QX3c1 := QX3_19.out.c1
  have QGc0 := QG_19.out.c0
  have QGc1 := QG_19.out.c1
  have QJc0 := QJ_19.out.c0
  have QJc1 := QJ_19.out.c1
  go_wp2_with fail
  refine (eq_arrI (J_19.out.arrI) (W_19.out.arrI) LS.out LD.out).mono ?_
  rintro r w20 ⟨rfl, hb⟩
  have HB20 : Hid (Below w19.heap.size w19 w20) := hb
  have HT20 : Hid (Below w.heap.size w w20) := bTrans HT19.out HB20.out
  have SZ20 : Hid (w19.heap.size ≤ w20.heap.size) := HB20.out.size
  have P2_20 : Hid (Box w20 w.heap.size (.slice px2 s2.length c2') (.slice py2 d2.length e2') 37) := P2_19.out.keep HB20.out
  have P3_20 : Hid (Box w20 (w.heap.size + 1) (.slice px3 s3.length c3') (.slice py3 d3.length e3') 37) := P3_19.out.keep HB20.out
  have QW_20 : Hid (Box w20 gW (.slice aW S.length cW) (.slice bW D.length eW) 26) := QW_19.out.keep HB20.out
  have QX2_20 : Hid (Box w20 w6.heap.size (.slice aX2 s2.length cX2) (.slice bX2 d2.length eX2) 26) := QX2_19.out.keep HB20.out
  have QX3_20 : Hid (Box w20 w7.heap.size (.slice aX3 s3.length cX3) (.slice bX3 d3.length eX3) 26) := QX3_19.out.keep HB20.out
  have QG_20 : Hid (Box w20 w8.heap.size (.slice aG S.length cG) (.slice bG D.length eG) 26) := QG_19.out.keep HB20.out
  have QJ_20 : Hid (Box w20 gJ (.slice aJ S.length cJ) (.slice bJ D.length eJ) 26) := QJ_19.out.keep HB20.out
  have W_20 : Hid (Arr w2.heap.size w5.heap.size w20 (.agg #[.slice aW S.length cW, .slice bW D.length eW]) S D) := W_19.out.keep HB20.out
  have G_20 : Hid (Arr (w7.heap.size + 1) w8.heap.size w20 (.agg #[.slice aG S.length cG, .slice bG D.length eG]) (upFrom ((1 : Int)) S.length) (upFrom ((1 : Int) + S.length) D.length)) := G_19.out.keep HB20.out
  have J_20 : Hid (Arr w16.heap.size w19.heap.size w20 (.agg #[.slice aJ S.length cJ, .slice bJ D.length eJ]) S D) := J_19.out.keep HB20.out
  clear P2_19 P3_19 QW_19 QX2_19 QX3_19 QG_19 QJ_19 W_19 G_19 J_19 P2c0 P2c1 P3c0 P3c1 QWc0 QWc1 QX2c0 QX2c1 QX3c0 QX3c1 QGc0 QGc1 QJc0 QJc1 hb
  have P2c0 := P2_20.out.c0
  have P2c1 := P2_20.out.c1
  have P3c0 := P3_20.out.c0
  have P3c1 := P3_20.out.c1
  have QWc0 := QW_20.out.c0
  have QWc1 := QW_20.out.c1
  have QX2c0 := QX2_20.out.c0
  have QX2c1 := QX2_20.out.c1
  have QX3c0 := QX3_20.out.c0
  have QX3c1 := QX3_20.out.c1
  have QGc0 := QG_20.out.c0
  have QGc1 := QG_20.out.c1
  have QJc0 := QJ_20.out.c0
  have QJc1 := QJ_20.out.c1
  go_wp2_with fail
  refine (held_arr (1 : Int) G_20.out LS.out LD.out (by decide) (by decide)).mono ?_
  rintro r w21 ⟨rfl, hb⟩
  have HB21 : Hid (Below w20.heap.size w20 w21) := hb
  have HT21 : Hid (Below w.heap.size w w21) := bTrans HT20.out HB21.out
  have SZ21 : Hid (w20.heap.size ≤ w21.heap.size) := HB21.out.size
  have P2_21 : Hid (Box w21 w.heap.size (.slice px2 s2.length c2') (.slice py2 d2.length e2') 37) := P2_20.out.keep HB21.out
  have P3_21 : Hid (Box w21 (w.heap.size + 1) (.slice px3 s3.length c3') (.slice py3 d3.length e3') 37) := P3_20.out.keep HB21.out
  have QW_21 : Hid (Box w21 gW (.slice aW S.length cW) (.slice bW D.length eW) 26) := QW_20.out.keep HB21.out
  have QX2_21 : Hid (Box w21 w6.heap.size (.slice aX2 s2.length cX2) (.slice bX2 d2.length eX2) 26) := QX2_20.out.keep HB21.out
  have QX3_21 : Hid (Box w21 w7.heap.size (.slice aX3 s3.length cX3) (.slice bX3 d3.length eX3) 26) := QX3_20.out.keep HB21.out
  have QG_21 : Hid (Box w21 w8.heap.size (.slice aG S.length cG) (.slice bG D.length eG) 26) := QG_20.out.keep HB21.out
  have QJ_21 : Hid (Box w21 gJ (.slice aJ S.length cJ) (.slice bJ D.length eJ) 26) := QJ_20.out.keep HB21.out
  have G_21 : Hid (Arr (w7.heap.size + 1) w8.heap.size w21 (.agg #[.slice aG S.length cG, .slice bG D.length eG]) (upFrom ((1 : Int)) S.length) (upFrom ((1 : Int) + S.length) D.length)) := G_20.out.keep HB21.out
  clear P2_20 P3_20 QW_20 QX2_20 QX3_20 QG_20 QJ_20 G_20 P2c0 P2c1 P3c0 P3c1 QWc0 QWc1 QX2c0 QX2c1 QX3c0 QX3c1 QGc0 QGc1 QJc0 QJc1 hb
  have P2c0 := P2_21.out.c0
  have P2c1 := P2_21.out.c1
  have P3c0 := P3_21.out.c0
  have P3c1 := P3_21.out.c1
  have QWc0 := QW_21.out.c0
  have QWc1 := QW_21.out.c1
  have QX2c0 := QX2_21.out.c0
  have QX2c1 := QX2_21.out.c1
  have QX3c0 := QX3_21.out.c0
  have QX3c1 := QX3_21.out.c1
  have QGc0 := QG_21.out.c0
  have QGc1 := QG_21.out.c1
  have QJc0 := QJ_21.out.c0
  have QJc1 := QJ_21.out.c1
  go_wp2
  go_ret
  exact ⟨rfl, HT21.out⟩

set_option maxRecDepth 100000 in
theorem lifted (os : Os) (started : os.Started) (H : Type) (enc : TypeId × Value → H) :
    ReturnsInHanded {} Try.checked os 4 .any (Rows.fnExactInnerSpec.pre6 enc Try.prog Try.f4 Rows.fnExactInnerRow.domain false) (Rows.fnExactInnerSpec.post enc Try.prog Try.f4 false true false false) := by
  refine returnsInHanded_of_change (C := Try.checked) own started (by kernel_rfl) Try.func4
    (ChangeSpec.witness6 (enc := enc) (C := Try.checked) false ⟨#[], #[.int .i64 0, .int .i64 0, .agg #[.slice none 0 0, .slice none 0 0], .agg #[.slice none 0 0, .slice none 0 0]], []⟩ 8 (by kernel_rfl) (by kernel_rfl) (by kernel_rfl) (by kernel_rfl)) ?_
  intro W base args ds gs before hval0 hW hcnd _
  have hval : ∀ (j : Nat) t v, Try.f4.params[j]? = some t → args[j]? = some v → Value.okWide Try.prog W .any base t v := hval0
  have hW' := hW
  obtain ⟨p, q, hA0, hV, rfl, hfz, hnd⟩ := hW
  have hA : DataW.TrodAll enc Try.prog W 0 (fun _ => true) true Try.f4.params.toList args.toList ds p := hA0
  rw [Try.params4] at hA hval
  obtain ⟨v0, vs0, e0, es0, p0, q0, hargs, rfl, rfl, h0, r0⟩ := trodAll_cons hA
  obtain ⟨v1, vs1, e1, es1, p1, q1, rfl, rfl, rfl, h1, r1⟩ := trodAll_cons r0
  obtain ⟨v2, vs2, e2, es2, p2, q2, rfl, rfl, rfl, h2, r2⟩ := trodAll_cons r1
  obtain ⟨v3, vs3, e3, es3, p3, q3, rfl, rfl, rfl, h3, r3⟩ := trodAll_cons r2
  obtain ⟨rfl, rfl, rfl⟩ := trodAll_nil r3
  obtain rfl : args = #[v0, v1, v2, v3] := by cases args; simp_all
  obtain ⟨rfl, rfl⟩ := trodVars_none hV
  obtain ⟨a0, rfl, rfl, rfl, w0⟩ := open_int Try.underlying3 (hval 0 3 v0 rfl rfl) h0
  obtain ⟨a1, rfl, rfl, rfl, w1⟩ := open_int Try.underlying3 (hval 1 3 v1 rfl rfl) h1
  have k2 := h2
  have lt2 : ∀ x ∈ p2, x.block < W.heap.size := by obtain ⟨m, hm⟩ := k2; exact DataW.trod_lt m _ _ _ hm
  obtain ⟨x2, y2, f2, g2, m2, rfl, rfl, rfl, hf2, hg2⟩ := Joins.open_agg2 Try.underlying37 (by kernel_rfl) (by kernel_rfl) (hval 2 37 v2 rfl rfl) h2
  obtain ⟨s2, i2, b2⟩ := cell_ints hf2
  obtain ⟨d2, o2, c2⟩ := cell_ints hg2
  have w2 : ArrI W (.agg #[x2, y2]) s2 d2 := by obtain ⟨a, c, rfl, g, i⟩ := i2; obtain ⟨a2, c2, rfl, g2, i2⟩ := o2; exact ⟨a, c, a2, c2, rfl, i, i2, g, g2⟩
  have k3 := h3
  have lt3 : ∀ x ∈ p3, x.block < W.heap.size := by obtain ⟨m, hm⟩ := k3; exact DataW.trod_lt m _ _ _ hm
  obtain ⟨x3, y3, f3, g3, m3, rfl, rfl, rfl, hf3, hg3⟩ := Joins.open_agg2 Try.underlying37 (by kernel_rfl) (by kernel_rfl) (hval 3 37 v3 rfl rfl) h3
  obtain ⟨s3, i3, b3⟩ := cell_ints hf3
  obtain ⟨d3, o3, c3⟩ := cell_ints hg3
  have w3 : ArrI W (.agg #[x3, y3]) s3 d3 := by obtain ⟨a, c, rfl, g, i⟩ := i3; obtain ⟨a2, c2, rfl, g2, i2⟩ := o3; exact ⟨a, c, a2, c2, rfl, i, i2, g, g2⟩
  clear hA0 hval0
  refine (walk a0 a1 _ s2 d2 _ s3 d3 W w0 w1 w2 b2 c2 w3 b3 c3).mono fun e W' ⟨he, bel⟩ => ?_
  subst he
  exact ⟨_, rfl, _, _, _, [], _, [], hW', trodAll_mk1 (shut_bool Try.underlying4 _), (trodAll_cons_mk (shut_int Try.underlying3 w0) (trodAll_cons_mk (shut_int Try.underlying3 w1) (trodAll_cons_mk (Below.trod laidOut (by kernel_rfl) (of_decide_eq_true (by kernel_rfl)) k2 bel lt2) (trodAll_cons_mk (Below.trod laidOut (by kernel_rfl) (of_decide_eq_true (by kernel_rfl)) k3 bel lt3) trodAll_mk0)))), rfl, bel.frame _, fun h => by cases h⟩

theorem over : Rows.fnExactInnerRow.holds Try.pinned (OpenSpec.ofChange Rows.fnExactInnerSpec) :=
  OpenClaim.holds_of_wide 4 Try.f4 rfl rfl rfl rfl rfl rfl rfl ⟨rfl, rfl, rfl, rfl, rfl⟩ rfl rfl rfl rfl rfl (by kernel_rfl) Try.func4 (by kernel_rfl)
    (of_decide_eq_true (by kernel_rfl)) (by unfold Func.isWrapper; first | (rw [if_pos (by decide +kernel)]; kernel_rfl) | (rw [if_neg (by decide +kernel)]; exact ⟨rfl, rfl⟩))
    (fun os started H enc _ => lifted os started H enc)

/-- The statement. -/
theorem proved : Rows.FnExactInnerSaid := over
end Go.Proofs.Ytbmkfmppcojcgaa.fnExactInner
namespace Go.Proofs.Ytbmkfmppcojcgaa
theorem fnExactInner_holds : Rows.FnExactInnerSaid := fnExactInner.proved
#print axioms fnExactInner_holds
end Go.Proofs.Ytbmkfmppcojcgaa
