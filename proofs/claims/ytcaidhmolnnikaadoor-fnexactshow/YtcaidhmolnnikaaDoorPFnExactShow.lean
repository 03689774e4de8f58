/-
  Proved: whatever array it is given, the law FnExactShow returns true (the program's Show answers as the specification's, and writes into no argument), and what it is given reads as before. Condition: strconv's table of powers of ten and the two tables of math/bits hold what their own initialisers lay (the card ties them to the text of the pruned copy of the project that the seat bears: it says nothing of packages beside it).
-/
import Derived.Test.YtcaidhmolnnikaaDoorRows
import Derived.WalkKit
import Derived.ProofKit
import Derived.OpenShut
import Derived.ShutString
import Derived.ChangeOld
import Derived.Below
import Derived.Deep.Cut
import Derived.Test.YtcaidhmolnnikaaDoorTie
import Derived.Test.YtcaidhmolnnikaaDoorCards
import Derived.LaidLaws
import Derived.LaidHandle
import Derived.Lib.LaidTab
import Derived.Lib.LaidIn
import Derived.SevenTiedAt
import Derived.Test.YtcaidhmolnnikaaDoorFrame
import Derived.Test.YtcaidhmolnnikaaDoorShowS
import Derived.Test.YtcaidhmolnnikaaDoorShowP
import Derived.Test.YtcaidhmolnnikaaDoorLaw3
namespace Go.Proofs.YtcaidhmolnnikaaDoor.fnExactShow
open Go.ChangeShapes Go.WideShapes Go.ChangeAt Go.RowKit
open Go.ChangeMaps (open_string shut_string)
set_option linter.unusedVariables false
set_option linter.unusedSimpArgs false

theorem own : ownKnob Tryd.prog.godebug = none := by kernel_rfl
theorem laidOut : laidOutB Tryd.prog = true := by kernel_rfl

set_option maxRecDepth 20000 in
set_option maxHeartbeats 8000000 in
/-- The walk: the law returns true, and writes nothing that was there. -/
theorem walk (v0 : Value) (s0 d0 : List Int) (w : World) (ht : TabW w) (w0 : ArrI w v0 s0 d0) (b0 : s0.length ≤ 9223372036854775807) (c0 : d0.length ≤ 9223372036854775807) :
    Calls Tryd.prog 3 #[v0] w fun e w' => e = .returned (.bool true) ∧ Below w.heap.size w w' := by
  have H0 : Hid (ArrI w v0 s0 d0) := w0
  obtain ⟨px0, c0', py0, e0', rfl, i1, i2, g1, g2⟩ := w0
  clear i1 i2 g1 g2
  by_cases big0 : (1048576 : Int) < (((s0.length + d0.length) : Nat) : Int)
  · have ZB : Hid (∀ W, Calls Tryd.prog 8 #[(.agg #[.slice px0 s0.length c0', .slice py0 d0.length e0']), .int .i64 1048576] W fun e w' => e = .returned (.int .i64 (-1)) ∧ Below W.heap.size W w') := fun W => szV_big (n := (s0.length + d0.length)) (left := 1048576) big0 ▸ sz_arr _ _ _ _ _ _ 1048576 W (by omega) (by omega) b0 c0
    clear big0
    go_enter Tryd.func3, Tryd.ntmps3
    go_wp2_with fail
    refine (ZB.out _).mono ?_
    rintro r w1 ⟨rfl, hb⟩
    have HB1 : Hid (Below w.heap.size w w1) := bTrans (bAlloc (Below.refl _ _) _) hb
    have HT1 : Hid (Below w.heap.size w w1) := HB1.out
    have SZ1 : Hid (w.heap.size ≤ w1.heap.size) := HB1.out.size
    have P0_1 : Hid (Box w1 w.heap.size (.slice px0 s0.length c0') (.slice py0 d0.length e0') 24) := (box_new w _ _ _).keep hb
    have LTP0 : Hid (w.heap.size < w1.heap.size) := P0_1.out.lt
    clear hb
    go_wp2
    go_ret
    exact ⟨rfl, HT1.out⟩
  obtain ⟨N0, hN0⟩ : ∃ N : Int, N = 1048576 - (((s0.length + d0.length) : Nat) : Int) := ⟨_, rfl⟩
  have Z0 : Hid (∀ W, Calls Tryd.prog 8 #[(.agg #[.slice px0 s0.length c0', .slice py0 d0.length e0']), .int .i64 1048576] W fun e w' => e = .returned (.int .i64 N0) ∧ Below W.heap.size W w') := fun W => hN0 ▸ szV_small (n := (s0.length + d0.length)) (left := 1048576) (by omega) ▸ sz_arr _ _ _ _ _ _ 1048576 W (by omega) (by omega) b0 c0
  have n0 : 0 ≤ N0 := by omega
  have m0 : N0 ≤ 1048576 := by omega
  have Ls0 : Hid (s0.length ≤ 1048576) := by show _ ≤ _; omega
  have Ld0 : Hid (d0.length ≤ 1048576) := by show _ ≤ _; omega
  clear big0 hN0 b0 c0
  obtain ⟨V, hV⟩ : ∃ x, x = showV s0 d0 := ⟨_, rfl⟩
  have SP : Hid (∀ (W : World) (u0 : Value) (_ : ArrI W u0 s0 d0), Calls Tryd.prog 9 #[u0] W fun e w' => e = .returned (.string V) ∧ Below W.heap.size W w') := by
    intro W u0 h0
    rw [hV]
    exact show_spec h0 Ls0.out Ld0.out
  have IM : Hid (∀ (W : World) (_ : Below w.heap.size w W) (u0 : Value) (_ : ArrI W u0 s0 d0), Calls Tryd.prog 11 #[u0] W fun e w' => e = .returned (.string V) ∧ Below W.heap.size W w') := by
    intro W hbl u0 h0
    rw [hV]
    exact show_impl h0 Ld0.out (ht.on hbl)
  clear hV
  go_enter Tryd.func3, Tryd.ntmps3
  go_wp2_with fail
  refine (Z0.out _).mono ?_
  rintro r w1 ⟨rfl, hb⟩
  have HB1 : Hid (Below w.heap.size w w1) := bTrans (bAlloc (Below.refl _ _) _) hb
  have HT1 : Hid (Below w.heap.size w w1) := HB1.out
  have SZ1 : Hid (w.heap.size ≤ w1.heap.size) := HB1.out.size
  have P0_1 : Hid (Box w1 w.heap.size (.slice px0 s0.length c0') (.slice py0 d0.length e0') 24) := (box_new w _ _ _).keep hb
  have LTP0 : Hid (w.heap.size < w1.heap.size) := P0_1.out.lt
  clear hb
  have P0c0 := P0_1.out.c0
  have P0c1 := P0_1.out.c1
  go_wp2_with fail
  refine (to_arr (H0.out.keep HT1.out) Ls0.out Ld0.out).mono ?_
  rintro r w2 ⟨vT0, rfl, ha, hb⟩
  obtain ⟨aT0, cT0, bT0, eT0, rfl, _, _, _, _⟩ := ha.arrI
  have T0_2 : Hid (Arr w1.heap.size w2.heap.size w2 (.agg #[.slice aT0 s0.length cT0, .slice bT0 d0.length eT0]) s0 d0) := ha.mono (by first | exact Nat.le_refl _ | simp | (simp; omega)) (Nat.le_refl _)
  clear ha
  have HB2 : Hid (Below w1.heap.size w1 w2) := hb
  have HT2 : Hid (Below w.heap.size w w2) := bTrans HT1.out HB2.out
  have SZ2 : Hid (w1.heap.size ≤ w2.heap.size) := HB2.out.size
  have P0_2 : Hid (Box w2 w.heap.size (.slice px0 s0.length c0') (.slice py0 d0.length e0') 24) := P0_1.out.keep HB2.out
  clear P0_1 P0c0 P0c1 hb
  have P0c0 := P0_2.out.c0
  have P0c1 := P0_2.out.c1
  go_wp2_with fail
  refine (SP.out _ _ (T0_2.out.arrI)).mono ?_
  rintro r w3 ⟨rfl, hb⟩
  have HB3 : Hid (Below w2.heap.size w2 w3) := hb
  have HT3 : Hid (Below w.heap.size w w3) := bTrans HT2.out HB3.out
  have SZ3 : Hid (w2.heap.size ≤ w3.heap.size) := HB3.out.size
  have P0_3 : Hid (Box w3 w.heap.size (.slice px0 s0.length c0') (.slice py0 d0.length e0') 24) := P0_2.out.keep HB3.out
  have T0_3 : Hid (Arr w1.heap.size w2.heap.size w3 (.agg #[.slice aT0 s0.length cT0, .slice bT0 d0.length eT0]) s0 d0) := T0_2.out.keep HB3.out
  clear P0_2 T0_2 P0c0 P0c1 hb
  have P0c0 := P0_3.out.c0
  have P0c1 := P0_3.out.c1
  go_wp2_with fail
  refine (to_arr (H0.out.keep HT3.out) Ls0.out Ld0.out).mono ?_
  rintro r w4 ⟨vX0, rfl, ha, hb⟩
  obtain ⟨aX0, cX0, bX0, eX0, rfl, _, _, _, _⟩ := ha.arrI
  have X0_4 : Hid (Arr w3.heap.size w4.heap.size w4 (.agg #[.slice aX0 s0.length cX0, .slice bX0 d0.length eX0]) s0 d0) := ha.mono (by first | exact Nat.le_refl _ | simp | (simp; omega)) (Nat.le_refl _)
  clear ha
  have HB4 : Hid (Below w3.heap.size w3 w4) := hb
  have HT4 : Hid (Below w.heap.size w w4) := bTrans HT3.out HB4.out
  have SZ4 : Hid (w3.heap.size ≤ w4.heap.size) := HB4.out.size
  have P0_4 : Hid (Box w4 w.heap.size (.slice px0 s0.length c0') (.slice py0 d0.length e0') 24) := P0_3.out.keep HB4.out
  clear P0_3 P0c0 P0c1 hb
  have P0c0 := P0_4.out.c0
  have P0c1 := P0_4.out.c1
  have P0d0 : ∀ o : Obj, (w4.alloc o).cell? ⟨w.heap.size, 0, none⟩ = some (.slice px0 s0.length c0') := fun o => (P0_4.out.keep (bAlloc (Below.refl _ _) o)).c0
  have P0d1 : ∀ o : Obj, (w4.alloc o).cell? ⟨w.heap.size, 1, none⟩ = some (.slice py0 d0.length e0') := fun o => (P0_4.out.keep (bAlloc (Below.refl _ _) o)).c1
  go_wp2_with fail
  refine (IM.out _ (by first | exact HT4.out | exact HT4.out.alloc HT4.out.size _) _ ((X0_4.out.arrI).keep (bAlloc (Below.refl _ _) _))).mono ?_
  rintro r w5 ⟨rfl, hb⟩
  have HB5 : Hid (Below w4.heap.size w4 w5) := bTrans (bAlloc (Below.refl _ _) _) hb
  have HT5 : Hid (Below w.heap.size w w5) := bTrans HT4.out HB5.out
  have SZ5 : Hid (w4.heap.size ≤ w5.heap.size) := HB5.out.size
  have P0_5 : Hid (Box w5 w.heap.size (.slice px0 s0.length c0') (.slice py0 d0.length e0') 24) := P0_4.out.keep HB5.out
  have X0_5 : Hid (Arr w3.heap.size w4.heap.size w5 (.agg #[.slice aX0 s0.length cX0, .slice bX0 d0.length eX0]) s0 d0) := X0_4.out.keep HB5.out
  have QX0_5 : Hid (Box w5 w4.heap.size (.slice aX0 s0.length cX0) (.slice bX0 d0.length eX0) 27) := (box_new w4 _ _ _).keep hb
  have LTQX0 : Hid (w4.heap.size < w5.heap.size) := QX0_5.out.lt
  clear P0_4 X0_4 P0c0 P0c1 P0d0 P0d1 hb
  have P0c0 := P0_5.out.c0
  have P0c1 := P0_5.out.c1
  have QX0c0 := QX0_5.out.c0
  have QX0c1 := QX0_5.out.c1
  have hneV : (V != V) = false := bytes_bne V
  go_wp2_with fail
  go_region_held3 (fun w' => w'.cell? ⟨w.heap.size, 0, none⟩ = some (.slice px0 s0.length c0') ∧ w'.cell? ⟨w.heap.size, 1, none⟩ = some (.slice py0 d0.length e0') ∧ w'.cell? ⟨w4.heap.size, 0, none⟩ = some (.slice aX0 s0.length cX0) ∧ w'.cell? ⟨w4.heap.size, 1, none⟩ = some (.slice bX0 d0.length eX0))
    (first | exact ⟨z0, z1, z2, z3⟩ | exact ⟨y0, y1, y2, y3⟩ | exact ⟨P0c0, P0c1, QX0c0, QX0c1⟩)
    (first
      | (go_at_call 10; refine (to_arr (H0.out.keep (HT5.out.drew)) Ls0.out Ld0.out).mono ?_; rintro r wa6 ⟨va, rfl, ha, hb⟩; have AA6 : Hid (ArrI wa6 va s0 d0) := ha.arrI; have HA6 : Hid (Below w5.heap.size w5 wa6) := bTrans ((Below.refl w5.heap.size w5).drew) hb; have y0 := (P0_5.out.keep HA6.out).c0; have y1 := (P0_5.out.keep HA6.out).c1; have y2 := (QX0_5.out.keep HA6.out).c0; have y3 := (QX0_5.out.keep HA6.out).c1; clear ha hb)
      | (go_at_call 12; refine (eq_arrI (X0_5.out.arrI.keep HA6.out) AA6.out Ls0.out Ld0.out).mono ?_; rintro r w6 ⟨rfl, hb⟩; have HB6 : Hid (Below w5.heap.size w5 w6) := bTrans HA6.out hb; have z0 := (P0_5.out.keep HB6.out).c0; have z1 := (P0_5.out.keep HB6.out).c1; have z2 := (QX0_5.out.keep HB6.out).c0; have z3 := (QX0_5.out.keep HB6.out).c1; clear hb))
  have HT6 : Hid (Below w.heap.size w w6) := bTrans HT5.out HB6.out
  have SZ6 : Hid (w5.heap.size ≤ w6.heap.size) := HB6.out.size
  have P0_6 : Hid (Box w6 w.heap.size (.slice px0 s0.length c0') (.slice py0 d0.length e0') 24) := P0_5.out.keep HB6.out
  have QX0_6 : Hid (Box w6 w4.heap.size (.slice aX0 s0.length cX0) (.slice bX0 d0.length eX0) 27) := QX0_5.out.keep HB6.out
  have X0_6 : Hid (Arr w3.heap.size w4.heap.size w6 (.agg #[.slice aX0 s0.length cX0, .slice bX0 d0.length eX0]) s0 d0) := X0_5.out.keep HB6.out
  clear P0_5 QX0_5 X0_5 P0c0 P0c1 QX0c0 QX0c1 y0 y1 y2 y3 z0 z1 z2 z3 AA6 HA6
  have P0c0 := P0_6.out.c0
  have P0c1 := P0_6.out.c1
  have QX0c0 := QX0_6.out.c0
  have QX0c1 := QX0_6.out.c1
  go_wp2
  go_ret
  exact ⟨rfl, HT6.out⟩

set_option maxRecDepth 100000 in
/-- From the row's condition to the table that the walk wants: one variable less. -/
theorem laidMet_tail {x : String × DataW Unit} {r : List (String × DataW Unit)} {W : World} (h : laidMet Tryd.prog (x :: r) W) : laidMet Tryd.prog r W := by
  obtain ⟨n, d⟩ := x
  obtain ⟨ps, ⟨g, t, cs, fuel, p, q, _, _, _, _, h5, rfl⟩, hn, hr⟩ := h
  exact ⟨q, h5, (List.nodup_append.1 hn).2.1, fun b off hb => hr b off (List.mem_append_right _ hb)⟩
theorem tab_laid {W : World} (h : laidMetH Tryd.prog Rows.fnExactShowRow.laid W) : TabW W := by
  have h1 : laidMet Tryd.prog Rows.fnExactShowRow.laid W := h
  have h2 : laidMet Tryd.prog [("internal/strconv.uint64pow10", Lib.tabData .u64 Lib.pow10Tab)] W := laidMet_tail (laidMet_tail h1)
  exact Lib.tabBelow_of_tabIs (Lib.tabIs_of_head (g := 2) (t := 187) (e := 169) (n := 20) (by kernel_rfl) (by kernel_rfl) (by kernel_rfl) (by kernel_rfl) (by kernel_rfl) (by kernel_rfl) h2)
/-- A world that meets the condition: the settled one, the tables laid. -/
noncomputable def laidWorld (os : Os) : World :=
  let w0 := World.holding Tryd.prog os ⟨#[], #[], []⟩
  { w0 with heap := (((w0.heap.modify 5 fun | .cells _ t frozen => .cells #[.int .u8 0, .int .u8 1, .int .u8 28, .int .u8 2, .int .u8 29, .int .u8 14, .int .u8 24, .int .u8 3, .int .u8 30, .int .u8 22, .int .u8 20, .int .u8 15, .int .u8 25, .int .u8 17, .int .u8 4, .int .u8 8, .int .u8 31, .int .u8 27, .int .u8 13, .int .u8 23, .int .u8 21, .int .u8 19, .int .u8 16, .int .u8 7, .int .u8 26, .int .u8 12, .int .u8 18, .int .u8 6, .int .u8 11, .int .u8 5, .int .u8 10, .int .u8 9] t frozen | o => o).modify 6 fun | .cells _ t frozen => .cells #[.int .u8 0, .int .u8 1, .int .u8 56, .int .u8 2, .int .u8 57, .int .u8 49, .int .u8 28, .int .u8 3, .int .u8 61, .int .u8 58, .int .u8 42, .int .u8 50, .int .u8 38, .int .u8 29, .int .u8 17, .int .u8 4, .int .u8 62, .int .u8 47, .int .u8 59, .int .u8 36, .int .u8 45, .int .u8 43, .int .u8 51, .int .u8 22, .int .u8 53, .int .u8 39, .int .u8 33, .int .u8 30, .int .u8 24, .int .u8 18, .int .u8 12, .int .u8 5, .int .u8 63, .int .u8 55, .int .u8 48, .int .u8 27, .int .u8 60, .int .u8 41, .int .u8 37, .int .u8 16, .int .u8 46, .int .u8 35, .int .u8 44, .int .u8 21, .int .u8 52, .int .u8 32, .int .u8 23, .int .u8 11, .int .u8 54, .int .u8 26, .int .u8 40, .int .u8 15, .int .u8 34, .int .u8 20, .int .u8 31, .int .u8 10, .int .u8 25, .int .u8 14, .int .u8 19, .int .u8 9, .int .u8 13, .int .u8 8, .int .u8 7, .int .u8 6] t frozen | o => o).modify 2 fun | .cells _ t frozen => .cells #[.int .u64 1, .int .u64 10, .int .u64 100, .int .u64 1000, .int .u64 10000, .int .u64 100000, .int .u64 1000000, .int .u64 10000000, .int .u64 100000000, .int .u64 1000000000, .int .u64 10000000000, .int .u64 100000000000, .int .u64 1000000000000, .int .u64 10000000000000, .int .u64 100000000000000, .int .u64 1000000000000000, .int .u64 10000000000000000, .int .u64 100000000000000000, .int .u64 1000000000000000000, .int .u64 10000000000000000000] t frozen | o => o) }
theorem laid_met (os : Os) (args : Array Value) : laidMetH Tryd.prog Rows.fnExactShowRow.laid ((laidWorld os).forCall (fun _ _ => 0) ⟨#[], args, []⟩).memory :=
  (show laidMet Tryd.prog Rows.fnExactShowRow.laid _ from (LaidIn.of_run [5, 6, 2] 8 (by kernel_rfl) (by kernel_rfl) (by kernel_rfl) (by kernel_rfl)).met)
set_option maxRecDepth 100000 in
theorem lifted (os : Os) (started : os.Started) (H : Type) (enc : TypeId × Value → H) :
    ReturnsInHanded {} Tryd.checked os 3 .any (fun w args => (Rows.fnExactShowSpec.pre enc Tryd.prog Tryd.f3 Rows.fnExactShowRow.domain false w args ∧ laidMetH Tryd.prog Rows.fnExactShowRow.laid w) ∧ sizedMet enc Tryd.prog Tryd.f3 (OpenSpec.ofChange Rows.fnExactShowSpec) false w args) (Rows.fnExactShowSpec.post enc Tryd.prog Tryd.f3 false true false false) := by
  refine returnsInHanded_of_change_and (C := Tryd.checked) (X := fun w _ => laidMetH Tryd.prog Rows.fnExactShowRow.laid w) (fun _ _ _ hh h => h.of_heap hh) own started (by kernel_rfl) Tryd.func3
    (ChangeSpec.witness_at (enc := enc) (C := Tryd.checked) (os := os) (X := fun w _ => laidMetH Tryd.prog Rows.fnExactShowRow.laid w) false (laidWorld os) #[.agg #[.slice none 0 0, .slice none 0 0]] 8 rfl (by kernel_rfl) (by kernel_rfl) (by kernel_rfl) (by kernel_rfl) (by kernel_rfl) (laid_met os _)) ?_
  intro W base args ds gs before hval0 hW hcnd _ hL _
  have htb := tab_laid hL
  have hval : ∀ (j : Nat) t v, Tryd.f3.params[j]? = some t → args[j]? = some v → Value.okWide Tryd.prog W .any base t v := hval0
  have hW' := hW
  obtain ⟨p, q, hA0, hV, rfl, hfz, hnd⟩ := hW
  have hA : DataW.TrodAll enc Tryd.prog W 0 (fun _ => true) true Tryd.f3.params.toList args.toList ds p := hA0
  rw [Tryd.params3] at hA hval
  obtain ⟨v0, vs0, e0, es0, p0, q0, hargs, rfl, rfl, h0, r0⟩ := trodAll_cons hA
  obtain ⟨rfl, rfl, rfl⟩ := trodAll_nil r0
  obtain rfl : args = #[v0] := by cases args; simp_all
  obtain ⟨rfl, rfl⟩ := trodVars_none hV
  have k0 := h0
  have lt0 : ∀ x ∈ p0, x.block < W.heap.size := by obtain ⟨m, hm⟩ := k0; exact DataW.trod_lt m _ _ _ hm
  obtain ⟨x0, y0, f0, g0, m0, rfl, rfl, rfl, hf0, hg0⟩ := Joins.open_agg2 Tryd.underlying24 (by kernel_rfl) (by kernel_rfl) (hval 0 24 v0 rfl rfl) h0
  obtain ⟨s0, i0, b0⟩ := cell_ints hf0
  obtain ⟨d0, o0, c0⟩ := cell_ints hg0
  have w0 : ArrI W (.agg #[x0, y0]) s0 d0 := by obtain ⟨a, c, rfl, g, i⟩ := i0; obtain ⟨a2, c2, rfl, g2, i2⟩ := o0; exact ⟨a, c, a2, c2, rfl, i, i2, g, g2⟩
  clear hA0 hval0
  refine (walk _ s0 d0 W htb w0 b0 c0).mono fun e W' ⟨he, bel⟩ => ?_
  subst he
  exact ⟨_, rfl, _, _, _, [], _, [], hW', trodAll_mk1 (shut_bool Tryd.underlying4 _), (trodAll_cons_mk (Below.trod laidOut (by kernel_rfl) (of_decide_eq_true (by kernel_rfl)) k0 bel lt0) trodAll_mk0), rfl, bel.frame _, fun h => by cases h⟩

theorem over : Rows.fnExactShowRow.holds Tryd.pinned (OpenSpec.ofChange Rows.fnExactShowSpec) :=
  OpenClaim.holds_of_wide 3 Tryd.f3 rfl rfl rfl rfl rfl rfl rfl ⟨rfl, rfl, rfl, rfl, rfl⟩ rfl rfl rfl rfl rfl (by kernel_rfl) Tryd.func3 (by kernel_rfl)
    (of_decide_eq_true (by kernel_rfl)) (by unfold Func.isWrapper; first | (rw [if_pos (by decide +kernel)]; kernel_rfl) | (rw [if_neg (by decide +kernel)]; exact ⟨rfl, rfl⟩))
    (fun os started H enc _ => lifted os started H enc)

/-- The tied card. -/
theorem proved : Rows.FnExactShowCardSaid :=
  Claim7.holds_tied_plain_at .later [] [.data, .data, .data] true (true, "e0d43b49639fadf0174f43a0310a09b668d7ea07179f084392e28d7dbac78fdf") true
    over (fun _ h => by cases h) (by kernel_rfl) (fun _ h => by cases h) fnExactShow_row_tie rfl ⟨rfl, rfl⟩ (by kernel_rfl) rfl
    (fun f fn hf hfn => by
      obtain rfl : f = 3 := Option.some.inj ((show Tryd.prog.funcNamed "loop.example/g00182/laws.FnExactShow" = some 3 by kernel_rfl).symm.trans hf) |>.symm
      obtain rfl : fn = Tryd.f3 := (Option.some.inj (Tryd.func3.symm.trans hfn)).symm
      exact ⟨by kernel_rfl, fun j t ht => by
        rw [Tryd.params3] at ht
        have hm : t ∈ [24] := List.mem_of_getElem? (by simpa using ht)
        simp only [List.mem_cons, List.not_mem_nil, or_false] at hm
        have hz : ∀ x ∈ [24], Tryd.prog.wantsStandIn x = false := by
          intro x hx
          simp only [List.mem_cons, List.not_mem_nil, or_false] at hx
          first
            | (subst hx; kernel_rfl)
            | (rcases hx with rfl | rfl <;> kernel_rfl)
            | (rcases hx with rfl | rfl | rfl <;> kernel_rfl)
        exact hz t (by simpa using hm)⟩)
    (by kernel_rfl)
end Go.Proofs.YtcaidhmolnnikaaDoor.fnExactShow
namespace Go.Proofs.YtcaidhmolnnikaaDoor
theorem fnExactShow_holds : Rows.FnExactShowCardSaid := fnExactShow.proved
#print axioms fnExactShow_holds
end Go.Proofs.YtcaidhmolnnikaaDoor
