/-
  Proved: whatever bytes it is given, the law FnExactArrayRead returns true (the program's ArrayRead answers as the specification's, every field, writes into no argument, and its answer owns its memory), and the bytes read as before. No condition.
-/
import Derived.Test.YtonkiipdobpfgaaRows
import Derived.WalkKit
import Derived.ProofKit
import Derived.OpenShut
import Derived.ShutString
import Derived.ChangeOld
import Derived.Below
import Derived.Test.YtonkiipdobpfgaaArdL
import Derived.Test.YtonkiipdobpfgaaLaw3
namespace Go.Proofs.Ytonkiipdobpfgaa.fnExactArrayRead
open Go.ChangeShapes Go.WideShapes Go.ChangeAt Go.RowKit
open Go.ChangeMaps (open_string shut_string)
set_option linter.unusedVariables false
set_option linter.unusedSimpArgs false
set_option linter.unusedVariables false

theorem own : ownKnob Try.prog.godebug = none := by kernel_rfl
theorem laidOut : laidOutB Try.prog = true := by kernel_rfl

/-! ### STEP 1: THE WALK: the Go text returns true, AND WRITES NOTHING THAT WAS THERE: 'Below w.heap.size w w'' (Derived/Below.lean: '.refl', '.alloc', '.drew', '.setCell' at a new block, '.trans'). Open each 'IsRow' by 'rcases' AHEAD of 'go_enter'; part every test ahead of the walk. -/
set_option maxRecDepth 20000 in
set_option maxHeartbeats 8000000 in
theorem walk (a0 : Option Addr) (len0 cap0 : Nat) (z0 : List Int) (w : World) (w0 : IsRow .u8 w a0 len0 cap0 z0) :
    Calls Try.prog 4 #[.slice a0 len0 cap0] w fun e w' => e = .returned (.bool true) ∧ Below w.heap.size w w' := by
  obtain ⟨l0, hl0, hb0, hy0⟩ := bys_of_row w0
  subst hl0
  have HB0 : Hid (isB l0) := hb0
  have H0 : Hid (Bys w a0 l0) := hy0
  clear w0 hb0 hy0
  by_cases big0 : (1048576 : Int) < (l0.length : Int)
  · go_enter Try.func4, Try.ntmps4
    go_wp2
    go_ret
    exact ⟨rfl, by repeat first | exact Below.refl _ _ | refine bAlloc ?_ _⟩
  have Ll0 : Hid (l0.length ≤ 1048576) := by show _ ≤ _; omega
  have hl0 : (l0.length : Int) ≤ 1048576 := by omega
  clear big0
  obtain ⟨V, hV⟩ : ∃ x, x = ardB l0 := ⟨_, rfl⟩
  obtain ⟨S, hS⟩ : ∃ x, x = (if ardB l0 = true then shB l0 else []) := ⟨_, rfl⟩
  obtain ⟨D, hD⟩ : ∃ x, x = (if ardB l0 = true then dtB l0 else []) := ⟨_, rfl⟩
  have SP : Hid (∀ (W : World) (u0 : Value) (_ : BysI W u0 l0), Calls Try.prog 15 #[u0] W fun e w' => ∃ v, e = .returned (.tuple #[v, .bool V]) ∧ Arr W.heap.size w'.heap.size w' v S D ∧ Below W.heap.size W w') := by
    intro W u0 h0
    rw [hV, hS, hD]
    exact ard_spec h0 HB0.out Ll0.out
  have IM : Hid (∀ (W : World) (u0 : Value) (_ : BysI W u0 l0), Calls Try.prog 17 #[u0] W fun e w' => ∃ v, e = .returned (.tuple #[v, .bool V]) ∧ Arr W.heap.size w'.heap.size w' v S D ∧ Below W.heap.size W w') := by
    intro W u0 h0
    rw [hV, hS, hD]
    exact ard_impl h0 HB0.out Ll0.out
  have LS : Hid (S.length ≤ 1048576) := by show _ ≤ _; rw [hS]; split; (rw [shB_len]; exact Nat.le_trans (rkB_le HB0.out) (by decide)); simp
  have LD : Hid (D.length ≤ 1048576) := by show _ ≤ _; rw [hD]; split; (rw [dtB_len]; unfold numB; have := Ll0.out; omega); simp
  clear hV hS hD
  go_enter Try.func4, Try.ntmps4
  have HT0 : Hid (Below w.heap.size w w) := Below.refl _ _
  go_wp2_with fail
  refine (to_bytI (H0.out) Ll0.out).mono ?_
  rintro r w1 ⟨vT0, rfl, ha, hb⟩
  obtain ⟨aT0, cT0, rfl, _⟩ := ha.ints
  have T0_1 : Hid (YP w.heap.size w1.heap.size w1 (.slice aT0 l0.length cT0) l0) := ha.mono (by first | exact Nat.le_refl _ | simp | (simp; omega)) (Nat.le_refl _)
  clear ha
  have HB1 : Hid (Below w.heap.size w w1) := hb
  have HT1 : Hid (Below w.heap.size w w1) := HB1.out
  have SZ1 : Hid (w.heap.size ≤ w1.heap.size) := HB1.out.size
  clear hb
  go_wp2_with fail
  refine (SP.out _ _ (T0_1.out.intsI)).mono ?_
  rintro r w2 ⟨vW, rfl, ha, hb⟩
  obtain ⟨aW, cW, bW, eW, rfl, _, _, _, _⟩ := ha.arrI
  have W_2 : Hid (Arr w1.heap.size w2.heap.size w2 (.agg #[.slice aW S.length cW, .slice bW D.length eW]) S D) := ha.mono (by first | exact Nat.le_refl _ | simp | (simp; omega)) (Nat.le_refl _)
  clear ha
  have HB2 : Hid (Below w1.heap.size w1 w2) := hb
  have HT2 : Hid (Below w.heap.size w w2) := bTrans HT1.out HB2.out
  have SZ2 : Hid (w1.heap.size ≤ w2.heap.size) := HB2.out.size
  have T0_2 : Hid (YP w.heap.size w1.heap.size w2 (.slice aT0 l0.length cT0) l0) := T0_1.out.keep HB2.out
  clear T0_1 hb
  go_wp2_with fail
  refine (to_bytI ((H0.out.keep HT2.out).keep (bAlloc (Below.refl _ _) _)) Ll0.out).mono ?_
  rintro r w3 ⟨vX0, rfl, ha, hb⟩
  obtain ⟨aX0, cX0, rfl, _⟩ := ha.ints
  have X0_3 : Hid (YP (w2.heap.size + 1) w3.heap.size w3 (.slice aX0 l0.length cX0) l0) := ha.mono (by first | exact Nat.le_refl _ | simp | (simp; omega)) (Nat.le_refl _)
  clear ha
  have HB3 : Hid (Below w2.heap.size w2 w3) := bTrans (bAlloc (Below.refl _ _) _) hb
  have HT3 : Hid (Below w.heap.size w w3) := bTrans HT2.out HB3.out
  have SZ3 : Hid (w2.heap.size ≤ w3.heap.size) := HB3.out.size
  have W_3 : Hid (Arr w1.heap.size w2.heap.size w3 (.agg #[.slice aW S.length cW, .slice bW D.length eW]) S D) := W_2.out.keep HB3.out
  have QW_3 : Hid (Box w3 w2.heap.size (.slice aW S.length cW) (.slice bW D.length eW) 29) := (box_new w2 _ _ _).keep hb
  have LTQW : Hid (w2.heap.size < w3.heap.size) := QW_3.out.lt
  clear W_2 hb
  have QWc0 := QW_3.out.c0
  have QWc1 := QW_3.out.c1
  go_wp2_with fail
  refine (IM.out _ _ (X0_3.out.intsI)).mono ?_
  rintro r w4 ⟨vG, rfl, ha, hb⟩
  obtain ⟨aG, cG, bG, eG, rfl, _, _, _, _⟩ := ha.arrI
  have G_4 : Hid (Arr w3.heap.size w4.heap.size w4 (.agg #[.slice aG S.length cG, .slice bG D.length eG]) S D) := ha.mono (by first | exact Nat.le_refl _ | simp | (simp; omega)) (Nat.le_refl _)
  clear ha
  have HB4 : Hid (Below w3.heap.size w3 w4) := hb
  have HT4 : Hid (Below w.heap.size w w4) := bTrans HT3.out HB4.out
  have SZ4 : Hid (w3.heap.size ≤ w4.heap.size) := HB4.out.size
  have QW_4 : Hid (Box w4 w2.heap.size (.slice aW S.length cW) (.slice bW D.length eW) 29) := QW_3.out.keep HB4.out
  have W_4 : Hid (Arr w1.heap.size w2.heap.size w4 (.agg #[.slice aW S.length cW, .slice bW D.length eW]) S D) := W_3.out.keep HB4.out
  have X0_4 : Hid (YP (w2.heap.size + 1) w3.heap.size w4 (.slice aX0 l0.length cX0) l0) := X0_3.out.keep HB4.out
  clear QW_3 W_3 X0_3 QWc0 QWc1 hb
  have QWc0 := QW_4.out.c0
  have QWc1 := QW_4.out.c1
  have QWd0 : ∀ o : Obj, (w4.alloc o).cell? ⟨w2.heap.size, 0, none⟩ = some (.slice aW S.length cW) := fun o => (QW_4.out.keep (bAlloc (Below.refl _ _) o)).c0
  have QWd1 : ∀ o : Obj, (w4.alloc o).cell? ⟨w2.heap.size, 1, none⟩ = some (.slice bW D.length eW) := fun o => (QW_4.out.keep (bAlloc (Below.refl _ _) o)).c1
  have hneV : (V != V) = false := by simp
  go_wp2_with fail
  refine (eq_arrI ((G_4.out.arrI).keep (bAlloc (Below.refl _ _) _)) ((W_4.out.arrI).keep (bAlloc (Below.refl _ _) _)) LS.out LD.out).mono ?_
  rintro r w5 ⟨rfl, hb⟩
  have HB5 : Hid (Below w4.heap.size w4 w5) := bTrans (bAlloc (Below.refl _ _) _) hb
  have HT5 : Hid (Below w.heap.size w w5) := bTrans HT4.out HB5.out
  have SZ5 : Hid (w4.heap.size ≤ w5.heap.size) := HB5.out.size
  have QW_5 : Hid (Box w5 w2.heap.size (.slice aW S.length cW) (.slice bW D.length eW) 29) := QW_4.out.keep HB5.out
  have W_5 : Hid (Arr w1.heap.size w2.heap.size w5 (.agg #[.slice aW S.length cW, .slice bW D.length eW]) S D) := W_4.out.keep HB5.out
  have X0_5 : Hid (YP (w2.heap.size + 1) w3.heap.size w5 (.slice aX0 l0.length cX0) l0) := X0_4.out.keep HB5.out
  have G_5 : Hid (Arr w3.heap.size w4.heap.size w5 (.agg #[.slice aG S.length cG, .slice bG D.length eG]) S D) := G_4.out.keep HB5.out
  have QG_5 : Hid (Box w5 w4.heap.size (.slice aG S.length cG) (.slice bG D.length eG) 29) := (box_new w4 _ _ _).keep hb
  have LTQG : Hid (w4.heap.size < w5.heap.size) := QG_5.out.lt
  clear QW_4 W_4 X0_4 G_4 QWc0 QWc1 QWd0 QWd1 hb
  have QWc0 := QW_5.out.c0
  have QWc1 := QW_5.out.c1
  have QGc0 := QG_5.out.c0
  have QGc1 := QG_5.out.c1
  go_wp2_with fail
  refine (to_bytI (H0.out.keep HT5.out) Ll0.out).mono ?_
  rintro r w6 ⟨vE0, rfl, ha, hb⟩
  obtain ⟨aE0, cE0, rfl, _⟩ := ha.ints
  have E0_6 : Hid (YP w5.heap.size w6.heap.size w6 (.slice aE0 l0.length cE0) l0) := ha.mono (by first | exact Nat.le_refl _ | simp | (simp; omega)) (Nat.le_refl _)
  clear ha
  have HB6 : Hid (Below w5.heap.size w5 w6) := hb
  have HT6 : Hid (Below w.heap.size w w6) := bTrans HT5.out HB6.out
  have SZ6 : Hid (w5.heap.size ≤ w6.heap.size) := HB6.out.size
  have QW_6 : Hid (Box w6 w2.heap.size (.slice aW S.length cW) (.slice bW D.length eW) 29) := QW_5.out.keep HB6.out
  have QG_6 : Hid (Box w6 w4.heap.size (.slice aG S.length cG) (.slice bG D.length eG) 29) := QG_5.out.keep HB6.out
  have W_6 : Hid (Arr w1.heap.size w2.heap.size w6 (.agg #[.slice aW S.length cW, .slice bW D.length eW]) S D) := W_5.out.keep HB6.out
  have X0_6 : Hid (YP (w2.heap.size + 1) w3.heap.size w6 (.slice aX0 l0.length cX0) l0) := X0_5.out.keep HB6.out
  have G_6 : Hid (Arr w3.heap.size w4.heap.size w6 (.agg #[.slice aG S.length cG, .slice bG D.length eG]) S D) := G_5.out.keep HB6.out
  clear QW_5 QG_5 W_5 X0_5 G_5 QWc0 QWc1 QGc0 QGc1 hb
  have QWc0 := QW_6.out.c0
  have QWc1 := QW_6.out.c1
  have QGc0 := QG_6.out.c0
  have QGc1 := QG_6.out.c1
  go_wp2_with fail
  refine (eq_bytI (X0_6.out.intsI) (E0_6.out.intsI) Ll0.out).mono ?_
  rintro r w7 ⟨rfl, hb⟩
  have HB7 : Hid (Below w6.heap.size w6 w7) := hb
  have HT7 : Hid (Below w.heap.size w w7) := bTrans HT6.out HB7.out
  have SZ7 : Hid (w6.heap.size ≤ w7.heap.size) := HB7.out.size
  have QW_7 : Hid (Box w7 w2.heap.size (.slice aW S.length cW) (.slice bW D.length eW) 29) := QW_6.out.keep HB7.out
  have QG_7 : Hid (Box w7 w4.heap.size (.slice aG S.length cG) (.slice bG D.length eG) 29) := QG_6.out.keep HB7.out
  have W_7 : Hid (Arr w1.heap.size w2.heap.size w7 (.agg #[.slice aW S.length cW, .slice bW D.length eW]) S D) := W_6.out.keep HB7.out
  have X0_7 : Hid (YP (w2.heap.size + 1) w3.heap.size w7 (.slice aX0 l0.length cX0) l0) := X0_6.out.keep HB7.out
  have G_7 : Hid (Arr w3.heap.size w4.heap.size w7 (.agg #[.slice aG S.length cG, .slice bG D.length eG]) S D) := G_6.out.keep HB7.out
  have E0_7 : Hid (YP w5.heap.size w6.heap.size w7 (.slice aE0 l0.length cE0) l0) := E0_6.out.keep HB7.out
  clear QW_6 QG_6 W_6 X0_6 G_6 E0_6 QWc0 QWc1 QGc0 QGc1 hb
  have QWc0 := QW_7.out.c0
  have QWc1 := QW_7.out.c1
  have QGc0 := QG_7.out.c0
  have QGc1 := QG_7.out.c1
  go_wp2_with fail
  refine (mark_bytI X0_7.out Ll0.out (1 : Int) (by have := Ll0.out; have := LS.out; have := LD.out; omega) (by have := Ll0.out; have := LS.out; have := LD.out; omega)).mono ?_
  rintro r w8 ⟨rfl, ha, hw⟩
  have HT8 : Hid (Below w.heap.size w w8) := HT7.out.trans (hw.below (by have := SZ1.out; have := SZ2.out; have := SZ3.out; have := LTQW.out; have := SZ4.out; have := SZ5.out; have := LTQG.out; have := SZ6.out; have := SZ7.out; omega) HT7.out.size)
  have SZ8 : Hid (w7.heap.size ≤ w8.heap.size) := hw.size
  have QW_8 : Hid (Box w8 w2.heap.size (.slice aW S.length cW) (.slice bW D.length eW) 29) := QW_7.out.win hw (by have := SZ1.out; have := SZ2.out; have := SZ3.out; have := LTQW.out; have := SZ4.out; have := SZ5.out; have := LTQG.out; have := SZ6.out; have := SZ7.out; omega)
  have QG_8 : Hid (Box w8 w4.heap.size (.slice aG S.length cG) (.slice bG D.length eG) 29) := QG_7.out.win hw (by have := SZ1.out; have := SZ2.out; have := SZ3.out; have := LTQW.out; have := SZ4.out; have := SZ5.out; have := LTQG.out; have := SZ6.out; have := SZ7.out; omega)
  have W_8 : Hid (Arr w1.heap.size w2.heap.size w8 (.agg #[.slice aW S.length cW, .slice bW D.length eW]) S D) := W_7.out.win hw (by have := SZ1.out; have := SZ2.out; have := SZ3.out; have := LTQW.out; have := SZ4.out; have := SZ5.out; have := LTQG.out; have := SZ6.out; have := SZ7.out; omega)
  have G_8 : Hid (Arr w3.heap.size w4.heap.size w8 (.agg #[.slice aG S.length cG, .slice bG D.length eG]) S D) := G_7.out.win hw (by have := SZ1.out; have := SZ2.out; have := SZ3.out; have := LTQW.out; have := SZ4.out; have := SZ5.out; have := LTQG.out; have := SZ6.out; have := SZ7.out; omega)
  have X0_8 : Hid (YP (w2.heap.size + 1) w3.heap.size w8 (.slice aX0 l0.length cX0) (upB ((1 : Int)) l0.length)) := ha
  clear QW_7 QG_7 W_7 G_7 X0_7 QWc0 QWc1 QGc0 QGc1 ha hw
  have QWc0 := QW_8.out.c0
  have QWc1 := QW_8.out.c1
  have QGc0 := QG_8.out.c0
  have QGc1 := QG_8.out.c1
  go_wp2_with fail
  refine (eq_arrI (G_8.out.arrI) (W_8.out.arrI) LS.out LD.out).mono ?_
  rintro r w9 ⟨rfl, hb⟩
  have HB9 : Hid (Below w8.heap.size w8 w9) := hb
  have HT9 : Hid (Below w.heap.size w w9) := bTrans HT8.out HB9.out
  have SZ9 : Hid (w8.heap.size ≤ w9.heap.size) := HB9.out.size
  have QW_9 : Hid (Box w9 w2.heap.size (.slice aW S.length cW) (.slice bW D.length eW) 29) := QW_8.out.keep HB9.out
  have QG_9 : Hid (Box w9 w4.heap.size (.slice aG S.length cG) (.slice bG D.length eG) 29) := QG_8.out.keep HB9.out
  have W_9 : Hid (Arr w1.heap.size w2.heap.size w9 (.agg #[.slice aW S.length cW, .slice bW D.length eW]) S D) := W_8.out.keep HB9.out
  have G_9 : Hid (Arr w3.heap.size w4.heap.size w9 (.agg #[.slice aG S.length cG, .slice bG D.length eG]) S D) := G_8.out.keep HB9.out
  clear QW_8 QG_8 W_8 G_8 QWc0 QWc1 QGc0 QGc1 hb
  have QWc0 := QW_9.out.c0
  have QWc1 := QW_9.out.c1
  have QGc0 := QG_9.out.c0
  have QGc1 := QG_9.out.c1
  go_wp2_with fail
  refine (mark_arr G_9.out LS.out LD.out (1 : Int) (by have := Ll0.out; have := LS.out; have := LD.out; omega) (by have := Ll0.out; have := LS.out; have := LD.out; omega)).mono ?_
  rintro r w10 ⟨rfl, ha, hw⟩
  have HT10 : Hid (Below w.heap.size w w10) := HT9.out.trans (hw.below (by have := SZ1.out; have := SZ2.out; have := SZ3.out; have := LTQW.out; have := SZ4.out; have := SZ5.out; have := LTQG.out; have := SZ6.out; have := SZ7.out; have := SZ8.out; have := SZ9.out; omega) HT9.out.size)
  have SZ10 : Hid (w9.heap.size ≤ w10.heap.size) := hw.size
  have QW_10 : Hid (Box w10 w2.heap.size (.slice aW S.length cW) (.slice bW D.length eW) 29) := QW_9.out.win hw (by have := SZ1.out; have := SZ2.out; have := SZ3.out; have := LTQW.out; have := SZ4.out; have := SZ5.out; have := LTQG.out; have := SZ6.out; have := SZ7.out; have := SZ8.out; have := SZ9.out; omega)
  have QG_10 : Hid (Box w10 w4.heap.size (.slice aG S.length cG) (.slice bG D.length eG) 29) := QG_9.out.win hw (by have := SZ1.out; have := SZ2.out; have := SZ3.out; have := LTQW.out; have := SZ4.out; have := SZ5.out; have := LTQG.out; have := SZ6.out; have := SZ7.out; have := SZ8.out; have := SZ9.out; omega)
  have W_10 : Hid (Arr w1.heap.size w2.heap.size w10 (.agg #[.slice aW S.length cW, .slice bW D.length eW]) S D) := W_9.out.win hw (by have := SZ1.out; have := SZ2.out; have := SZ3.out; have := LTQW.out; have := SZ4.out; have := SZ5.out; have := LTQG.out; have := SZ6.out; have := SZ7.out; have := SZ8.out; have := SZ9.out; omega)
  have G_10 : Hid (Arr w3.heap.size w4.heap.size w10 (.agg #[.slice aG S.length cG, .slice bG D.length eG]) (upFrom ((1 : Int)) S.length) (upFrom ((1 : Int) + S.length) D.length)) := ha
  clear QW_9 QG_9 W_9 G_9 QWc0 QWc1 QGc0 QGc1 ha hw
  have QWc0 := QW_10.out.c0
  have QWc1 := QW_10.out.c1
  have QGc0 := QG_10.out.c0
  have QGc1 := QG_10.out.c1
  go_wp2_with fail
  refine (held_arr (1 : Int) G_10.out LS.out LD.out (by decide) (by decide)).mono ?_
  rintro r w11 ⟨rfl, hb⟩
  have HB11 : Hid (Below w10.heap.size w10 w11) := hb
  have HT11 : Hid (Below w.heap.size w w11) := bTrans HT10.out HB11.out
  have SZ11 : Hid (w10.heap.size ≤ w11.heap.size) := HB11.out.size
  have QW_11 : Hid (Box w11 w2.heap.size (.slice aW S.length cW) (.slice bW D.length eW) 29) := QW_10.out.keep HB11.out
  have QG_11 : Hid (Box w11 w4.heap.size (.slice aG S.length cG) (.slice bG D.length eG) 29) := QG_10.out.keep HB11.out
  have W_11 : Hid (Arr w1.heap.size w2.heap.size w11 (.agg #[.slice aW S.length cW, .slice bW D.length eW]) S D) := W_10.out.keep HB11.out
  have G_11 : Hid (Arr w3.heap.size w4.heap.size w11 (.agg #[.slice aG S.length cG, .slice bG D.length eG]) (upFrom ((1 : Int)) S.length) (upFrom ((1 : Int) + S.length) D.length)) := G_10.out.keep HB11.out
  clear QW_10 QG_10 W_10 G_10 QWc0 QWc1 QGc0 QGc1 hb
  have QWc0 := QW_11.out.c0
  have QWc1 := QW_11.out.c1
  have QGc0 := QG_11.out.c0
  have QGc1 := QG_11.out.c1
  go_wp2_with fail
  refine (to_bytI (H0.out.keep HT11.out) Ll0.out).mono ?_
  rintro r w12 ⟨vY0, rfl, ha, hb⟩
  obtain ⟨aY0, cY0, rfl, _⟩ := ha.ints
  have Y0_12 : Hid (YP w11.heap.size w12.heap.size w12 (.slice aY0 l0.length cY0) l0) := ha.mono (by first | exact Nat.le_refl _ | simp | (simp; omega)) (Nat.le_refl _)
  clear ha
  have HB12 : Hid (Below w11.heap.size w11 w12) := hb
  have HT12 : Hid (Below w.heap.size w w12) := bTrans HT11.out HB12.out
  have SZ12 : Hid (w11.heap.size ≤ w12.heap.size) := HB12.out.size
  have QW_12 : Hid (Box w12 w2.heap.size (.slice aW S.length cW) (.slice bW D.length eW) 29) := QW_11.out.keep HB12.out
  have QG_12 : Hid (Box w12 w4.heap.size (.slice aG S.length cG) (.slice bG D.length eG) 29) := QG_11.out.keep HB12.out
  have W_12 : Hid (Arr w1.heap.size w2.heap.size w12 (.agg #[.slice aW S.length cW, .slice bW D.length eW]) S D) := W_11.out.keep HB12.out
  have G_12 : Hid (Arr w3.heap.size w4.heap.size w12 (.agg #[.slice aG S.length cG, .slice bG D.length eG]) (upFrom ((1 : Int)) S.length) (upFrom ((1 : Int) + S.length) D.length)) := G_11.out.keep HB12.out
  clear QW_11 QG_11 W_11 G_11 QWc0 QWc1 QGc0 QGc1 hb
  have QWc0 := QW_12.out.c0
  have QWc1 := QW_12.out.c1
  have QGc0 := QG_12.out.c0
  have QGc1 := QG_12.out.c1
  go_wp2_with fail
  refine (IM.out _ _ (Y0_12.out.intsI)).mono ?_
  rintro r w13 ⟨vJ, rfl, ha, hb⟩
  obtain ⟨aJ, cJ, bJ, eJ, rfl, _, _, _, _⟩ := ha.arrI
  have J_13 : Hid (Arr w12.heap.size w13.heap.size w13 (.agg #[.slice aJ S.length cJ, .slice bJ D.length eJ]) S D) := ha.mono (by first | exact Nat.le_refl _ | simp | (simp; omega)) (Nat.le_refl _)
  clear ha
  have HB13 : Hid (Below w12.heap.size w12 w13) := hb
  have HT13 : Hid (Below w.heap.size w w13) := bTrans HT12.out HB13.out
  have SZ13 : Hid (w12.heap.size ≤ w13.heap.size) := HB13.out.size
  have QW_13 : Hid (Box w13 w2.heap.size (.slice aW S.length cW) (.slice bW D.length eW) 29) := QW_12.out.keep HB13.out
  have QG_13 : Hid (Box w13 w4.heap.size (.slice aG S.length cG) (.slice bG D.length eG) 29) := QG_12.out.keep HB13.out
  have W_13 : Hid (Arr w1.heap.size w2.heap.size w13 (.agg #[.slice aW S.length cW, .slice bW D.length eW]) S D) := W_12.out.keep HB13.out
  have G_13 : Hid (Arr w3.heap.size w4.heap.size w13 (.agg #[.slice aG S.length cG, .slice bG D.length eG]) (upFrom ((1 : Int)) S.length) (upFrom ((1 : Int) + S.length) D.length)) := G_12.out.keep HB13.out
  have Y0_13 : Hid (YP w11.heap.size w12.heap.size w13 (.slice aY0 l0.length cY0) l0) := Y0_12.out.keep HB13.out
  clear QW_12 QG_12 W_12 G_12 Y0_12 QWc0 QWc1 QGc0 QGc1 hb
  have QWc0 := QW_13.out.c0
  have QWc1 := QW_13.out.c1
  have QWd0 : ∀ o : Obj, (w13.alloc o).cell? ⟨w2.heap.size, 0, none⟩ = some (.slice aW S.length cW) := fun o => (QW_13.out.keep (bAlloc (Below.refl _ _) o)).c0
  have QWd1 : ∀ o : Obj, (w13.alloc o).cell? ⟨w2.heap.size, 1, none⟩ = some (.slice bW D.length eW) := fun o => (QW_13.out.keep (bAlloc (Below.refl _ _) o)).c1
  have QGc0 := QG_13.out.c0
  have QGc1 := QG_13.out.c1
  have QGd0 : ∀ o : Obj, (w13.alloc o).cell? ⟨w4.heap.size, 0, none⟩ = some (.slice aG S.length cG) := fun o => (QG_13.out.keep (bAlloc (Below.refl _ _) o)).c0
  have QGd1 : ∀ o : Obj, (w13.alloc o).cell? ⟨w4.heap.size, 1, none⟩ = some (.slice bG D.length eG) := fun o => (QG_13.out.keep (bAlloc (Below.refl _ _) o)).c1
  go_wp2_with fail
  refine (eq_arrI ((J_13.out.arrI).keep (bAlloc (Below.refl _ _) _)) ((W_13.out.arrI).keep (bAlloc (Below.refl _ _) _)) LS.out LD.out).mono ?_
  rintro r w14 ⟨rfl, hb⟩
  have HB14 : Hid (Below w13.heap.size w13 w14) := bTrans (bAlloc (Below.refl _ _) _) hb
  have HT14 : Hid (Below w.heap.size w w14) := bTrans HT13.out HB14.out
  have SZ14 : Hid (w13.heap.size ≤ w14.heap.size) := HB14.out.size
  have QW_14 : Hid (Box w14 w2.heap.size (.slice aW S.length cW) (.slice bW D.length eW) 29) := QW_13.out.keep HB14.out
  have QG_14 : Hid (Box w14 w4.heap.size (.slice aG S.length cG) (.slice bG D.length eG) 29) := QG_13.out.keep HB14.out
  have W_14 : Hid (Arr w1.heap.size w2.heap.size w14 (.agg #[.slice aW S.length cW, .slice bW D.length eW]) S D) := W_13.out.keep HB14.out
  have G_14 : Hid (Arr w3.heap.size w4.heap.size w14 (.agg #[.slice aG S.length cG, .slice bG D.length eG]) (upFrom ((1 : Int)) S.length) (upFrom ((1 : Int) + S.length) D.length)) := G_13.out.keep HB14.out
  have J_14 : Hid (Arr w12.heap.size w13.heap.size w14 (.agg #[.slice aJ S.length cJ, .slice bJ D.length eJ]) S D) := J_13.out.keep HB14.out
  have QJ_14 : Hid (Box w14 w13.heap.size (.slice aJ S.length cJ) (.slice bJ D.length eJ) 29) := (box_new w13 _ _ _).keep hb
  have LTQJ : Hid (w13.heap.size < w14.heap.size) := QJ_14.out.lt
  clear QW_13 QG_13 W_13 G_13 J_13 QWc0 QWc1 QWd0 QWd1 QGc0 QGc1 QGd0 QGd1 hb
  have QWc0 := QW_14.out.c0
  have QWc1 := QW_14.out.c1
  have QGc0 := QG_14.out.c0
  have QGc1 := QG_14.out.c1
  have QJc0 := QJ_14.out.c0
  have QJc1 := QJ_14.out.c1
  go_wp2_with fail
  refine (held_arr (1 : Int) G_14.out LS.out LD.out (by decide) (by decide)).mono ?_
  rintro r w15 ⟨rfl, hb⟩
  have HB15 : Hid (Below w14.heap.size w14 w15) := hb
  have HT15 : Hid (Below w.heap.size w w15) := bTrans HT14.out HB15.out
  have SZ15 : Hid (w14.heap.size ≤ w15.heap.size) := HB15.out.size
  have QW_15 : Hid (Box w15 w2.heap.size (.slice aW S.length cW) (.slice bW D.length eW) 29) := QW_14.out.keep HB15.out
  have QG_15 : Hid (Box w15 w4.heap.size (.slice aG S.length cG) (.slice bG D.length eG) 29) := QG_14.out.keep HB15.out
  have QJ_15 : Hid (Box w15 w13.heap.size (.slice aJ S.length cJ) (.slice bJ D.length eJ) 29) := QJ_14.out.keep HB15.out
  have G_15 : Hid (Arr w3.heap.size w4.heap.size w15 (.agg #[.slice aG S.length cG, .slice bG D.length eG]) (upFrom ((1 : Int)) S.length) (upFrom ((1 : Int) + S.length) D.length)) := G_14.out.keep HB15.out
  clear QW_14 QG_14 QJ_14 G_14 QWc0 QWc1 QGc0 QGc1 QJc0 QJc1 hb
  have QWc0 := QW_15.out.c0
  have QWc1 := QW_15.out.c1
  have QGc0 := QG_15.out.c0
  have QGc1 := QG_15.out.c1
  have QJc0 := QJ_15.out.c0
  have QJc1 := QJ_15.out.c1
  go_wp2
  go_ret
  exact ⟨rfl, HT15.out⟩

/-! ### THE ROW's STEP: WRITTEN OUT: LEAVE IT -/
set_option maxRecDepth 100000 in
theorem lifted (os : Os) (started : os.Started) (H : Type) (enc : TypeId × Value → H) :
    ReturnsInHanded {} Try.checked os 4 .any (Rows.fnExactArrayReadSpec.pre6 enc Try.prog Try.f4 Rows.fnExactArrayReadRow.domain false) (Rows.fnExactArrayReadSpec.post enc Try.prog Try.f4 false true false false) := by
  refine returnsInHanded_of_change (C := Try.checked) own started (by kernel_rfl) Try.func4
    (ChangeSpec.witness6 (enc := enc) (C := Try.checked) false ⟨#[], #[.slice none 0 0], []⟩ 8 (by kernel_rfl) (by kernel_rfl) (by kernel_rfl) (by kernel_rfl)) ?_
  intro W base args ds gs before hval0 hW hcnd _
  have hval : ∀ (j : Nat) t v, Try.f4.params[j]? = some t → args[j]? = some v → Value.okWide Try.prog W .any base t v := hval0
  have hW' := hW
  obtain ⟨p, q, hA0, hV, rfl, hfz, hnd⟩ := hW
  have hA : DataW.TrodAll enc Try.prog W 0 (fun _ => true) true Try.f4.params.toList args.toList ds p := hA0
  rw [Try.params4] at hA hval
  obtain ⟨v0, vs0, d0, ds0, p0, q0, hargs, rfl, rfl, h0, r0⟩ := trodAll_cons hA
  obtain ⟨rfl, rfl, rfl⟩ := trodAll_nil r0
  obtain rfl : args = #[v0] := by cases args; simp_all
  obtain ⟨rfl, rfl⟩ := trodVars_none hV
  obtain ⟨a0, len0, cap0, rfl⟩ := okWide_slice Try.underlying26 (hval 0 26 v0 rfl rfl)
  have k0 := h0
  have lt0 : ∀ x ∈ p0, x.block < W.heap.size := by obtain ⟨m, hm⟩ := k0; exact DataW.trod_lt m _ _ _ hm
  obtain ⟨z0, w0⟩ : ∃ zs, IsRow .u8 W a0 len0 cap0 zs := by
    obtain ⟨fuel, hf⟩ := h0
    rcases open_ints Try.underlying26 Try.underlying5 (by kernel_rfl) hf with ⟨hcs, _⟩ | ⟨x, l, c, zs, hcs, _, hl, hm, hz, _, hcell, hwz⟩
    · simp [Value.cells] at hcs
      obtain ⟨rfl, rfl, rfl⟩ := hcs
      exact ⟨[], .inl ⟨rfl, rfl, rfl, rfl⟩⟩
    · simp [Value.cells] at hcs
      obtain ⟨rfl, rfl, rfl⟩ := hcs
      exact ⟨zs, .inr ⟨_, rfl, hl, hm, by simpa using hz, hcell, hwz⟩⟩
  clear hA0 hval0
  refine (walk a0 len0 cap0 z0 W w0).mono fun e W' ⟨he, bel⟩ => ?_
  subst he
  exact ⟨_, rfl, _, _, _, [], _, [], hW', trodAll_mk1 (shut_bool Try.underlying4 _), (trodAll_cons_mk (Below.trod laidOut (by kernel_rfl) (of_decide_eq_true (by kernel_rfl)) k0 bel lt0) trodAll_mk0), rfl, bel.frame _, fun h => by cases h⟩

theorem over : Rows.fnExactArrayReadRow.holds Try.pinned (OpenSpec.ofChange Rows.fnExactArrayReadSpec) :=
  OpenClaim.holds_of_wide 4 Try.f4 rfl rfl rfl rfl rfl rfl rfl ⟨rfl, rfl, rfl, rfl, rfl⟩ rfl rfl rfl rfl rfl (by kernel_rfl) Try.func4 (by kernel_rfl)
    (of_decide_eq_true (by kernel_rfl)) (by unfold Func.isWrapper; first | (rw [if_pos (by decide +kernel)]; kernel_rfl) | (rw [if_neg (by decide +kernel)]; exact ⟨rfl, rfl⟩))
    (fun os started H enc _ => lifted os started H enc)

/-- ████ THE STATEMENT ████ -/
theorem proved : Rows.FnExactArrayReadSaid := over
end Go.Proofs.Ytonkiipdobpfgaa.fnExactArrayRead
namespace Go.Proofs.Ytonkiipdobpfgaa
theorem fnExactArrayRead_holds : Rows.FnExactArrayReadSaid := fnExactArrayRead.proved
#print axioms fnExactArrayRead_holds
end Go.Proofs.Ytonkiipdobpfgaa
