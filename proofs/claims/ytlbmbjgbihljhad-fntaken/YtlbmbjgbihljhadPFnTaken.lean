/-
  Proved: whatever code it is given, the law FnTaken returns true (what the program takes of a drawn array has as many rows as wanted; with what it drops it is all, if it has so many). No condition.
-/
import Derived.Test.YtlbmbjgbihljhadRows
import Derived.WalkKit
import Derived.ProofKit
import Derived.OpenShut
import Derived.ShutString
import Derived.ChangeOld
import Derived.Below
import Derived.Test.YtlbmbjgbihljhadCuts2
import Derived.Test.YtlbmbjgbihljhadDrawBy
import Derived.Test.YtlbmbjgbihljhadSpecMake6
import Derived.Test.YtlbmbjgbihljhadImplTD
import Derived.Test.YtlbmbjgbihljhadSpecEach1
import Derived.Test.YtlbmbjgbihljhadGrow
import Derived.Test.YtlbmbjgbihljhadLaw3
namespace Go.Proofs.Ytlbmbjgbihljhad.fnTaken
open Go.ChangeShapes Go.WideShapes Go.ChangeAt Go.RowKit
open Go.ChangeMaps (open_string shut_string)
set_option linter.unusedVariables false
set_option linter.unusedSimpArgs false
set_option linter.unusedVariables false

theorem own : ownKnob Try.prog.godebug = none := by kernel_rfl
theorem laidOut : laidOutB Try.prog = true := by kernel_rfl

/-! ### STEP 1: THE WALK: the Go text returns true, AND WRITES NOTHING THAT WAS THERE: 'Below w.heap.size w w'' (Derived/Below.lean: '.refl', '.alloc', '.drew', '.setCell' at a new block, '.trans'). Open each 'IsRow' by 'rcases' AHEAD of 'go_enter'; part every test ahead of the walk. -/
set_option maxRecDepth 20000 in
set_option maxHeartbeats 8000000 in
theorem walk (a0 : Option Addr) (len0 cap0 : Nat) (z0 : List Int) (w : World) (w0 : IsRow .u8 w a0 len0 cap0 z0) :
    Calls Try.prog 3 #[.slice a0 len0 cap0] w fun e w' => e = .returned (.bool true) ∧ Below w.heap.size w w' := by
  have HS : Hid (Src w.heap.size w a0 len0) := src_of_row w0
  clear w0
  by_cases hbig : (1048576 : Int) < (len0 : Int)
  · go_enter Try.func3, Try.ntmps3
    go_wp2_with (go_at_call 9; refine (big_laws _ _ _ _).mono ?_; rintro e w' ⟨rfl, hw⟩; subst w')
    go_ret
    exact ⟨rfl, Below.refl _ _⟩
  have hb20 : len0 ≤ 1048576 := by omega
  go_enter Try.func3, Try.ntmps3
  go_wp2_with (go_at_call 9; refine (big_laws _ _ _ _).mono ?_; rintro e w' ⟨rfl, hw⟩; subst w')
  refine (drawTake_spec HS.out hb20).mono ?_
  rintro r w1 ⟨v1, v2, s, d, t, f, rfl, ha, hc0, ⟨hls, hld, hlt, hlf⟩, hb⟩
  obtain ⟨a1, c1, b1, e1, rfl, _, _, _, _⟩ := ha.arrI
  obtain ⟨a2, c2, b2, e2, rfl, _, _, _, _⟩ := hc0.arrI
  have N_1 : Hid (Arr w.heap.size w1.heap.size w1 (.agg #[.slice a1 s.length c1, .slice b1 d.length e1]) s d) := ha
  have M_1 : Hid (Arr w.heap.size w1.heap.size w1 (.agg #[.slice a2 t.length c2, .slice b2 f.length e2]) t f) := hc0
  have Ls : Hid (s.length ≤ 1048576) := by show _ ≤ _; omega
  have Ld : Hid (d.length ≤ 1048576) := by show _ ≤ _; omega
  have Lt : Hid (t.length ≤ 1048576) := by show _ ≤ _; omega
  have Lf : Hid (f.length ≤ 1048576) := by show _ ≤ _; omega
  have HT1 : Hid (Below w.heap.size w w1) := hb
  have SZ1 : Hid (w.heap.size ≤ w1.heap.size) := hb.size
  clear hb ha hc0 hls hld hlt hlf
  obtain ⟨C, hC⟩ : ∃ y, y = (takeR s d t f).1 := ⟨_, rfl⟩
  obtain ⟨S, hS⟩ : ∃ y, y = (takeR s d t f).2.1 := ⟨_, rfl⟩
  obtain ⟨D, hD⟩ : ∃ y, y = (takeR s d t f).2.2 := ⟨_, rfl⟩
  obtain ⟨C2, hC2⟩ : ∃ y, y = (dropR s d t f).1 := ⟨_, rfl⟩
  obtain ⟨S2, hS2⟩ : ∃ y, y = (dropR s d t f).2.1 := ⟨_, rfl⟩
  obtain ⟨D2, hD2⟩ : ∃ y, y = (dropR s d t f).2.2 := ⟨_, rfl⟩
  have LA : Hid (S.length ≤ 1048576 ∧ D.length ≤ 1048576) := by show _ ∧ _; rw [hS, hD]; exact mkR_len (fun h => takeS_len5 h) (fun h => takeD_len5 h)
  have LB : Hid (D2.length ≤ 1048576) := by show _ ≤ _; rw [hD2]; exact (mkR_len (n := 1048576) (fun h => dropS_len5 h) (fun h => by have := dropD_len5 (d.getD 0 0) t f; have := Lf.out; omega)).2
  have EI : Hid (∀ (W : World) (u0 : Value) (_ : ArrI W u0 s d) (u1 : Value) (_ : ArrI W u1 t f), Calls Try.prog 11 #[u0, u1] W fun e w' => ∃ v, e = .returned (.tuple #[v, .int .i64 C]) ∧ Arr W.heap.size w'.heap.size w' v S D ∧ Below W.heap.size W w') := by
    intro W u0 h0 u1 h1
    rw [hC, hS, hD]
    exact take_impl h0 h1 Ls.out Ld.out Lt.out Lf.out
  have ES : Hid (∀ (W : World) (u0 : Value) (_ : ArrI W u0 s d) (u1 : Value) (_ : ArrI W u1 t f), Calls Try.prog 12 #[u0, u1] W fun e w' => ∃ v, e = .returned (.tuple #[v, .int .i64 C]) ∧ Arr W.heap.size w'.heap.size w' v S D ∧ Below W.heap.size W w') := by
    intro W u0 h0 u1 h1
    rw [hC, hS, hD]
    exact take_spec h0 h1 Ld.out Lt.out Lf.out
  have E2 : Hid (∀ (W : World) (u0 : Value) (_ : ArrI W u0 s d) (u1 : Value) (_ : ArrI W u1 t f), Calls Try.prog 13 #[u0, u1] W fun e w' => ∃ v, e = .returned (.tuple #[v, .int .i64 C2]) ∧ Arr W.heap.size w'.heap.size w' v S2 D2 ∧ Below W.heap.size W w') := by
    intro W u0 h0 u1 h1
    rw [hC2, hS2, hD2]
    exact drop_impl h0 h1 Ls.out Ld.out Lt.out Lf.out
  have E3 : Hid (∀ (W : World) (u0 : Value) (_ : ArrI W u0 s d) (u1 : Value) (_ : ArrI W u1 t f), Calls Try.prog 14 #[u0, u1] W fun e w' => ∃ v, e = .returned (.tuple #[v, .int .i64 C2]) ∧ Arr W.heap.size w'.heap.size w' v S2 D2 ∧ Below W.heap.size W w') := by
    intro W u0 h0 u1 h1
    rw [hC2, hS2, hD2]
    exact drop_spec h0 h1 Ld.out Lt.out Lf.out
  have FG : Hid (C = 0 → d.length = 1 ∧ C2 = 0 ∧ (∃ tl, S = manyV (d.getD 0 0) :: tl) ∧ (-1000000000000 ≤ d.getD 0 0 ∧ d.getD 0 0 ≤ 1000000000000) ∧ (0 < t.length → 0 ≤ t.getD 0 0 ∧ t.getD 0 0 ≤ 300) ∧ (haveV t < manyV (d.getD 0 0) → D2.length = 0) ∧ (manyV (d.getD 0 0) ≤ haveV t → D.length + D2.length ≤ 1048576 ∧ (0 ≤ d.getD 0 0 → D ++ D2 = f) ∧ (d.getD 0 0 < 0 → D2 ++ D = f))) := by
    intro h
    rw [hC] at h
    obtain ⟨⟨q1, q2⟩, q3, q4, q5, q6, q7, q8⟩ := taken_code h
    obtain ⟨p1, p2⟩ := taken_both q2 q4
    rw [hC2, hS, hD, hD2, q5, q6, q8]
    refine ⟨q3, q7, ⟨_, rfl⟩, num_bd q1 (by omega), fun _ => head_bd q2, p1, fun hm => ⟨?_, p2 hm⟩⟩
    have hf := Lf.out
    by_cases hx : 0 ≤ d.getD 0 0
    · have e := congrArg List.length ((p2 hm).1 hx)
      rw [List.length_append] at e; omega
    · have e := congrArg List.length ((p2 hm).2 (by omega))
      rw [List.length_append] at e; omega
  have FB : Hid (C ≠ 0 → D.length = 0) := by
    intro h
    rw [hD]
    rw [hC] at h
    exact taken_bad h
  have hneC : (C != C) = false := by simp
  have hneC2 : (C2 != C2) = false := by simp
  clear hC hS hD hC2 hS2 hD2
  go_wp2_with fail
  refine (EI.out _ _ ((N_1.out.arrI).keep (bAlloc (bAlloc (Below.refl _ _) _) _)) _ ((M_1.out.arrI).keep (bAlloc (bAlloc (Below.refl _ _) _) _))).mono ?_
  rintro r w2 ⟨vG, rfl, ha, hb⟩
  obtain ⟨aG, cG, bG, eG, rfl, _, _, _, _⟩ := ha.arrI
  have G_2 : Hid (Arr (w1.heap.size + 2) w2.heap.size w2 (.agg #[.slice aG S.length cG, .slice bG D.length eG]) S D) := ha.mono (by first | exact Nat.le_refl _ | simp | (simp; omega)) (Nat.le_refl _)
  clear ha
  have HB2 : Hid (Below w1.heap.size w1 w2) := bTrans (bAlloc (bAlloc (Below.refl _ _) _) _) hb
  have HT2 : Hid (Below w.heap.size w w2) := bTrans HT1.out HB2.out
  have SZ2 : Hid (w1.heap.size ≤ w2.heap.size) := HB2.out.size
  have N_2 : Hid (Arr w.heap.size w1.heap.size w2 (.agg #[.slice a1 s.length c1, .slice b1 d.length e1]) s d) := N_1.out.keep HB2.out
  have M_2 : Hid (Arr w.heap.size w1.heap.size w2 (.agg #[.slice a2 t.length c2, .slice b2 f.length e2]) t f) := M_1.out.keep HB2.out
  have QN_2 : Hid (Box w2 w1.heap.size (.slice a1 s.length c1) (.slice b1 d.length e1) 26) := ((box_new w1 _ _ _).keep (bAlloc (Below.refl _ _) _)).keep hb
  have LTQN : Hid (w1.heap.size < w2.heap.size) := QN_2.out.lt
  have QM_2 : Hid (Box w2 (w1.heap.size + 1) (.slice a2 t.length c2) (.slice b2 f.length e2) 26) := (box_new2 w1 _ _ _ _).keep hb
  have LTQM : Hid ((w1.heap.size + 1) < w2.heap.size) := QM_2.out.lt
  clear N_1 M_1 hb
  have QNc0 := QN_2.out.c0
  have QNc1 := QN_2.out.c1
  have QNd0 : ∀ o : Obj, (w2.alloc o).cell? ⟨w1.heap.size, 0, none⟩ = some (.slice a1 s.length c1) := fun o => (QN_2.out.keep (bAlloc (Below.refl _ _) o)).c0
  have QNd1 : ∀ o : Obj, (w2.alloc o).cell? ⟨w1.heap.size, 1, none⟩ = some (.slice b1 d.length e1) := fun o => (QN_2.out.keep (bAlloc (Below.refl _ _) o)).c1
  have QMc0 := QM_2.out.c0
  have QMc1 := QM_2.out.c1
  have QMd0 : ∀ o : Obj, (w2.alloc o).cell? ⟨(w1.heap.size + 1), 0, none⟩ = some (.slice a2 t.length c2) := fun o => (QM_2.out.keep (bAlloc (Below.refl _ _) o)).c0
  have QMd1 : ∀ o : Obj, (w2.alloc o).cell? ⟨(w1.heap.size + 1), 1, none⟩ = some (.slice b2 f.length e2) := fun o => (QM_2.out.keep (bAlloc (Below.refl _ _) o)).c1
  go_wp2_with fail
  refine (ES.out _ _ ((N_2.out.arrI).keep (bAlloc (Below.refl _ _) _)) _ ((M_2.out.arrI).keep (bAlloc (Below.refl _ _) _))).mono ?_
  rintro r w3 ⟨vW, rfl, ha, hb⟩
  obtain ⟨aW, cW, bW, eW, rfl, _, _, _, _⟩ := ha.arrI
  have W_3 : Hid (Arr (w2.heap.size + 1) w3.heap.size w3 (.agg #[.slice aW S.length cW, .slice bW D.length eW]) S D) := ha.mono (by first | exact Nat.le_refl _ | simp | (simp; omega)) (Nat.le_refl _)
  clear ha
  have HB3 : Hid (Below w2.heap.size w2 w3) := bTrans (bAlloc (Below.refl _ _) _) hb
  have HT3 : Hid (Below w.heap.size w w3) := bTrans HT2.out HB3.out
  have SZ3 : Hid (w2.heap.size ≤ w3.heap.size) := HB3.out.size
  have QN_3 : Hid (Box w3 w1.heap.size (.slice a1 s.length c1) (.slice b1 d.length e1) 26) := QN_2.out.keep HB3.out
  have QM_3 : Hid (Box w3 (w1.heap.size + 1) (.slice a2 t.length c2) (.slice b2 f.length e2) 26) := QM_2.out.keep HB3.out
  have N_3 : Hid (Arr w.heap.size w1.heap.size w3 (.agg #[.slice a1 s.length c1, .slice b1 d.length e1]) s d) := N_2.out.keep HB3.out
  have M_3 : Hid (Arr w.heap.size w1.heap.size w3 (.agg #[.slice a2 t.length c2, .slice b2 f.length e2]) t f) := M_2.out.keep HB3.out
  have G_3 : Hid (Arr (w1.heap.size + 2) w2.heap.size w3 (.agg #[.slice aG S.length cG, .slice bG D.length eG]) S D) := G_2.out.keep HB3.out
  have QG_3 : Hid (Box w3 w2.heap.size (.slice aG S.length cG) (.slice bG D.length eG) 26) := (box_new w2 _ _ _).keep hb
  have LTQG : Hid (w2.heap.size < w3.heap.size) := QG_3.out.lt
  clear QN_2 QM_2 N_2 M_2 G_2 QNc0 QNc1 QNd0 QNd1 QMc0 QMc1 QMd0 QMd1 hb
  have QNc0 := QN_3.out.c0
  have QNc1 := QN_3.out.c1
  have QNd0 : ∀ o : Obj, (w3.alloc o).cell? ⟨w1.heap.size, 0, none⟩ = some (.slice a1 s.length c1) := fun o => (QN_3.out.keep (bAlloc (Below.refl _ _) o)).c0
  have QNd1 : ∀ o : Obj, (w3.alloc o).cell? ⟨w1.heap.size, 1, none⟩ = some (.slice b1 d.length e1) := fun o => (QN_3.out.keep (bAlloc (Below.refl _ _) o)).c1
  have QMc0 := QM_3.out.c0
  have QMc1 := QM_3.out.c1
  have QMd0 : ∀ o : Obj, (w3.alloc o).cell? ⟨(w1.heap.size + 1), 0, none⟩ = some (.slice a2 t.length c2) := fun o => (QM_3.out.keep (bAlloc (Below.refl _ _) o)).c0
  have QMd1 : ∀ o : Obj, (w3.alloc o).cell? ⟨(w1.heap.size + 1), 1, none⟩ = some (.slice b2 f.length e2) := fun o => (QM_3.out.keep (bAlloc (Below.refl _ _) o)).c1
  have QGc0 := QG_3.out.c0
  have QGc1 := QG_3.out.c1
  have QGd0 : ∀ o : Obj, (w3.alloc o).cell? ⟨w2.heap.size, 0, none⟩ = some (.slice aG S.length cG) := fun o => (QG_3.out.keep (bAlloc (Below.refl _ _) o)).c0
  have QGd1 : ∀ o : Obj, (w3.alloc o).cell? ⟨w2.heap.size, 1, none⟩ = some (.slice bG D.length eG) := fun o => (QG_3.out.keep (bAlloc (Below.refl _ _) o)).c1
  go_wp2_with fail
  refine (E2.out _ _ ((N_3.out.arrI).keep (bAlloc (Below.refl _ _) _)) _ ((M_3.out.arrI).keep (bAlloc (Below.refl _ _) _))).mono ?_
  rintro r w4 ⟨vX, rfl, ha, hb⟩
  obtain ⟨aX, cX, bX, eX, rfl, _, _, _, _⟩ := ha.arrI
  have X_4 : Hid (Arr (w3.heap.size + 1) w4.heap.size w4 (.agg #[.slice aX S2.length cX, .slice bX D2.length eX]) S2 D2) := ha.mono (by first | exact Nat.le_refl _ | simp | (simp; omega)) (Nat.le_refl _)
  clear ha
  have HB4 : Hid (Below w3.heap.size w3 w4) := bTrans (bAlloc (Below.refl _ _) _) hb
  have HT4 : Hid (Below w.heap.size w w4) := bTrans HT3.out HB4.out
  have SZ4 : Hid (w3.heap.size ≤ w4.heap.size) := HB4.out.size
  have QN_4 : Hid (Box w4 w1.heap.size (.slice a1 s.length c1) (.slice b1 d.length e1) 26) := QN_3.out.keep HB4.out
  have QM_4 : Hid (Box w4 (w1.heap.size + 1) (.slice a2 t.length c2) (.slice b2 f.length e2) 26) := QM_3.out.keep HB4.out
  have QG_4 : Hid (Box w4 w2.heap.size (.slice aG S.length cG) (.slice bG D.length eG) 26) := QG_3.out.keep HB4.out
  have N_4 : Hid (Arr w.heap.size w1.heap.size w4 (.agg #[.slice a1 s.length c1, .slice b1 d.length e1]) s d) := N_3.out.keep HB4.out
  have M_4 : Hid (Arr w.heap.size w1.heap.size w4 (.agg #[.slice a2 t.length c2, .slice b2 f.length e2]) t f) := M_3.out.keep HB4.out
  have G_4 : Hid (Arr (w1.heap.size + 2) w2.heap.size w4 (.agg #[.slice aG S.length cG, .slice bG D.length eG]) S D) := G_3.out.keep HB4.out
  have QW_4 : Hid (Box w4 w3.heap.size (.slice aW S.length cW) (.slice bW D.length eW) 26) := (box_new w3 _ _ _).keep hb
  have LTQW : Hid (w3.heap.size < w4.heap.size) := QW_4.out.lt
  clear QN_3 QM_3 QG_3 N_3 M_3 G_3 QNc0 QNc1 QNd0 QNd1 QMc0 QMc1 QMd0 QMd1 QGc0 QGc1 QGd0 QGd1 hb
  have QNc0 := QN_4.out.c0
  have QNc1 := QN_4.out.c1
  have QNd0 : ∀ o : Obj, (w4.alloc o).cell? ⟨w1.heap.size, 0, none⟩ = some (.slice a1 s.length c1) := fun o => (QN_4.out.keep (bAlloc (Below.refl _ _) o)).c0
  have QNd1 : ∀ o : Obj, (w4.alloc o).cell? ⟨w1.heap.size, 1, none⟩ = some (.slice b1 d.length e1) := fun o => (QN_4.out.keep (bAlloc (Below.refl _ _) o)).c1
  have QMc0 := QM_4.out.c0
  have QMc1 := QM_4.out.c1
  have QMd0 : ∀ o : Obj, (w4.alloc o).cell? ⟨(w1.heap.size + 1), 0, none⟩ = some (.slice a2 t.length c2) := fun o => (QM_4.out.keep (bAlloc (Below.refl _ _) o)).c0
  have QMd1 : ∀ o : Obj, (w4.alloc o).cell? ⟨(w1.heap.size + 1), 1, none⟩ = some (.slice b2 f.length e2) := fun o => (QM_4.out.keep (bAlloc (Below.refl _ _) o)).c1
  have QGc0 := QG_4.out.c0
  have QGc1 := QG_4.out.c1
  have QGd0 : ∀ o : Obj, (w4.alloc o).cell? ⟨w2.heap.size, 0, none⟩ = some (.slice aG S.length cG) := fun o => (QG_4.out.keep (bAlloc (Below.refl _ _) o)).c0
  have QGd1 : ∀ o : Obj, (w4.alloc o).cell? ⟨w2.heap.size, 1, none⟩ = some (.slice bG D.length eG) := fun o => (QG_4.out.keep (bAlloc (Below.refl _ _) o)).c1
  have QWc0 := QW_4.out.c0
  have QWc1 := QW_4.out.c1
  have QWd0 : ∀ o : Obj, (w4.alloc o).cell? ⟨w3.heap.size, 0, none⟩ = some (.slice aW S.length cW) := fun o => (QW_4.out.keep (bAlloc (Below.refl _ _) o)).c0
  have QWd1 : ∀ o : Obj, (w4.alloc o).cell? ⟨w3.heap.size, 1, none⟩ = some (.slice bW D.length eW) := fun o => (QW_4.out.keep (bAlloc (Below.refl _ _) o)).c1
  go_wp2_with fail
  refine (E3.out _ _ ((N_4.out.arrI).keep (bAlloc (Below.refl _ _) _)) _ ((M_4.out.arrI).keep (bAlloc (Below.refl _ _) _))).mono ?_
  rintro r w5 ⟨vY, rfl, ha, hb⟩
  obtain ⟨aY, cY, bY, eY, rfl, _, _, _, _⟩ := ha.arrI
  have Y_5 : Hid (Arr (w4.heap.size + 1) w5.heap.size w5 (.agg #[.slice aY S2.length cY, .slice bY D2.length eY]) S2 D2) := ha.mono (by first | exact Nat.le_refl _ | simp | (simp; omega)) (Nat.le_refl _)
  clear ha
  have HB5 : Hid (Below w4.heap.size w4 w5) := bTrans (bAlloc (Below.refl _ _) _) hb
  have HT5 : Hid (Below w.heap.size w w5) := bTrans HT4.out HB5.out
  have SZ5 : Hid (w4.heap.size ≤ w5.heap.size) := HB5.out.size
  have QN_5 : Hid (Box w5 w1.heap.size (.slice a1 s.length c1) (.slice b1 d.length e1) 26) := QN_4.out.keep HB5.out
  have QM_5 : Hid (Box w5 (w1.heap.size + 1) (.slice a2 t.length c2) (.slice b2 f.length e2) 26) := QM_4.out.keep HB5.out
  have QG_5 : Hid (Box w5 w2.heap.size (.slice aG S.length cG) (.slice bG D.length eG) 26) := QG_4.out.keep HB5.out
  have QW_5 : Hid (Box w5 w3.heap.size (.slice aW S.length cW) (.slice bW D.length eW) 26) := QW_4.out.keep HB5.out
  have N_5 : Hid (Arr w.heap.size w1.heap.size w5 (.agg #[.slice a1 s.length c1, .slice b1 d.length e1]) s d) := N_4.out.keep HB5.out
  have M_5 : Hid (Arr w.heap.size w1.heap.size w5 (.agg #[.slice a2 t.length c2, .slice b2 f.length e2]) t f) := M_4.out.keep HB5.out
  have G_5 : Hid (Arr (w1.heap.size + 2) w2.heap.size w5 (.agg #[.slice aG S.length cG, .slice bG D.length eG]) S D) := G_4.out.keep HB5.out
  have X_5 : Hid (Arr (w3.heap.size + 1) w4.heap.size w5 (.agg #[.slice aX S2.length cX, .slice bX D2.length eX]) S2 D2) := X_4.out.keep HB5.out
  have QX_5 : Hid (Box w5 w4.heap.size (.slice aX S2.length cX) (.slice bX D2.length eX) 26) := (box_new w4 _ _ _).keep hb
  have LTQX : Hid (w4.heap.size < w5.heap.size) := QX_5.out.lt
  clear QN_4 QM_4 QG_4 QW_4 N_4 M_4 G_4 X_4 QNc0 QNc1 QNd0 QNd1 QMc0 QMc1 QMd0 QMd1 QGc0 QGc1 QGd0 QGd1 QWc0 QWc1 QWd0 QWd1 hb
  have QNc0 := QN_5.out.c0
  have QNc1 := QN_5.out.c1
  have QNd0 : ∀ o : Obj, (w5.alloc o).cell? ⟨w1.heap.size, 0, none⟩ = some (.slice a1 s.length c1) := fun o => (QN_5.out.keep (bAlloc (Below.refl _ _) o)).c0
  have QNd1 : ∀ o : Obj, (w5.alloc o).cell? ⟨w1.heap.size, 1, none⟩ = some (.slice b1 d.length e1) := fun o => (QN_5.out.keep (bAlloc (Below.refl _ _) o)).c1
  have QMc0 := QM_5.out.c0
  have QMc1 := QM_5.out.c1
  have QMd0 : ∀ o : Obj, (w5.alloc o).cell? ⟨(w1.heap.size + 1), 0, none⟩ = some (.slice a2 t.length c2) := fun o => (QM_5.out.keep (bAlloc (Below.refl _ _) o)).c0
  have QMd1 : ∀ o : Obj, (w5.alloc o).cell? ⟨(w1.heap.size + 1), 1, none⟩ = some (.slice b2 f.length e2) := fun o => (QM_5.out.keep (bAlloc (Below.refl _ _) o)).c1
  have QGc0 := QG_5.out.c0
  have QGc1 := QG_5.out.c1
  have QGd0 : ∀ o : Obj, (w5.alloc o).cell? ⟨w2.heap.size, 0, none⟩ = some (.slice aG S.length cG) := fun o => (QG_5.out.keep (bAlloc (Below.refl _ _) o)).c0
  have QGd1 : ∀ o : Obj, (w5.alloc o).cell? ⟨w2.heap.size, 1, none⟩ = some (.slice bG D.length eG) := fun o => (QG_5.out.keep (bAlloc (Below.refl _ _) o)).c1
  have QWc0 := QW_5.out.c0
  have QWc1 := QW_5.out.c1
  have QWd0 : ∀ o : Obj, (w5.alloc o).cell? ⟨w3.heap.size, 0, none⟩ = some (.slice aW S.length cW) := fun o => (QW_5.out.keep (bAlloc (Below.refl _ _) o)).c0
  have QWd1 : ∀ o : Obj, (w5.alloc o).cell? ⟨w3.heap.size, 1, none⟩ = some (.slice bW D.length eW) := fun o => (QW_5.out.keep (bAlloc (Below.refl _ _) o)).c1
  have QXc0 := QX_5.out.c0
  have QXc1 := QX_5.out.c1
  have QXd0 : ∀ o : Obj, (w5.alloc o).cell? ⟨w4.heap.size, 0, none⟩ = some (.slice aX S2.length cX) := fun o => (QX_5.out.keep (bAlloc (Below.refl _ _) o)).c0
  have QXd1 : ∀ o : Obj, (w5.alloc o).cell? ⟨w4.heap.size, 1, none⟩ = some (.slice bX D2.length eX) := fun o => (QX_5.out.keep (bAlloc (Below.refl _ _) o)).c1
  by_cases hc : C = 0
  · obtain ⟨hd1, rfl, ⟨tl, hS'⟩, ⟨x1, x2⟩, ht3, hmore, hless⟩ := FG.out hc
    subst hc
    have HSE : Hid (S = manyV (d.getD 0 0) :: tl) := hS'
    have HT3 : Hid (0 < t.length → 0 ≤ t.getD 0 0 ∧ t.getD 0 0 ≤ 300) := ht3
    have HMORE : Hid (haveV t < manyV (d.getD 0 0) → D2.length = 0) := hmore
    have HLESS : Hid (manyV (d.getD 0 0) ≤ haveV t → D.length + D2.length ≤ 1048576 ∧ (0 ≤ d.getD 0 0 → D ++ D2 = f) ∧ (d.getD 0 0 < 0 → D2 ++ D = f)) := hless
    clear hS' ht3 hmore hless FG FB
    obtain ⟨_, _, _, _, ev, _, i1, _, _⟩ := N_5.out.arrI
    cases ev
    obtain ⟨_, _, _, _, ev, i2, _, _, _⟩ := G_5.out.arrI
    cases ev
    have L0 : 0 < d.length := by omega
    have L0i : (0 : Int) < (d.length : Int) := by omega
    have L1 : 0 < S.length := by rw [HSE.out]; simp
    have L1i : (0 : Int) < (S.length : Int) := by omega
    obtain ⟨p1, o1, rfl, hp1, t1⟩ := i1.at L0
    obtain ⟨p2, o2, rfl, hp2, t2⟩ := i2.at L1
    have hS0 : S.getD 0 0 = manyV (d.getD 0 0) := by rw [HSE.out]; rfl
    rw [hS0] at t2
    rw [Nat.add_zero] at t1 t2
    have t1d : ∀ o : Obj, (w5.alloc o).cell? ⟨p1, o1, none⟩ = some (.int .i64 (d.getD 0 0)) := fun o => ((bAlloc (Below.refl w5.heap.size w5) o).cell (p := ⟨p1, o1, none⟩) hp1).trans t1
    have t2d : ∀ o : Obj, (w5.alloc o).cell? ⟨p2, o2, none⟩ = some (.int .i64 (manyV (d.getD 0 0))) := fun o => ((bAlloc (Below.refl w5.heap.size w5) o).cell (p := ⟨p2, o2, none⟩) hp2).trans t2
    generalize d.getD 0 0 = x at *
    obtain ⟨N, hN⟩ : ∃ N, N = manyV x := ⟨_, rfl⟩
    rw [← hN] at t2 t2d HMORE HLESS
    have n1 : 0 ≤ N := by rw [hN]; unfold manyV; split <;> omega
    have n2 : N ≤ 1000000000000 := by rw [hN]; unfold manyV; split <;> omega
    clear i1 i2 hS0 HSE
    by_cases hx : x < 0
    · have hNx : N = 0 - x := by rw [hN]; unfold manyV; split <;> omega
      have hx0 : x < 0 := hx
      clear hN
      by_cases ht : t = []
      · obtain ⟨H, hH⟩ : ∃ H, H = haveV t := ⟨_, rfl⟩
        have hH1 : H = 1 := by rw [hH, ht]; rfl
        have hl0 : t.length = 0 := by rw [ht]; rfl
        clear ht HT3
        subst hH1
        by_cases hm : 1 < N
        · have hgt : 1 < N := by omega
          have hl2 : D2.length = 0 := HMORE.out (by rw [← hH]; exact hgt)
          go_wp2
          go_ret
          exact ⟨rfl, bTrans HT5.out (bAlloc (Below.refl _ _) _)⟩
        · have hng : ¬ 1 < N := by omega
          have hle : N ≤ 1 := by omega
          obtain ⟨hbd, h1, h2⟩ := HLESS.out (by rw [← hH]; exact hle)
          have HE : Hid (D2 ++ D = f) := h2 hx
          have HBD : Hid (D.length + D2.length ≤ 1048576) := hbd
          clear h1 h2 hbd
          go_wp2_with fail
          generalize hwz : (w5.alloc (.cells #[.slice aY S2.length cY, .slice bY D2.length eY] 26)) = wz
          have BZ : Hid (Below w5.heap.size w5 wz) := by rw [← hwz]; exact bAlloc (Below.refl _ _) _
          have ZM : Hid (ArrI wz (.agg #[.slice a2 t.length c2, .slice b2 f.length e2]) t f) := M_5.out.arrI.keep BZ.out
          have ZG : Hid (ArrI wz (.agg #[.slice (some ⟨p2, o2, none⟩) S.length cG, .slice bG D.length eG]) S D) := G_5.out.arrI.keep BZ.out
          have ZX : Hid (ArrI wz (.agg #[.slice aX S2.length cX, .slice bX D2.length eX]) S2 D2) := X_5.out.arrI.keep BZ.out
          have QMz : Hid (Box wz (w1.heap.size + 1) (.slice a2 t.length c2) (.slice b2 f.length e2) 26) := QM_5.out.keep BZ.out
          have QGz : Hid (Box wz w2.heap.size (.slice (some ⟨p2, o2, none⟩) S.length cG) (.slice bG D.length eG) 26) := QG_5.out.keep BZ.out
          have QXz : Hid (Box wz w4.heap.size (.slice aX S2.length cX) (.slice bX D2.length eX) 26) := QX_5.out.keep BZ.out
          have HTz : Hid (Below w.heap.size w wz) := bTrans HT5.out BZ.out
          clear hwz BZ QNc0 QNc1 QNd0 QNd1 QMc0 QMc1 QMd0 QMd1 QGc0 QGc1 QGd0 QGd1 QWc0 QWc1 QWd0 QWd1 QXc0 QXc1 QXd0 QXd1 t1 t2 t1d t2d
          have m3 := QMz.out.c1
          have m5 := QGz.out.c1
          have m7 := QXz.out.c1
          obtain ⟨_, _, _, _, ev, _, j1, _, _⟩ := ZG.out
          cases ev
          have IG : Hid (Ints wz bG D) := j1
          clear j1
          obtain ⟨_, _, _, _, ev, _, j1, _, _⟩ := ZX.out
          cases ev
          have IX : Hid (Ints wz bX D2) := j1
          clear j1
          obtain ⟨_, _, _, _, ev, _, j1, _, _⟩ := ZM.out
          cases ev
          have IM : Hid (Ints wz b2 f) := j1
          clear j1
          obtain ⟨ta, tc, v1, ua, uc, v2, r1, r2, k1, k2, k3, _⟩ := two_appends (V := wz.drew) (IG.out.keep ((Below.refl _ _).drew)) (IX.out.keep ((Below.refl _ _).drew)) HBD.out eG eX
          have R1 : Hid (_ = _) := r1
          have R2 : Hid (_ = _) := r2
          have K1 : Hid (Below wz.heap.size wz v1) := bTrans ((Below.refl wz.heap.size wz).drew) k1
          have K2 : Hid (Below wz.heap.size wz v2) := bTrans ((Below.refl wz.heap.size wz).drew) k2
          have K3 : Hid (Ints v2 ua (D ++ D2)) := k3
          clear r1 r2 k1 k2 k3
          have z0 : (World.drew wz).cell? ⟨w2.heap.size, 1, none⟩ = some (.slice bG D.length eG) := QGz.out.c1
          have z1 : (World.drew wz).cell? ⟨w4.heap.size, 1, none⟩ = some (.slice bX D2.length eX) := QXz.out.c1
          have nwa := World.new_ne wz ⟨w2.heap.size, 1, none⟩ m5
          have nwb := World.new_ne wz ⟨w4.heap.size, 1, none⟩ m7
          have z2 : ((World.drew wz).alloc (.cells #[] 3)).cell? ⟨w2.heap.size, 1, none⟩ = some (.slice bG D.length eG) := (QGz.out.keep (bAlloc ((Below.refl wz.heap.size wz).drew) _)).c1
          have z3 : ((World.drew wz).alloc (.cells #[] 3)).cell? ⟨w4.heap.size, 1, none⟩ = some (.slice bX D2.length eX) := (QXz.out.keep (bAlloc ((Below.refl wz.heap.size wz).drew) _)).c1
          have z4 := (QGz.out.keep K1.out).c1
          have z5 := (QXz.out.keep K1.out).c1
          have z6 := (QGz.out.keep K2.out).c1
          have z7 := (QXz.out.keep K2.out).c1
          go_wp2_with fail
          go_region_held3 (fun w' => w'.cell? ⟨w2.heap.size, 1, none⟩ = some (.slice bG D.length eG) ∧ w'.cell? ⟨w4.heap.size, 1, none⟩ = some (.slice bX D2.length eX))
            (first | with_reducible exact ⟨z6, z7⟩ | with_reducible exact ⟨z4, z5⟩ | with_reducible exact ⟨m5, m7⟩ | go_keep)
            (first
              | refine step_append_ty (by rfl) (.tmp 103) (.tmp 105) 24 24 (by rfl) _ _ _ (by rfl) (by rfl) R1.out ?_
              | refine step_append_ty (by rfl) (.tmp 106) (.tmp 108) 24 24 (by rfl) _ _ _ (by rfl) (by rfl) R2.out ?_)
          clear z0 z1 z2 z3 z4 z5 z6 z7 nwa nwb
          obtain ⟨vv, hvv⟩ : ∃ y, y = v2 := ⟨_, rfl⟩
          subst hvv
          have KK2 : Hid (Below wz.heap.size wz vv) := K2.out
          have QGv : Hid (Box vv w2.heap.size _ _ 26) := QGz.out.keep KK2.out
          have QXv : Hid (Box vv w4.heap.size _ _ 26) := QXz.out.keep KK2.out
          have QMv : Hid (Box vv (w1.heap.size + 1) _ _ 26) := QMz.out.keep KK2.out
          have IGv : Hid (Ints vv bG D) := IG.out.keep KK2.out
          have IXv : Hid (Ints vv bX D2) := IX.out.keep KK2.out
          clear R1 R2 K1 K2 K3 m3 m5 m7
          have m5 := QGv.out.c1
          have m7 := QXv.out.c1
          have m3 := QMv.out.c1
          obtain ⟨ta, tc, v1, ua, uc, v2, r1, r2, k1, k2, k3, _⟩ := two_appends (V := vv.drew) (IXv.out.keep ((Below.refl _ _).drew)) (IGv.out.keep ((Below.refl _ _).drew)) (by have := HBD.out; omega) eX eG
          have R1 : Hid (_ = _) := r1
          have R2 : Hid (_ = _) := r2
          have K1 : Hid (Below vv.heap.size vv v1) := bTrans ((Below.refl vv.heap.size vv).drew) k1
          have K2 : Hid (Below vv.heap.size vv v2) := bTrans ((Below.refl vv.heap.size vv).drew) k2
          have K3 : Hid (Ints v2 ua (D2 ++ D)) := k3
          clear r1 r2 k1 k2 k3
          have z0 : (World.drew vv).cell? ⟨w4.heap.size, 1, none⟩ = some (.slice bX D2.length eX) := QXv.out.c1
          have z1 : (World.drew vv).cell? ⟨w2.heap.size, 1, none⟩ = some (.slice bG D.length eG) := QGv.out.c1
          have nwa := World.new_ne vv ⟨w4.heap.size, 1, none⟩ m7
          have nwb := World.new_ne vv ⟨w2.heap.size, 1, none⟩ m5
          have z2 : ((World.drew vv).alloc (.cells #[] 3)).cell? ⟨w4.heap.size, 1, none⟩ = some (.slice bX D2.length eX) := (QXv.out.keep (bAlloc ((Below.refl vv.heap.size vv).drew) _)).c1
          have z3 : ((World.drew vv).alloc (.cells #[] 3)).cell? ⟨w2.heap.size, 1, none⟩ = some (.slice bG D.length eG) := (QGv.out.keep (bAlloc ((Below.refl vv.heap.size vv).drew) _)).c1
          have z4 := (QXv.out.keep K1.out).c1
          have z5 := (QGv.out.keep K1.out).c1
          have z6 := (QXv.out.keep K2.out).c1
          have z7 := (QGv.out.keep K2.out).c1
          go_wp2_with fail
          go_region_held3 (fun w' => w'.cell? ⟨w4.heap.size, 1, none⟩ = some (.slice bX D2.length eX) ∧ w'.cell? ⟨w2.heap.size, 1, none⟩ = some (.slice bG D.length eG))
            (first | with_reducible exact ⟨z6, z7⟩ | with_reducible exact ⟨z4, z5⟩ | with_reducible exact ⟨m7, m5⟩ | go_keep)
            (first
              | refine step_append_ty (by rfl) (.tmp 112) (.tmp 114) 24 24 (by rfl) _ _ _ (by rfl) (by rfl) R1.out ?_
              | refine step_append_ty (by rfl) (.tmp 115) (.tmp 117) 24 24 (by rfl) _ _ _ (by rfl) (by rfl) R2.out ?_)
          clear z0 z1 z2 z3 z4 z5 z6 z7 nwa nwb
          have BF : Hid (Below wz.heap.size wz v2) := bTrans KK2.out K2.out
          have QMf : Hid (Box v2 (w1.heap.size + 1) (.slice a2 t.length c2) (.slice b2 f.length e2) 26) := QMz.out.keep BF.out
          have SI : Hid (Calls Try.prog 15 #[.slice ua (D2.length + D.length) uc, .slice b2 f.length e2] v2 fun e w' => e = .returned (.bool true) ∧ Below v2.heap.size v2 w') := by
            have q := same_ints uc e2 (by rw [HE.out]; have := Lf.out; omega) K3.out (IM.out.keep BF.out)
            rw [List.length_append] at q
            refine Calls.mono q ?_
            rintro r w' ⟨rfl, n, rfl⟩
            exact ⟨by simp [HE.out], bDrewN (Below.refl _ _) n⟩
          clear m3
          have m3 := QMf.out.c1
          go_wp2_with fail
          refine (SI.out).mono ?_
          rintro r wn ⟨rfl, hb⟩
          have CN : Hid (Below v2.heap.size v2 wn) := hb
          clear hb
          go_wp2
          go_ret
          exact ⟨rfl, bTrans HTz.out (bTrans BF.out CN.out)⟩
      · obtain ⟨H, hH⟩ : ∃ H, H = haveV t := ⟨_, rfl⟩
        have hH1 : t.getD 0 0 = H := by rw [hH]; unfold haveV; rw [if_neg ht]
        have hl0 : 0 < t.length := List.length_pos_iff.2 ht
        have hl0i : (0 : Int) < (t.length : Int) := by omega
        obtain ⟨g1, g2⟩ := HT3.out hl0
        obtain ⟨_, _, _, _, ev, j0, _, _, _⟩ := M_5.out.arrI
        cases ev
        obtain ⟨p3, o3, rfl, hp3, t3⟩ := j0.at hl0
        rw [Nat.add_zero, hH1] at t3
        have t3d : ∀ o : Obj, (w5.alloc o).cell? ⟨p3, o3, none⟩ = some (.int .i64 H) := fun o => ((bAlloc (Below.refl w5.heap.size w5) o).cell (p := ⟨p3, o3, none⟩) hp3).trans t3
        rw [hH1] at g1 g2
        clear j0 ht HT3 hH1
        by_cases hm : H < N
        · have hgt : H < N := by omega
          have hl2 : D2.length = 0 := HMORE.out (by rw [← hH]; exact hgt)
          go_wp2
          go_ret
          exact ⟨rfl, bTrans HT5.out (bAlloc (Below.refl _ _) _)⟩
        · have hng : ¬ H < N := by omega
          have hle : N ≤ H := by omega
          obtain ⟨hbd, h1, h2⟩ := HLESS.out (by rw [← hH]; exact hle)
          have HE : Hid (D2 ++ D = f) := h2 hx
          have HBD : Hid (D.length + D2.length ≤ 1048576) := hbd
          clear h1 h2 hbd
          go_wp2_with fail
          generalize hwz : (w5.alloc (.cells #[.slice aY S2.length cY, .slice bY D2.length eY] 26)) = wz
          have BZ : Hid (Below w5.heap.size w5 wz) := by rw [← hwz]; exact bAlloc (Below.refl _ _) _
          have ZM : Hid (ArrI wz (.agg #[.slice (some ⟨p3, o3, none⟩) t.length c2, .slice b2 f.length e2]) t f) := M_5.out.arrI.keep BZ.out
          have ZG : Hid (ArrI wz (.agg #[.slice (some ⟨p2, o2, none⟩) S.length cG, .slice bG D.length eG]) S D) := G_5.out.arrI.keep BZ.out
          have ZX : Hid (ArrI wz (.agg #[.slice aX S2.length cX, .slice bX D2.length eX]) S2 D2) := X_5.out.arrI.keep BZ.out
          have QMz : Hid (Box wz (w1.heap.size + 1) (.slice (some ⟨p3, o3, none⟩) t.length c2) (.slice b2 f.length e2) 26) := QM_5.out.keep BZ.out
          have QGz : Hid (Box wz w2.heap.size (.slice (some ⟨p2, o2, none⟩) S.length cG) (.slice bG D.length eG) 26) := QG_5.out.keep BZ.out
          have QXz : Hid (Box wz w4.heap.size (.slice aX S2.length cX) (.slice bX D2.length eX) 26) := QX_5.out.keep BZ.out
          have HTz : Hid (Below w.heap.size w wz) := bTrans HT5.out BZ.out
          clear hwz BZ QNc0 QNc1 QNd0 QNd1 QMc0 QMc1 QMd0 QMd1 QGc0 QGc1 QGd0 QGd1 QWc0 QWc1 QWd0 QWd1 QXc0 QXc1 QXd0 QXd1 t1 t2 t1d t2d
          have m3 := QMz.out.c1
          have m5 := QGz.out.c1
          have m7 := QXz.out.c1
          clear t3 t3d
          obtain ⟨_, _, _, _, ev, _, j1, _, _⟩ := ZG.out
          cases ev
          have IG : Hid (Ints wz bG D) := j1
          clear j1
          obtain ⟨_, _, _, _, ev, _, j1, _, _⟩ := ZX.out
          cases ev
          have IX : Hid (Ints wz bX D2) := j1
          clear j1
          obtain ⟨_, _, _, _, ev, _, j1, _, _⟩ := ZM.out
          cases ev
          have IM : Hid (Ints wz b2 f) := j1
          clear j1
          obtain ⟨ta, tc, v1, ua, uc, v2, r1, r2, k1, k2, k3, _⟩ := two_appends (V := wz.drew) (IG.out.keep ((Below.refl _ _).drew)) (IX.out.keep ((Below.refl _ _).drew)) HBD.out eG eX
          have R1 : Hid (_ = _) := r1
          have R2 : Hid (_ = _) := r2
          have K1 : Hid (Below wz.heap.size wz v1) := bTrans ((Below.refl wz.heap.size wz).drew) k1
          have K2 : Hid (Below wz.heap.size wz v2) := bTrans ((Below.refl wz.heap.size wz).drew) k2
          have K3 : Hid (Ints v2 ua (D ++ D2)) := k3
          clear r1 r2 k1 k2 k3
          have z0 : (World.drew wz).cell? ⟨w2.heap.size, 1, none⟩ = some (.slice bG D.length eG) := QGz.out.c1
          have z1 : (World.drew wz).cell? ⟨w4.heap.size, 1, none⟩ = some (.slice bX D2.length eX) := QXz.out.c1
          have nwa := World.new_ne wz ⟨w2.heap.size, 1, none⟩ m5
          have nwb := World.new_ne wz ⟨w4.heap.size, 1, none⟩ m7
          have z2 : ((World.drew wz).alloc (.cells #[] 3)).cell? ⟨w2.heap.size, 1, none⟩ = some (.slice bG D.length eG) := (QGz.out.keep (bAlloc ((Below.refl wz.heap.size wz).drew) _)).c1
          have z3 : ((World.drew wz).alloc (.cells #[] 3)).cell? ⟨w4.heap.size, 1, none⟩ = some (.slice bX D2.length eX) := (QXz.out.keep (bAlloc ((Below.refl wz.heap.size wz).drew) _)).c1
          have z4 := (QGz.out.keep K1.out).c1
          have z5 := (QXz.out.keep K1.out).c1
          have z6 := (QGz.out.keep K2.out).c1
          have z7 := (QXz.out.keep K2.out).c1
          go_wp2_with fail
          go_region_held3 (fun w' => w'.cell? ⟨w2.heap.size, 1, none⟩ = some (.slice bG D.length eG) ∧ w'.cell? ⟨w4.heap.size, 1, none⟩ = some (.slice bX D2.length eX))
            (first | with_reducible exact ⟨z6, z7⟩ | with_reducible exact ⟨z4, z5⟩ | with_reducible exact ⟨m5, m7⟩ | go_keep)
            (first
              | refine step_append_ty (by rfl) (.tmp 103) (.tmp 105) 24 24 (by rfl) _ _ _ (by rfl) (by rfl) R1.out ?_
              | refine step_append_ty (by rfl) (.tmp 106) (.tmp 108) 24 24 (by rfl) _ _ _ (by rfl) (by rfl) R2.out ?_)
          clear z0 z1 z2 z3 z4 z5 z6 z7 nwa nwb
          obtain ⟨vv, hvv⟩ : ∃ y, y = v2 := ⟨_, rfl⟩
          subst hvv
          have KK2 : Hid (Below wz.heap.size wz vv) := K2.out
          have QGv : Hid (Box vv w2.heap.size _ _ 26) := QGz.out.keep KK2.out
          have QXv : Hid (Box vv w4.heap.size _ _ 26) := QXz.out.keep KK2.out
          have QMv : Hid (Box vv (w1.heap.size + 1) _ _ 26) := QMz.out.keep KK2.out
          have IGv : Hid (Ints vv bG D) := IG.out.keep KK2.out
          have IXv : Hid (Ints vv bX D2) := IX.out.keep KK2.out
          clear R1 R2 K1 K2 K3 m3 m5 m7
          have m5 := QGv.out.c1
          have m7 := QXv.out.c1
          have m3 := QMv.out.c1
          obtain ⟨ta, tc, v1, ua, uc, v2, r1, r2, k1, k2, k3, _⟩ := two_appends (V := vv.drew) (IXv.out.keep ((Below.refl _ _).drew)) (IGv.out.keep ((Below.refl _ _).drew)) (by have := HBD.out; omega) eX eG
          have R1 : Hid (_ = _) := r1
          have R2 : Hid (_ = _) := r2
          have K1 : Hid (Below vv.heap.size vv v1) := bTrans ((Below.refl vv.heap.size vv).drew) k1
          have K2 : Hid (Below vv.heap.size vv v2) := bTrans ((Below.refl vv.heap.size vv).drew) k2
          have K3 : Hid (Ints v2 ua (D2 ++ D)) := k3
          clear r1 r2 k1 k2 k3
          have z0 : (World.drew vv).cell? ⟨w4.heap.size, 1, none⟩ = some (.slice bX D2.length eX) := QXv.out.c1
          have z1 : (World.drew vv).cell? ⟨w2.heap.size, 1, none⟩ = some (.slice bG D.length eG) := QGv.out.c1
          have nwa := World.new_ne vv ⟨w4.heap.size, 1, none⟩ m7
          have nwb := World.new_ne vv ⟨w2.heap.size, 1, none⟩ m5
          have z2 : ((World.drew vv).alloc (.cells #[] 3)).cell? ⟨w4.heap.size, 1, none⟩ = some (.slice bX D2.length eX) := (QXv.out.keep (bAlloc ((Below.refl vv.heap.size vv).drew) _)).c1
          have z3 : ((World.drew vv).alloc (.cells #[] 3)).cell? ⟨w2.heap.size, 1, none⟩ = some (.slice bG D.length eG) := (QGv.out.keep (bAlloc ((Below.refl vv.heap.size vv).drew) _)).c1
          have z4 := (QXv.out.keep K1.out).c1
          have z5 := (QGv.out.keep K1.out).c1
          have z6 := (QXv.out.keep K2.out).c1
          have z7 := (QGv.out.keep K2.out).c1
          go_wp2_with fail
          go_region_held3 (fun w' => w'.cell? ⟨w4.heap.size, 1, none⟩ = some (.slice bX D2.length eX) ∧ w'.cell? ⟨w2.heap.size, 1, none⟩ = some (.slice bG D.length eG))
            (first | with_reducible exact ⟨z6, z7⟩ | with_reducible exact ⟨z4, z5⟩ | with_reducible exact ⟨m7, m5⟩ | go_keep)
            (first
              | refine step_append_ty (by rfl) (.tmp 112) (.tmp 114) 24 24 (by rfl) _ _ _ (by rfl) (by rfl) R1.out ?_
              | refine step_append_ty (by rfl) (.tmp 115) (.tmp 117) 24 24 (by rfl) _ _ _ (by rfl) (by rfl) R2.out ?_)
          clear z0 z1 z2 z3 z4 z5 z6 z7 nwa nwb
          have BF : Hid (Below wz.heap.size wz v2) := bTrans KK2.out K2.out
          have QMf : Hid (Box v2 (w1.heap.size + 1) (.slice (some ⟨p3, o3, none⟩) t.length c2) (.slice b2 f.length e2) 26) := QMz.out.keep BF.out
          have SI : Hid (Calls Try.prog 15 #[.slice ua (D2.length + D.length) uc, .slice b2 f.length e2] v2 fun e w' => e = .returned (.bool true) ∧ Below v2.heap.size v2 w') := by
            have q := same_ints uc e2 (by rw [HE.out]; have := Lf.out; omega) K3.out (IM.out.keep BF.out)
            rw [List.length_append] at q
            refine Calls.mono q ?_
            rintro r w' ⟨rfl, n, rfl⟩
            exact ⟨by simp [HE.out], bDrewN (Below.refl _ _) n⟩
          clear m3
          have m3 := QMf.out.c1
          go_wp2_with fail
          refine (SI.out).mono ?_
          rintro r wn ⟨rfl, hb⟩
          have CN : Hid (Below v2.heap.size v2 wn) := hb
          clear hb
          go_wp2
          go_ret
          exact ⟨rfl, bTrans HTz.out (bTrans BF.out CN.out)⟩
    · have hNx : N = x := by rw [hN]; unfold manyV; split <;> omega
      clear hN
      subst hNx
      have hx0 : ¬ N < 0 := by omega
      by_cases ht : t = []
      · obtain ⟨H, hH⟩ : ∃ H, H = haveV t := ⟨_, rfl⟩
        have hH1 : H = 1 := by rw [hH, ht]; rfl
        have hl0 : t.length = 0 := by rw [ht]; rfl
        clear ht HT3
        subst hH1
        by_cases hm : 1 < N
        · have hgt : 1 < N := by omega
          have hl2 : D2.length = 0 := HMORE.out (by rw [← hH]; exact hgt)
          go_wp2
          go_ret
          exact ⟨rfl, bTrans HT5.out (bAlloc (Below.refl _ _) _)⟩
        · have hng : ¬ 1 < N := by omega
          have hle : N ≤ 1 := by omega
          obtain ⟨hbd, h1, h2⟩ := HLESS.out (by rw [← hH]; exact hle)
          have HE : Hid (D ++ D2 = f) := h1 (by omega)
          have HBD : Hid (D.length + D2.length ≤ 1048576) := hbd
          clear h1 h2 hbd
          go_wp2_with fail
          generalize hwz : (w5.alloc (.cells #[.slice aY S2.length cY, .slice bY D2.length eY] 26)) = wz
          have BZ : Hid (Below w5.heap.size w5 wz) := by rw [← hwz]; exact bAlloc (Below.refl _ _) _
          have ZM : Hid (ArrI wz (.agg #[.slice a2 t.length c2, .slice b2 f.length e2]) t f) := M_5.out.arrI.keep BZ.out
          have ZG : Hid (ArrI wz (.agg #[.slice (some ⟨p2, o2, none⟩) S.length cG, .slice bG D.length eG]) S D) := G_5.out.arrI.keep BZ.out
          have ZX : Hid (ArrI wz (.agg #[.slice aX S2.length cX, .slice bX D2.length eX]) S2 D2) := X_5.out.arrI.keep BZ.out
          have QMz : Hid (Box wz (w1.heap.size + 1) (.slice a2 t.length c2) (.slice b2 f.length e2) 26) := QM_5.out.keep BZ.out
          have QGz : Hid (Box wz w2.heap.size (.slice (some ⟨p2, o2, none⟩) S.length cG) (.slice bG D.length eG) 26) := QG_5.out.keep BZ.out
          have QXz : Hid (Box wz w4.heap.size (.slice aX S2.length cX) (.slice bX D2.length eX) 26) := QX_5.out.keep BZ.out
          have HTz : Hid (Below w.heap.size w wz) := bTrans HT5.out BZ.out
          clear hwz BZ QNc0 QNc1 QNd0 QNd1 QMc0 QMc1 QMd0 QMd1 QGc0 QGc1 QGd0 QGd1 QWc0 QWc1 QWd0 QWd1 QXc0 QXc1 QXd0 QXd1 t1 t2 t1d t2d
          have m3 := QMz.out.c1
          have m5 := QGz.out.c1
          have m7 := QXz.out.c1
          obtain ⟨_, _, _, _, ev, _, j1, _, _⟩ := ZG.out
          cases ev
          have IG : Hid (Ints wz bG D) := j1
          clear j1
          obtain ⟨_, _, _, _, ev, _, j1, _, _⟩ := ZX.out
          cases ev
          have IX : Hid (Ints wz bX D2) := j1
          clear j1
          obtain ⟨_, _, _, _, ev, _, j1, _, _⟩ := ZM.out
          cases ev
          have IM : Hid (Ints wz b2 f) := j1
          clear j1
          obtain ⟨ta, tc, v1, ua, uc, v2, r1, r2, k1, k2, k3, _⟩ := two_appends (V := wz.drew) (IG.out.keep ((Below.refl _ _).drew)) (IX.out.keep ((Below.refl _ _).drew)) HBD.out eG eX
          have R1 : Hid (_ = _) := r1
          have R2 : Hid (_ = _) := r2
          have K1 : Hid (Below wz.heap.size wz v1) := bTrans ((Below.refl wz.heap.size wz).drew) k1
          have K2 : Hid (Below wz.heap.size wz v2) := bTrans ((Below.refl wz.heap.size wz).drew) k2
          have K3 : Hid (Ints v2 ua (D ++ D2)) := k3
          clear r1 r2 k1 k2 k3
          have z0 : (World.drew wz).cell? ⟨w2.heap.size, 1, none⟩ = some (.slice bG D.length eG) := QGz.out.c1
          have z1 : (World.drew wz).cell? ⟨w4.heap.size, 1, none⟩ = some (.slice bX D2.length eX) := QXz.out.c1
          have nwa := World.new_ne wz ⟨w2.heap.size, 1, none⟩ m5
          have nwb := World.new_ne wz ⟨w4.heap.size, 1, none⟩ m7
          have z2 : ((World.drew wz).alloc (.cells #[] 3)).cell? ⟨w2.heap.size, 1, none⟩ = some (.slice bG D.length eG) := (QGz.out.keep (bAlloc ((Below.refl wz.heap.size wz).drew) _)).c1
          have z3 : ((World.drew wz).alloc (.cells #[] 3)).cell? ⟨w4.heap.size, 1, none⟩ = some (.slice bX D2.length eX) := (QXz.out.keep (bAlloc ((Below.refl wz.heap.size wz).drew) _)).c1
          have z4 := (QGz.out.keep K1.out).c1
          have z5 := (QXz.out.keep K1.out).c1
          have z6 := (QGz.out.keep K2.out).c1
          have z7 := (QXz.out.keep K2.out).c1
          go_wp2_with fail
          go_region_held3 (fun w' => w'.cell? ⟨w2.heap.size, 1, none⟩ = some (.slice bG D.length eG) ∧ w'.cell? ⟨w4.heap.size, 1, none⟩ = some (.slice bX D2.length eX))
            (first | with_reducible exact ⟨z6, z7⟩ | with_reducible exact ⟨z4, z5⟩ | with_reducible exact ⟨m5, m7⟩ | go_keep)
            (first
              | refine step_append_ty (by rfl) (.tmp 103) (.tmp 105) 24 24 (by rfl) _ _ _ (by rfl) (by rfl) R1.out ?_
              | refine step_append_ty (by rfl) (.tmp 106) (.tmp 108) 24 24 (by rfl) _ _ _ (by rfl) (by rfl) R2.out ?_)
          clear z0 z1 z2 z3 z4 z5 z6 z7 nwa nwb
          have BF : Hid (Below wz.heap.size wz v2) := K2.out
          have QMf : Hid (Box v2 (w1.heap.size + 1) (.slice a2 t.length c2) (.slice b2 f.length e2) 26) := QMz.out.keep BF.out
          have SI : Hid (Calls Try.prog 15 #[.slice ua (D.length + D2.length) uc, .slice b2 f.length e2] v2 fun e w' => e = .returned (.bool true) ∧ Below v2.heap.size v2 w') := by
            have q := same_ints uc e2 (by rw [HE.out]; have := Lf.out; omega) K3.out (IM.out.keep BF.out)
            rw [List.length_append] at q
            refine Calls.mono q ?_
            rintro r w' ⟨rfl, n, rfl⟩
            exact ⟨by simp [HE.out], bDrewN (Below.refl _ _) n⟩
          clear m3
          have m3 := QMf.out.c1
          go_wp2_with fail
          refine (SI.out).mono ?_
          rintro r wn ⟨rfl, hb⟩
          have CN : Hid (Below v2.heap.size v2 wn) := hb
          clear hb
          go_wp2
          go_ret
          exact ⟨rfl, bTrans HTz.out (bTrans BF.out CN.out)⟩
      · obtain ⟨H, hH⟩ : ∃ H, H = haveV t := ⟨_, rfl⟩
        have hH1 : t.getD 0 0 = H := by rw [hH]; unfold haveV; rw [if_neg ht]
        have hl0 : 0 < t.length := List.length_pos_iff.2 ht
        have hl0i : (0 : Int) < (t.length : Int) := by omega
        obtain ⟨g1, g2⟩ := HT3.out hl0
        obtain ⟨_, _, _, _, ev, j0, _, _, _⟩ := M_5.out.arrI
        cases ev
        obtain ⟨p3, o3, rfl, hp3, t3⟩ := j0.at hl0
        rw [Nat.add_zero, hH1] at t3
        have t3d : ∀ o : Obj, (w5.alloc o).cell? ⟨p3, o3, none⟩ = some (.int .i64 H) := fun o => ((bAlloc (Below.refl w5.heap.size w5) o).cell (p := ⟨p3, o3, none⟩) hp3).trans t3
        rw [hH1] at g1 g2
        clear j0 ht HT3 hH1
        by_cases hm : H < N
        · have hgt : H < N := by omega
          have hl2 : D2.length = 0 := HMORE.out (by rw [← hH]; exact hgt)
          go_wp2
          go_ret
          exact ⟨rfl, bTrans HT5.out (bAlloc (Below.refl _ _) _)⟩
        · have hng : ¬ H < N := by omega
          have hle : N ≤ H := by omega
          obtain ⟨hbd, h1, h2⟩ := HLESS.out (by rw [← hH]; exact hle)
          have HE : Hid (D ++ D2 = f) := h1 (by omega)
          have HBD : Hid (D.length + D2.length ≤ 1048576) := hbd
          clear h1 h2 hbd
          go_wp2_with fail
          generalize hwz : (w5.alloc (.cells #[.slice aY S2.length cY, .slice bY D2.length eY] 26)) = wz
          have BZ : Hid (Below w5.heap.size w5 wz) := by rw [← hwz]; exact bAlloc (Below.refl _ _) _
          have ZM : Hid (ArrI wz (.agg #[.slice (some ⟨p3, o3, none⟩) t.length c2, .slice b2 f.length e2]) t f) := M_5.out.arrI.keep BZ.out
          have ZG : Hid (ArrI wz (.agg #[.slice (some ⟨p2, o2, none⟩) S.length cG, .slice bG D.length eG]) S D) := G_5.out.arrI.keep BZ.out
          have ZX : Hid (ArrI wz (.agg #[.slice aX S2.length cX, .slice bX D2.length eX]) S2 D2) := X_5.out.arrI.keep BZ.out
          have QMz : Hid (Box wz (w1.heap.size + 1) (.slice (some ⟨p3, o3, none⟩) t.length c2) (.slice b2 f.length e2) 26) := QM_5.out.keep BZ.out
          have QGz : Hid (Box wz w2.heap.size (.slice (some ⟨p2, o2, none⟩) S.length cG) (.slice bG D.length eG) 26) := QG_5.out.keep BZ.out
          have QXz : Hid (Box wz w4.heap.size (.slice aX S2.length cX) (.slice bX D2.length eX) 26) := QX_5.out.keep BZ.out
          have HTz : Hid (Below w.heap.size w wz) := bTrans HT5.out BZ.out
          clear hwz BZ QNc0 QNc1 QNd0 QNd1 QMc0 QMc1 QMd0 QMd1 QGc0 QGc1 QGd0 QGd1 QWc0 QWc1 QWd0 QWd1 QXc0 QXc1 QXd0 QXd1 t1 t2 t1d t2d
          have m3 := QMz.out.c1
          have m5 := QGz.out.c1
          have m7 := QXz.out.c1
          clear t3 t3d
          obtain ⟨_, _, _, _, ev, _, j1, _, _⟩ := ZG.out
          cases ev
          have IG : Hid (Ints wz bG D) := j1
          clear j1
          obtain ⟨_, _, _, _, ev, _, j1, _, _⟩ := ZX.out
          cases ev
          have IX : Hid (Ints wz bX D2) := j1
          clear j1
          obtain ⟨_, _, _, _, ev, _, j1, _, _⟩ := ZM.out
          cases ev
          have IM : Hid (Ints wz b2 f) := j1
          clear j1
          obtain ⟨ta, tc, v1, ua, uc, v2, r1, r2, k1, k2, k3, _⟩ := two_appends (V := wz.drew) (IG.out.keep ((Below.refl _ _).drew)) (IX.out.keep ((Below.refl _ _).drew)) HBD.out eG eX
          have R1 : Hid (_ = _) := r1
          have R2 : Hid (_ = _) := r2
          have K1 : Hid (Below wz.heap.size wz v1) := bTrans ((Below.refl wz.heap.size wz).drew) k1
          have K2 : Hid (Below wz.heap.size wz v2) := bTrans ((Below.refl wz.heap.size wz).drew) k2
          have K3 : Hid (Ints v2 ua (D ++ D2)) := k3
          clear r1 r2 k1 k2 k3
          have z0 : (World.drew wz).cell? ⟨w2.heap.size, 1, none⟩ = some (.slice bG D.length eG) := QGz.out.c1
          have z1 : (World.drew wz).cell? ⟨w4.heap.size, 1, none⟩ = some (.slice bX D2.length eX) := QXz.out.c1
          have nwa := World.new_ne wz ⟨w2.heap.size, 1, none⟩ m5
          have nwb := World.new_ne wz ⟨w4.heap.size, 1, none⟩ m7
          have z2 : ((World.drew wz).alloc (.cells #[] 3)).cell? ⟨w2.heap.size, 1, none⟩ = some (.slice bG D.length eG) := (QGz.out.keep (bAlloc ((Below.refl wz.heap.size wz).drew) _)).c1
          have z3 : ((World.drew wz).alloc (.cells #[] 3)).cell? ⟨w4.heap.size, 1, none⟩ = some (.slice bX D2.length eX) := (QXz.out.keep (bAlloc ((Below.refl wz.heap.size wz).drew) _)).c1
          have z4 := (QGz.out.keep K1.out).c1
          have z5 := (QXz.out.keep K1.out).c1
          have z6 := (QGz.out.keep K2.out).c1
          have z7 := (QXz.out.keep K2.out).c1
          go_wp2_with fail
          go_region_held3 (fun w' => w'.cell? ⟨w2.heap.size, 1, none⟩ = some (.slice bG D.length eG) ∧ w'.cell? ⟨w4.heap.size, 1, none⟩ = some (.slice bX D2.length eX))
            (first | with_reducible exact ⟨z6, z7⟩ | with_reducible exact ⟨z4, z5⟩ | with_reducible exact ⟨m5, m7⟩ | go_keep)
            (first
              | refine step_append_ty (by rfl) (.tmp 103) (.tmp 105) 24 24 (by rfl) _ _ _ (by rfl) (by rfl) R1.out ?_
              | refine step_append_ty (by rfl) (.tmp 106) (.tmp 108) 24 24 (by rfl) _ _ _ (by rfl) (by rfl) R2.out ?_)
          clear z0 z1 z2 z3 z4 z5 z6 z7 nwa nwb
          have BF : Hid (Below wz.heap.size wz v2) := K2.out
          have QMf : Hid (Box v2 (w1.heap.size + 1) (.slice (some ⟨p3, o3, none⟩) t.length c2) (.slice b2 f.length e2) 26) := QMz.out.keep BF.out
          have SI : Hid (Calls Try.prog 15 #[.slice ua (D.length + D2.length) uc, .slice b2 f.length e2] v2 fun e w' => e = .returned (.bool true) ∧ Below v2.heap.size v2 w') := by
            have q := same_ints uc e2 (by rw [HE.out]; have := Lf.out; omega) K3.out (IM.out.keep BF.out)
            rw [List.length_append] at q
            refine Calls.mono q ?_
            rintro r w' ⟨rfl, n, rfl⟩
            exact ⟨by simp [HE.out], bDrewN (Below.refl _ _) n⟩
          clear m3
          have m3 := QMf.out.c1
          go_wp2_with fail
          refine (SI.out).mono ?_
          rintro r wn ⟨rfl, hb⟩
          have CN : Hid (Below v2.heap.size v2 wn) := hb
          clear hb
          go_wp2
          go_ret
          exact ⟨rfl, bTrans HTz.out (bTrans BF.out CN.out)⟩
  · have n0 : (C != 0) = true := by simpa using hc
    have hl : ((D.length : Int) == 0) = true := by rw [FB.out hc]; rfl
    have hl2 : D.length = 0 := FB.out hc
    clear FG FB
    go_wp2
    go_ret
    exact ⟨rfl, bTrans HT5.out (bAlloc (Below.refl _ _) _)⟩

/-! ### THE ROW's STEP: WRITTEN OUT: LEAVE IT -/
set_option maxRecDepth 100000 in
theorem lifted (os : Os) (started : os.Started) (H : Type) (enc : TypeId × Value → H) :
    ReturnsInHanded {} Try.checked os 3 .any (Rows.fnTakenSpec.pre6 enc Try.prog Try.f3 Rows.fnTakenRow.domain false) (Rows.fnTakenSpec.post enc Try.prog Try.f3 false true false false) := by
  refine returnsInHanded_of_change (C := Try.checked) own started (by kernel_rfl) Try.func3
    (ChangeSpec.witness6 (enc := enc) (C := Try.checked) false ⟨#[], #[.slice none 0 0], []⟩ 8 (by kernel_rfl) (by kernel_rfl) (by kernel_rfl) (by kernel_rfl)) ?_
  intro W base args ds gs before hval0 hW hcnd _
  have hval : ∀ (j : Nat) t v, Try.f3.params[j]? = some t → args[j]? = some v → Value.okWide Try.prog W .any base t v := hval0
  have hW' := hW
  obtain ⟨p, q, hA0, hV, rfl, hfz, hnd⟩ := hW
  have hA : DataW.TrodAll enc Try.prog W 0 (fun _ => true) true Try.f3.params.toList args.toList ds p := hA0
  rw [Try.params3] at hA hval
  obtain ⟨v0, vs0, d0, ds0, p0, q0, hargs, rfl, rfl, h0, r0⟩ := trodAll_cons hA
  obtain ⟨rfl, rfl, rfl⟩ := trodAll_nil r0
  obtain rfl : args = #[v0] := by cases args; simp_all
  obtain ⟨rfl, rfl⟩ := trodVars_none hV
  obtain ⟨a0, len0, cap0, rfl⟩ := okWide_slice Try.underlying22 (hval 0 22 v0 rfl rfl)
  have k0 := h0
  have lt0 : ∀ x ∈ p0, x.block < W.heap.size := by obtain ⟨m, hm⟩ := k0; exact DataW.trod_lt m _ _ _ hm
  obtain ⟨z0, w0⟩ : ∃ zs, IsRow .u8 W a0 len0 cap0 zs := by
    obtain ⟨fuel, hf⟩ := h0
    rcases open_ints Try.underlying22 Try.underlying5 (by kernel_rfl) hf with ⟨hcs, _⟩ | ⟨x, l, c, zs, hcs, _, hl, hm, hz, _, hcell, hwz⟩
    · simp [Value.cells] at hcs
      obtain ⟨rfl, rfl, rfl⟩ := hcs
      exact ⟨[], .inl ⟨rfl, rfl, rfl, rfl⟩⟩
    · simp [Value.cells] at hcs
      obtain ⟨rfl, rfl, rfl⟩ := hcs
      exact ⟨zs, .inr ⟨_, rfl, hl, hm, by simpa using hz, hcell, hwz⟩⟩
  clear hA0 hval0
  refine (walk a0 len0 cap0 z0 W w0).mono fun e W' ⟨he, bel⟩ => ?_
  subst he
  exact ⟨_, rfl, _, _, _, [], _, [], hW', trodAll_mk1 (shut_bool Try.underlying4 _), (trodAll_cons_mk (Below.trod laidOut (by kernel_rfl) (of_decide_eq_true (by kernel_rfl)) k0 bel lt0) trodAll_mk0), rfl, bel.frame _, fun h => by cases h⟩

theorem over : Rows.fnTakenRow.holds Try.pinned (OpenSpec.ofChange Rows.fnTakenSpec) :=
  OpenClaim.holds_of_wide 3 Try.f3 rfl rfl rfl rfl rfl rfl rfl ⟨rfl, rfl, rfl, rfl, rfl⟩ rfl rfl rfl rfl rfl (by kernel_rfl) Try.func3 (by kernel_rfl)
    (of_decide_eq_true (by kernel_rfl)) (by unfold Func.isWrapper; first | (rw [if_pos (by decide +kernel)]; kernel_rfl) | (rw [if_neg (by decide +kernel)]; exact ⟨rfl, rfl⟩))
    (fun os started H enc _ => lifted os started H enc)

/-- ████ THE STATEMENT ████ -/
theorem proved : Rows.FnTakenSaid := over
end Go.Proofs.Ytlbmbjgbihljhad.fnTaken
namespace Go.Proofs.Ytlbmbjgbihljhad
theorem fnTaken_holds : Rows.FnTakenSaid := fnTaken.proved
#print axioms fnTaken_holds
end Go.Proofs.Ytlbmbjgbihljhad
