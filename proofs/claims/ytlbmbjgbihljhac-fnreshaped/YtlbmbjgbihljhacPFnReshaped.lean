/-
  Proved: whatever code it is given, the law FnReshaped returns true (a drawn array that is reshaped by the program by its own shape is itself; by any shape it has that shape, and its numbers again and again). No condition.
-/
import Derived.Test.YtlbmbjgbihljhacRows
import Derived.WalkKit
import Derived.ProofKit
import Derived.OpenShut
import Derived.ShutString
import Derived.ChangeOld
import Derived.Below
import Derived.Test.YtlbmbjgbihljhacRavelF
import Derived.Test.YtlbmbjgbihljhacDrawReshape
import Derived.Test.YtlbmbjgbihljhacSpecMake2
import Derived.Test.YtlbmbjgbihljhacSpecMake1
import Derived.Test.YtlbmbjgbihljhacImplMake4
import Derived.Test.YtlbmbjgbihljhacImplMake1
import Derived.Test.YtlbmbjgbihljhacSpecEach1
import Derived.Test.YtlbmbjgbihljhacImplArr3
import Derived.Test.YtlbmbjgbihljhacLaw3
namespace Go.Proofs.Ytlbmbjgbihljhac.fnReshaped
open Go.ChangeShapes Go.WideShapes Go.ChangeAt Go.RowKit
open Go.ChangeMaps (open_string shut_string)
set_option linter.unusedVariables false
set_option linter.unusedSimpArgs false
set_option linter.unusedVariables false

theorem own : ownKnob Try.prog.godebug = none := by kernel_rfl
theorem laidOut : laidOutB Try.prog = true := by kernel_rfl

/-! ### STEP 1: THE WALK: the Go text returns true, AND WRITES NOTHING THAT WAS THERE: 'Below w.heap.size w w'' (Derived/Below.lean: '.refl', '.alloc', '.drew', '.setCell' at a new block, '.trans'). Open each 'IsRow' by 'rcases' AHEAD of 'go_enter'; part every test ahead of the walk. -/
set_option maxRecDepth 20000 in
set_option maxHeartbeats 8000000 in
theorem walk (a0 : Option Addr) (len0 cap0 : Nat) (z0 : List Int) (w : World) (w0 : IsRow .u8 w a0 len0 cap0 z0) :
    Calls Try.prog 5 #[.slice a0 len0 cap0] w fun e w' => e = .returned (.bool true) ∧ Below w.heap.size w w' := by
  have HS : Hid (Src w.heap.size w a0 len0) := src_of_row w0
  clear w0
  by_cases hbig : (1048576 : Int) < (len0 : Int)
  · go_enter Try.func5, Try.ntmps5
    go_wp2_with (go_at_call 9; refine (big_laws _ _ _ _).mono ?_; rintro e w' ⟨rfl, hw⟩; subst w')
    go_ret
    exact ⟨rfl, Below.refl _ _⟩
  have hb20 : len0 ≤ 1048576 := by omega
  go_enter Try.func5, Try.ntmps5
  go_wp2_with (go_at_call 9; refine (big_laws _ _ _ _).mono ?_; rintro e w' ⟨rfl, hw⟩; subst w')
  refine (drawReshape_spec HS.out hb20).mono ?_
  rintro r w1 ⟨v1, v2, s, d, t, f, rfl, ha, hc0, ⟨hls, hld, hlt, hlf⟩, hb⟩
  obtain ⟨a1, c1, b1, e1, rfl, _, _, _, _⟩ := ha.arrI
  obtain ⟨a2, c2, b2, e2, rfl, _, _, _, _⟩ := hc0.arrI
  have N_1 : Hid (Arr w.heap.size w1.heap.size w1 (.agg #[.slice a1 s.length c1, .slice b1 d.length e1]) s d) := ha
  have M_1 : Hid (Arr w.heap.size w1.heap.size w1 (.agg #[.slice a2 t.length c2, .slice b2 f.length e2]) t f) := hc0
  have Ls : Hid (s.length ≤ 1048576) := by show _ ≤ _; omega
  have Ld : Hid (d.length ≤ 1048576) := by show _ ≤ _; omega
  have Lt : Hid (t.length ≤ 1048576) := by show _ ≤ _; omega
  have Lf : Hid (f.length ≤ 1048576) := by show _ ≤ _; omega
  have HT1 : Hid (Below w.heap.size w w1) := hb
  have SZ1 : Hid (w.heap.size ≤ w1.heap.size) := hb.size
  clear hb ha hc0 hls hld hlt hlf
  obtain ⟨C, hC⟩ : ∃ y, y = (reshapeR s d t f).1 := ⟨_, rfl⟩
  obtain ⟨S, hS⟩ : ∃ y, y = (reshapeR s d t f).2.1 := ⟨_, rfl⟩
  obtain ⟨D, hD⟩ : ∃ y, y = (reshapeR s d t f).2.2 := ⟨_, rfl⟩
  obtain ⟨C2, hC2⟩ : ∃ y, y = (shapeOfR t f).1 := ⟨_, rfl⟩
  obtain ⟨S2, hS2⟩ : ∃ y, y = (shapeOfR t f).2.1 := ⟨_, rfl⟩
  obtain ⟨D2, hD2⟩ : ∃ y, y = (shapeOfR t f).2.2 := ⟨_, rfl⟩
  obtain ⟨C3, hC3⟩ : ∃ y, y = (reshapeR S2 D2 t f).1 := ⟨_, rfl⟩
  obtain ⟨S3, hS3⟩ : ∃ y, y = (reshapeR S2 D2 t f).2.1 := ⟨_, rfl⟩
  obtain ⟨D3, hD3⟩ : ∃ y, y = (reshapeR S2 D2 t f).2.2 := ⟨_, rfl⟩
  have LB : Hid (S2.length ≤ 1048576 ∧ D2.length ≤ 1048576) := by show _ ∧ _; rw [hS2, hD2]; exact mkR_len (fun _ => by simp) (fun _ => Lt.out)
  have LA : Hid (S.length ≤ 1048576 ∧ D.length ≤ 1048576) := by show _ ∧ _; rw [hS, hD]; exact mkR_len (fun _ => Ld.out) (fun _ => by have := sizeV_bd d; simp [againD]; omega)
  have EI : Hid (∀ (W : World) (u0 : Value) (_ : ArrI W u0 s d) (u1 : Value) (_ : ArrI W u1 t f), Calls Try.prog 24 #[u0, u1] W fun e w' => ∃ v, e = .returned (.tuple #[v, .int .i64 C]) ∧ Arr W.heap.size w'.heap.size w' v S D ∧ Below W.heap.size W w') := by
    intro W u0 h0 u1 h1
    rw [hC, hS, hD]
    exact reshape_impl h0 h1 Ls.out Ld.out Lt.out Lf.out
  have ES : Hid (∀ (W : World) (u0 : Value) (_ : ArrI W u0 s d) (u1 : Value) (_ : ArrI W u1 t f), Calls Try.prog 25 #[u0, u1] W fun e w' => ∃ v, e = .returned (.tuple #[v, .int .i64 C]) ∧ Arr W.heap.size w'.heap.size w' v S D ∧ Below W.heap.size W w') := by
    intro W u0 h0 u1 h1
    rw [hC, hS, hD]
    exact reshape_spec h0 h1 Ld.out Lf.out
  have E2 : Hid (∀ (W : World) (u0 : Value) (_ : ArrI W u0 t f), Calls Try.prog 26 #[u0] W fun e w' => ∃ v, e = .returned (.tuple #[v, .int .i64 C2]) ∧ Arr W.heap.size w'.heap.size w' v S2 D2 ∧ Below W.heap.size W w') := by
    intro W u0 h0
    rw [hC2, hS2, hD2]
    exact shapeOf_impl h0 Lt.out Lf.out
  have E3 : Hid (∀ (W : World) (u0 : Value) (_ : ArrI W u0 S2 D2) (u1 : Value) (_ : ArrI W u1 t f), Calls Try.prog 24 #[u0, u1] W fun e w' => ∃ v, e = .returned (.tuple #[v, .int .i64 C3]) ∧ Arr W.heap.size w'.heap.size w' v S3 D3 ∧ Below W.heap.size W w') := by
    intro W u0 h0 u1 h1
    rw [hC3, hS3, hD3]
    exact reshape_impl h0 h1 LB.out.1 LB.out.2 Lt.out Lf.out
  have FO : Hid (arrOk t f = true → C2 = 0 ∧ C3 = 0 ∧ S3 = t ∧ D3 = f) := by
    intro ho
    have e2 : shapeOfR t f = (0, [(t.length : Int)], t) := by unfold shapeOfR okC; rw [if_pos ho]; rfl
    rw [e2] at hC2 hS2 hD2
    rw [hS2, hD2, reshape_self ho] at hC3 hS3 hD3
    exact ⟨hC2, hC3, hS3, hD3⟩
  have FG : Hid (C = 0 → arrOk t f = true ∧ S = d ∧ arrOk S D = true ∧ (0 < f.length → ∀ i, i < D.length → D.getD i 0 = f.getD (i % f.length) 0)) := by
    intro h
    rw [hC] at h
    obtain ⟨q1, q2, q3, q4⟩ := reshape_good h
    rw [hS, hD, q2, q3]
    exact ⟨q1, rfl, q4, fun hf i hi => again_at (by rw [again_len] at hi; exact hi) hf⟩
  have FB : Hid (C ≠ 0 → D.length = 0) := by
    intro h
    rw [hD]
    rw [hC] at h
    exact reshape_bad h
  have SA : Hid (∀ (W : World) (u v : Value), ArrI W u t f → ArrI W v S3 D3 → Calls Try.prog 21 #[u, v] W fun e w' => e = .returned (.bool (decide (t = S3) && decide (f = D3))) ∧ Below W.heap.size W w') := fun W u v h k => same_arr h k Lt.out Lf.out
  have OK : Hid (∀ (W : World) (u : Value), ArrI W u t f → Calls Try.prog 20 #[u] W fun e w' => e = .returned (.bool (arrOk t f)) ∧ Below W.heap.size W w') := fun W u h => arrOk_spec h Lf.out
  have hneC : (C != C) = false := by simp
  clear hC hS hD hC2 hS2 hD2 hC3 hS3 hD3
  go_wp2_with fail
  refine (EI.out _ _ ((N_1.out.arrI).keep (bAlloc (bAlloc (Below.refl _ _) _) _)) _ ((M_1.out.arrI).keep (bAlloc (bAlloc (Below.refl _ _) _) _))).mono ?_
  rintro r w2 ⟨vG, rfl, ha, hb⟩
  obtain ⟨aG, cG, bG, eG, rfl, _, _, _, _⟩ := ha.arrI
  have G_2 : Hid (Arr (w1.heap.size + 2) w2.heap.size w2 (.agg #[.slice aG S.length cG, .slice bG D.length eG]) S D) := ha.mono (by first | exact Nat.le_refl _ | simp | (simp; omega)) (Nat.le_refl _)
  clear ha
  have HB2 : Hid (Below w1.heap.size w1 w2) := bTrans (bAlloc (bAlloc (Below.refl _ _) _) _) hb
  have HT2 : Hid (Below w.heap.size w w2) := bTrans HT1.out HB2.out
  have SZ2 : Hid (w1.heap.size ≤ w2.heap.size) := HB2.out.size
  have N_2 : Hid (Arr w.heap.size w1.heap.size w2 (.agg #[.slice a1 s.length c1, .slice b1 d.length e1]) s d) := N_1.out.keep HB2.out
  have M_2 : Hid (Arr w.heap.size w1.heap.size w2 (.agg #[.slice a2 t.length c2, .slice b2 f.length e2]) t f) := M_1.out.keep HB2.out
  have QN_2 : Hid (Box w2 w1.heap.size (.slice a1 s.length c1) (.slice b1 d.length e1) 26) := ((box_new w1 _ _ _).keep (bAlloc (Below.refl _ _) _)).keep hb
  have LTQN : Hid (w1.heap.size < w2.heap.size) := QN_2.out.lt
  have QM_2 : Hid (Box w2 (w1.heap.size + 1) (.slice a2 t.length c2) (.slice b2 f.length e2) 26) := (box_new2 w1 _ _ _ _).keep hb
  have LTQM : Hid ((w1.heap.size + 1) < w2.heap.size) := QM_2.out.lt
  clear N_1 M_1 hb
  have QNc0 := QN_2.out.c0
  have QNc1 := QN_2.out.c1
  have QNd0 : ∀ o : Obj, (w2.alloc o).cell? ⟨w1.heap.size, 0, none⟩ = some (.slice a1 s.length c1) := fun o => (QN_2.out.keep (bAlloc (Below.refl _ _) o)).c0
  have QNd1 : ∀ o : Obj, (w2.alloc o).cell? ⟨w1.heap.size, 1, none⟩ = some (.slice b1 d.length e1) := fun o => (QN_2.out.keep (bAlloc (Below.refl _ _) o)).c1
  have QMc0 := QM_2.out.c0
  have QMc1 := QM_2.out.c1
  have QMd0 : ∀ o : Obj, (w2.alloc o).cell? ⟨(w1.heap.size + 1), 0, none⟩ = some (.slice a2 t.length c2) := fun o => (QM_2.out.keep (bAlloc (Below.refl _ _) o)).c0
  have QMd1 : ∀ o : Obj, (w2.alloc o).cell? ⟨(w1.heap.size + 1), 1, none⟩ = some (.slice b2 f.length e2) := fun o => (QM_2.out.keep (bAlloc (Below.refl _ _) o)).c1
  go_wp2_with fail
  refine (ES.out _ _ ((N_2.out.arrI).keep (bAlloc (Below.refl _ _) _)) _ ((M_2.out.arrI).keep (bAlloc (Below.refl _ _) _))).mono ?_
  rintro r w3 ⟨vW, rfl, ha, hb⟩
  obtain ⟨aW, cW, bW, eW, rfl, _, _, _, _⟩ := ha.arrI
  have W_3 : Hid (Arr (w2.heap.size + 1) w3.heap.size w3 (.agg #[.slice aW S.length cW, .slice bW D.length eW]) S D) := ha.mono (by first | exact Nat.le_refl _ | simp | (simp; omega)) (Nat.le_refl _)
  clear ha
  have HB3 : Hid (Below w2.heap.size w2 w3) := bTrans (bAlloc (Below.refl _ _) _) hb
  have HT3 : Hid (Below w.heap.size w w3) := bTrans HT2.out HB3.out
  have SZ3 : Hid (w2.heap.size ≤ w3.heap.size) := HB3.out.size
  have QN_3 : Hid (Box w3 w1.heap.size (.slice a1 s.length c1) (.slice b1 d.length e1) 26) := QN_2.out.keep HB3.out
  have QM_3 : Hid (Box w3 (w1.heap.size + 1) (.slice a2 t.length c2) (.slice b2 f.length e2) 26) := QM_2.out.keep HB3.out
  have N_3 : Hid (Arr w.heap.size w1.heap.size w3 (.agg #[.slice a1 s.length c1, .slice b1 d.length e1]) s d) := N_2.out.keep HB3.out
  have M_3 : Hid (Arr w.heap.size w1.heap.size w3 (.agg #[.slice a2 t.length c2, .slice b2 f.length e2]) t f) := M_2.out.keep HB3.out
  have G_3 : Hid (Arr (w1.heap.size + 2) w2.heap.size w3 (.agg #[.slice aG S.length cG, .slice bG D.length eG]) S D) := G_2.out.keep HB3.out
  have QG_3 : Hid (Box w3 w2.heap.size (.slice aG S.length cG) (.slice bG D.length eG) 26) := (box_new w2 _ _ _).keep hb
  have LTQG : Hid (w2.heap.size < w3.heap.size) := QG_3.out.lt
  clear QN_2 QM_2 N_2 M_2 G_2 QNc0 QNc1 QNd0 QNd1 QMc0 QMc1 QMd0 QMd1 hb
  have QNc0 := QN_3.out.c0
  have QNc1 := QN_3.out.c1
  have QNd0 : ∀ o : Obj, (w3.alloc o).cell? ⟨w1.heap.size, 0, none⟩ = some (.slice a1 s.length c1) := fun o => (QN_3.out.keep (bAlloc (Below.refl _ _) o)).c0
  have QNd1 : ∀ o : Obj, (w3.alloc o).cell? ⟨w1.heap.size, 1, none⟩ = some (.slice b1 d.length e1) := fun o => (QN_3.out.keep (bAlloc (Below.refl _ _) o)).c1
  have QMc0 := QM_3.out.c0
  have QMc1 := QM_3.out.c1
  have QMd0 : ∀ o : Obj, (w3.alloc o).cell? ⟨(w1.heap.size + 1), 0, none⟩ = some (.slice a2 t.length c2) := fun o => (QM_3.out.keep (bAlloc (Below.refl _ _) o)).c0
  have QMd1 : ∀ o : Obj, (w3.alloc o).cell? ⟨(w1.heap.size + 1), 1, none⟩ = some (.slice b2 f.length e2) := fun o => (QM_3.out.keep (bAlloc (Below.refl _ _) o)).c1
  have QGc0 := QG_3.out.c0
  have QGc1 := QG_3.out.c1
  have QGd0 : ∀ o : Obj, (w3.alloc o).cell? ⟨w2.heap.size, 0, none⟩ = some (.slice aG S.length cG) := fun o => (QG_3.out.keep (bAlloc (Below.refl _ _) o)).c0
  have QGd1 : ∀ o : Obj, (w3.alloc o).cell? ⟨w2.heap.size, 1, none⟩ = some (.slice bG D.length eG) := fun o => (QG_3.out.keep (bAlloc (Below.refl _ _) o)).c1
  go_wp2_with fail
  refine (OK.out _ _ ((M_3.out.arrI).keep (bAlloc (Below.refl _ _) _))).mono ?_
  rintro r w4 ⟨rfl, hb⟩
  have HB4 : Hid (Below w3.heap.size w3 w4) := bTrans (bAlloc (Below.refl _ _) _) hb
  have HT4 : Hid (Below w.heap.size w w4) := bTrans HT3.out HB4.out
  have SZ4 : Hid (w3.heap.size ≤ w4.heap.size) := HB4.out.size
  have QN_4 : Hid (Box w4 w1.heap.size (.slice a1 s.length c1) (.slice b1 d.length e1) 26) := QN_3.out.keep HB4.out
  have QM_4 : Hid (Box w4 (w1.heap.size + 1) (.slice a2 t.length c2) (.slice b2 f.length e2) 26) := QM_3.out.keep HB4.out
  have QG_4 : Hid (Box w4 w2.heap.size (.slice aG S.length cG) (.slice bG D.length eG) 26) := QG_3.out.keep HB4.out
  have N_4 : Hid (Arr w.heap.size w1.heap.size w4 (.agg #[.slice a1 s.length c1, .slice b1 d.length e1]) s d) := N_3.out.keep HB4.out
  have M_4 : Hid (Arr w.heap.size w1.heap.size w4 (.agg #[.slice a2 t.length c2, .slice b2 f.length e2]) t f) := M_3.out.keep HB4.out
  have G_4 : Hid (Arr (w1.heap.size + 2) w2.heap.size w4 (.agg #[.slice aG S.length cG, .slice bG D.length eG]) S D) := G_3.out.keep HB4.out
  have QW_4 : Hid (Box w4 w3.heap.size (.slice aW S.length cW) (.slice bW D.length eW) 26) := (box_new w3 _ _ _).keep hb
  have LTQW : Hid (w3.heap.size < w4.heap.size) := QW_4.out.lt
  clear QN_3 QM_3 QG_3 N_3 M_3 G_3 QNc0 QNc1 QNd0 QNd1 QMc0 QMc1 QMd0 QMd1 QGc0 QGc1 QGd0 QGd1 hb
  have QNc0 := QN_4.out.c0
  have QNc1 := QN_4.out.c1
  have QMc0 := QM_4.out.c0
  have QMc1 := QM_4.out.c1
  have QGc0 := QG_4.out.c0
  have QGc1 := QG_4.out.c1
  have QWc0 := QW_4.out.c0
  have QWc1 := QW_4.out.c1
  by_cases hc : C = 0
  · obtain ⟨ho, hS', hok, hall⟩ := FG.out hc
    subst hc
    have HO : Hid (arrOk t f = true) := ho
    have HA : Hid (0 < f.length → ∀ i, i < D.length → D.getD i 0 = f.getD (i % f.length) 0) := hall
    have HS' : Hid (S = d) := hS'
    have HK : Hid (arrOk S D = true) := hok
    clear ho hall hS' hok FG FB
    obtain ⟨rfl, rfl, hs3, hd3⟩ := FO.out HO.out
    have SA' : Hid (∀ (W : World) (u v : Value), ArrI W u t f → ArrI W v S3 D3 → Calls Try.prog 21 #[u, v] W fun e w' => e = .returned (.bool true) ∧ Below W.heap.size W w') := by
      intro W u v h k
      have q := SA.out W u v h k
      rw [hs3, hd3] at q
      simpa [hs3, hd3] using q
    clear hs3 hd3 FO SA
    rw [HO.out]
    go_wp2_with fail
    refine (E2.out _ _ (M_4.out.arrI)).mono ?_
    rintro r w5 ⟨vX, rfl, ha, hb⟩
    obtain ⟨aX, cX, bX, eX, rfl, _, _, _, _⟩ := ha.arrI
    have X_5 : Hid (Arr w4.heap.size w5.heap.size w5 (.agg #[.slice aX S2.length cX, .slice bX D2.length eX]) S2 D2) := ha.mono (by first | exact Nat.le_refl _ | simp | (simp; omega)) (Nat.le_refl _)
    clear ha
    have HB5 : Hid (Below w4.heap.size w4 w5) := hb
    have HT5 : Hid (Below w.heap.size w w5) := bTrans HT4.out HB5.out
    have SZ5 : Hid (w4.heap.size ≤ w5.heap.size) := HB5.out.size
    have QN_5 : Hid (Box w5 w1.heap.size (.slice a1 s.length c1) (.slice b1 d.length e1) 26) := QN_4.out.keep HB5.out
    have QM_5 : Hid (Box w5 (w1.heap.size + 1) (.slice a2 t.length c2) (.slice b2 f.length e2) 26) := QM_4.out.keep HB5.out
    have QG_5 : Hid (Box w5 w2.heap.size (.slice aG S.length cG) (.slice bG D.length eG) 26) := QG_4.out.keep HB5.out
    have QW_5 : Hid (Box w5 w3.heap.size (.slice aW S.length cW) (.slice bW D.length eW) 26) := QW_4.out.keep HB5.out
    have N_5 : Hid (Arr w.heap.size w1.heap.size w5 (.agg #[.slice a1 s.length c1, .slice b1 d.length e1]) s d) := N_4.out.keep HB5.out
    have M_5 : Hid (Arr w.heap.size w1.heap.size w5 (.agg #[.slice a2 t.length c2, .slice b2 f.length e2]) t f) := M_4.out.keep HB5.out
    have G_5 : Hid (Arr (w1.heap.size + 2) w2.heap.size w5 (.agg #[.slice aG S.length cG, .slice bG D.length eG]) S D) := G_4.out.keep HB5.out
    clear QN_4 QM_4 QG_4 QW_4 N_4 M_4 G_4 QNc0 QNc1 QMc0 QMc1 QGc0 QGc1 QWc0 QWc1 hb
    have QNc0 := QN_5.out.c0
    have QNc1 := QN_5.out.c1
    have QNd0 : ∀ o : Obj, (w5.alloc o).cell? ⟨w1.heap.size, 0, none⟩ = some (.slice a1 s.length c1) := fun o => (QN_5.out.keep (bAlloc (Below.refl _ _) o)).c0
    have QNd1 : ∀ o : Obj, (w5.alloc o).cell? ⟨w1.heap.size, 1, none⟩ = some (.slice b1 d.length e1) := fun o => (QN_5.out.keep (bAlloc (Below.refl _ _) o)).c1
    have QMc0 := QM_5.out.c0
    have QMc1 := QM_5.out.c1
    have QMd0 : ∀ o : Obj, (w5.alloc o).cell? ⟨(w1.heap.size + 1), 0, none⟩ = some (.slice a2 t.length c2) := fun o => (QM_5.out.keep (bAlloc (Below.refl _ _) o)).c0
    have QMd1 : ∀ o : Obj, (w5.alloc o).cell? ⟨(w1.heap.size + 1), 1, none⟩ = some (.slice b2 f.length e2) := fun o => (QM_5.out.keep (bAlloc (Below.refl _ _) o)).c1
    have QGc0 := QG_5.out.c0
    have QGc1 := QG_5.out.c1
    have QGd0 : ∀ o : Obj, (w5.alloc o).cell? ⟨w2.heap.size, 0, none⟩ = some (.slice aG S.length cG) := fun o => (QG_5.out.keep (bAlloc (Below.refl _ _) o)).c0
    have QGd1 : ∀ o : Obj, (w5.alloc o).cell? ⟨w2.heap.size, 1, none⟩ = some (.slice bG D.length eG) := fun o => (QG_5.out.keep (bAlloc (Below.refl _ _) o)).c1
    have QWc0 := QW_5.out.c0
    have QWc1 := QW_5.out.c1
    have QWd0 : ∀ o : Obj, (w5.alloc o).cell? ⟨w3.heap.size, 0, none⟩ = some (.slice aW S.length cW) := fun o => (QW_5.out.keep (bAlloc (Below.refl _ _) o)).c0
    have QWd1 : ∀ o : Obj, (w5.alloc o).cell? ⟨w3.heap.size, 1, none⟩ = some (.slice bW D.length eW) := fun o => (QW_5.out.keep (bAlloc (Below.refl _ _) o)).c1
    go_wp2_with fail
    refine (E3.out _ _ ((X_5.out.arrI).keep (bAlloc (Below.refl _ _) _)) _ ((M_5.out.arrI).keep (bAlloc (Below.refl _ _) _))).mono ?_
    rintro r w6 ⟨vY, rfl, ha, hb⟩
    obtain ⟨aY, cY, bY, eY, rfl, _, _, _, _⟩ := ha.arrI
    have Y_6 : Hid (Arr (w5.heap.size + 1) w6.heap.size w6 (.agg #[.slice aY S3.length cY, .slice bY D3.length eY]) S3 D3) := ha.mono (by first | exact Nat.le_refl _ | simp | (simp; omega)) (Nat.le_refl _)
    clear ha
    have HB6 : Hid (Below w5.heap.size w5 w6) := bTrans (bAlloc (Below.refl _ _) _) hb
    have HT6 : Hid (Below w.heap.size w w6) := bTrans HT5.out HB6.out
    have SZ6 : Hid (w5.heap.size ≤ w6.heap.size) := HB6.out.size
    have QN_6 : Hid (Box w6 w1.heap.size (.slice a1 s.length c1) (.slice b1 d.length e1) 26) := QN_5.out.keep HB6.out
    have QM_6 : Hid (Box w6 (w1.heap.size + 1) (.slice a2 t.length c2) (.slice b2 f.length e2) 26) := QM_5.out.keep HB6.out
    have QG_6 : Hid (Box w6 w2.heap.size (.slice aG S.length cG) (.slice bG D.length eG) 26) := QG_5.out.keep HB6.out
    have QW_6 : Hid (Box w6 w3.heap.size (.slice aW S.length cW) (.slice bW D.length eW) 26) := QW_5.out.keep HB6.out
    have N_6 : Hid (Arr w.heap.size w1.heap.size w6 (.agg #[.slice a1 s.length c1, .slice b1 d.length e1]) s d) := N_5.out.keep HB6.out
    have M_6 : Hid (Arr w.heap.size w1.heap.size w6 (.agg #[.slice a2 t.length c2, .slice b2 f.length e2]) t f) := M_5.out.keep HB6.out
    have G_6 : Hid (Arr (w1.heap.size + 2) w2.heap.size w6 (.agg #[.slice aG S.length cG, .slice bG D.length eG]) S D) := G_5.out.keep HB6.out
    have X_6 : Hid (Arr w4.heap.size w5.heap.size w6 (.agg #[.slice aX S2.length cX, .slice bX D2.length eX]) S2 D2) := X_5.out.keep HB6.out
    have QX_6 : Hid (Box w6 w5.heap.size (.slice aX S2.length cX) (.slice bX D2.length eX) 26) := (box_new w5 _ _ _).keep hb
    have LTQX : Hid (w5.heap.size < w6.heap.size) := QX_6.out.lt
    clear QN_5 QM_5 QG_5 QW_5 N_5 M_5 G_5 X_5 QNc0 QNc1 QNd0 QNd1 QMc0 QMc1 QMd0 QMd1 QGc0 QGc1 QGd0 QGd1 QWc0 QWc1 QWd0 QWd1 hb
    have QNc0 := QN_6.out.c0
    have QNc1 := QN_6.out.c1
    have QNd0 : ∀ o : Obj, (w6.alloc o).cell? ⟨w1.heap.size, 0, none⟩ = some (.slice a1 s.length c1) := fun o => (QN_6.out.keep (bAlloc (Below.refl _ _) o)).c0
    have QNd1 : ∀ o : Obj, (w6.alloc o).cell? ⟨w1.heap.size, 1, none⟩ = some (.slice b1 d.length e1) := fun o => (QN_6.out.keep (bAlloc (Below.refl _ _) o)).c1
    have QMc0 := QM_6.out.c0
    have QMc1 := QM_6.out.c1
    have QMd0 : ∀ o : Obj, (w6.alloc o).cell? ⟨(w1.heap.size + 1), 0, none⟩ = some (.slice a2 t.length c2) := fun o => (QM_6.out.keep (bAlloc (Below.refl _ _) o)).c0
    have QMd1 : ∀ o : Obj, (w6.alloc o).cell? ⟨(w1.heap.size + 1), 1, none⟩ = some (.slice b2 f.length e2) := fun o => (QM_6.out.keep (bAlloc (Below.refl _ _) o)).c1
    have QGc0 := QG_6.out.c0
    have QGc1 := QG_6.out.c1
    have QGd0 : ∀ o : Obj, (w6.alloc o).cell? ⟨w2.heap.size, 0, none⟩ = some (.slice aG S.length cG) := fun o => (QG_6.out.keep (bAlloc (Below.refl _ _) o)).c0
    have QGd1 : ∀ o : Obj, (w6.alloc o).cell? ⟨w2.heap.size, 1, none⟩ = some (.slice bG D.length eG) := fun o => (QG_6.out.keep (bAlloc (Below.refl _ _) o)).c1
    have QWc0 := QW_6.out.c0
    have QWc1 := QW_6.out.c1
    have QWd0 : ∀ o : Obj, (w6.alloc o).cell? ⟨w3.heap.size, 0, none⟩ = some (.slice aW S.length cW) := fun o => (QW_6.out.keep (bAlloc (Below.refl _ _) o)).c0
    have QWd1 : ∀ o : Obj, (w6.alloc o).cell? ⟨w3.heap.size, 1, none⟩ = some (.slice bW D.length eW) := fun o => (QW_6.out.keep (bAlloc (Below.refl _ _) o)).c1
    have QXc0 := QX_6.out.c0
    have QXc1 := QX_6.out.c1
    have QXd0 : ∀ o : Obj, (w6.alloc o).cell? ⟨w5.heap.size, 0, none⟩ = some (.slice aX S2.length cX) := fun o => (QX_6.out.keep (bAlloc (Below.refl _ _) o)).c0
    have QXd1 : ∀ o : Obj, (w6.alloc o).cell? ⟨w5.heap.size, 1, none⟩ = some (.slice bX D2.length eX) := fun o => (QX_6.out.keep (bAlloc (Below.refl _ _) o)).c1
    go_wp2_with fail
    refine (SA'.out _ _ _ ((M_6.out.arrI).keep (bAlloc (Below.refl _ _) _)) ((Y_6.out.arrI).keep (bAlloc (Below.refl _ _) _))).mono ?_
    rintro r w7 ⟨rfl, hb⟩
    have HB7 : Hid (Below w6.heap.size w6 w7) := bTrans (bAlloc (Below.refl _ _) _) hb
    have HT7 : Hid (Below w.heap.size w w7) := bTrans HT6.out HB7.out
    have SZ7 : Hid (w6.heap.size ≤ w7.heap.size) := HB7.out.size
    have QN_7 : Hid (Box w7 w1.heap.size (.slice a1 s.length c1) (.slice b1 d.length e1) 26) := QN_6.out.keep HB7.out
    have QM_7 : Hid (Box w7 (w1.heap.size + 1) (.slice a2 t.length c2) (.slice b2 f.length e2) 26) := QM_6.out.keep HB7.out
    have QG_7 : Hid (Box w7 w2.heap.size (.slice aG S.length cG) (.slice bG D.length eG) 26) := QG_6.out.keep HB7.out
    have QW_7 : Hid (Box w7 w3.heap.size (.slice aW S.length cW) (.slice bW D.length eW) 26) := QW_6.out.keep HB7.out
    have QX_7 : Hid (Box w7 w5.heap.size (.slice aX S2.length cX) (.slice bX D2.length eX) 26) := QX_6.out.keep HB7.out
    have N_7 : Hid (Arr w.heap.size w1.heap.size w7 (.agg #[.slice a1 s.length c1, .slice b1 d.length e1]) s d) := N_6.out.keep HB7.out
    have M_7 : Hid (Arr w.heap.size w1.heap.size w7 (.agg #[.slice a2 t.length c2, .slice b2 f.length e2]) t f) := M_6.out.keep HB7.out
    have G_7 : Hid (Arr (w1.heap.size + 2) w2.heap.size w7 (.agg #[.slice aG S.length cG, .slice bG D.length eG]) S D) := G_6.out.keep HB7.out
    have Y_7 : Hid (Arr (w5.heap.size + 1) w6.heap.size w7 (.agg #[.slice aY S3.length cY, .slice bY D3.length eY]) S3 D3) := Y_6.out.keep HB7.out
    have QY_7 : Hid (Box w7 w6.heap.size (.slice aY S3.length cY) (.slice bY D3.length eY) 26) := (box_new w6 _ _ _).keep hb
    have LTQY : Hid (w6.heap.size < w7.heap.size) := QY_7.out.lt
    clear QN_6 QM_6 QG_6 QW_6 QX_6 N_6 M_6 G_6 Y_6 QNc0 QNc1 QNd0 QNd1 QMc0 QMc1 QMd0 QMd1 QGc0 QGc1 QGd0 QGd1 QWc0 QWc1 QWd0 QWd1 QXc0 QXc1 QXd0 QXd1 hb
    have QNc0 := QN_7.out.c0
    have QNc1 := QN_7.out.c1
    have QMc0 := QM_7.out.c0
    have QMc1 := QM_7.out.c1
    have QGc0 := QG_7.out.c0
    have QGc1 := QG_7.out.c1
    have QWc0 := QW_7.out.c0
    have QWc1 := QW_7.out.c1
    have QXc0 := QX_7.out.c0
    have QXc1 := QX_7.out.c1
    have QYc0 := QY_7.out.c0
    have QYc1 := QY_7.out.c1
    have hDb : D.length ≤ 1048576 := LA.out.2
    go_wp2
    go_loopw [13] (fun i w' => ∃ k : Nat, k ≤ D.length ∧ i = .int .i64 (k : Int) ∧ Below w7.heap.size w7 w') (fun i _ => D.length - (intOf i).toNat)
    case atStart => exact ⟨0, by omega, rfl, Below.refl _ _⟩
    case round =>
      obtain ⟨k, hk, rfl, hB⟩ := hrel
      have HC : Hid (Below w7.heap.size w7 wr) := hB
      have QA : Hid (Box wr w1.heap.size (.slice a1 s.length c1) (.slice b1 d.length e1) 26) := QN_7.out.keep hB
      have QB : Hid (Box wr (w1.heap.size + 1) (.slice a2 t.length c2) (.slice b2 f.length e2) 26) := QM_7.out.keep hB
      have QC : Hid (Box wr w2.heap.size (.slice aG S.length cG) (.slice bG D.length eG) 26) := QG_7.out.keep hB
      have NA : Hid (ArrI wr (.agg #[.slice a1 s.length c1, .slice b1 d.length e1]) s d) := N_7.out.arrI.keep hB
      have NB : Hid (ArrI wr (.agg #[.slice a2 t.length c2, .slice b2 f.length e2]) t f) := M_7.out.arrI.keep hB
      have NC : Hid (ArrI wr (.agg #[.slice aG S.length cG, .slice bG D.length eG]) S D) := G_7.out.arrI.keep hB
      clear hB QNc0 QNc1 QMc0 QMc1 QGc0 QGc1 QWc0 QWc1 QXc0 QXc1 QYc0 QYc1
      have q0 := QA.out.c0
      have q1 := QA.out.c1
      have q2 := QB.out.c0
      have q3 := QB.out.c1
      have q4 := QC.out.c0
      have q5 := QC.out.c1
      by_cases hlt : (k : Int) < (D.length : Int) ∧ (0 : Int) < (f.length : Int)
      · obtain ⟨hlt, hf⟩ := hlt
        have L : k < D.length := by omega
        have hfn : 0 < f.length := by omega
        have hm : k % f.length < f.length := Nat.mod_lt _ hfn
        obtain ⟨_, _, _, _, ev, _, i1, _, _⟩ := NB.out
        cases ev
        obtain ⟨_, _, _, _, ev, _, i2, _, _⟩ := NC.out
        cases ev
        obtain ⟨p1, o1, rfl, hp1, t1⟩ := i1.at hm
        obtain ⟨p2, o2, rfl, hp2, t2⟩ := i2.at L
        have y := HA.out hfn k L
        rw [y] at t2
        obtain ⟨m, hM⟩ : ∃ m, m = k % f.length := ⟨_, rfl⟩
        have eM : (k : Int) % (f.length : Int) = (m : Int) := by rw [hM]; simp
        rw [← hM] at t1 t2 hm
        have LM : (m : Int) < (f.length : Int) := by omega
        clear hM y i1 i2
        generalize f.getD m 0 = z at *
        have hzz : (z != z) = false := by simp
        go_wp2
        go_quiet (fail)
        go_wp2
        go_roundw
        case rel => exact ⟨k + 1, by omega, by go_num, bDrewN HC.out _⟩
        case measure => simp [intOf]; omega
      · have END : Hid (True) := trivial
        obtain ⟨_, _, _, _, ev, _, i1, _, _⟩ := NA.out
        cases ev
        obtain ⟨_, _, _, _, ev, i2, _, _, _⟩ := NC.out
        cases ev
        have SI : Hid (Calls Try.prog 14 #[.slice aG S.length cG, .slice b1 d.length e1] wr fun e w' => e = .returned (.bool true) ∧ Below wr.heap.size wr w') := by
          refine Calls.mono (same_ints cG e1 (by have := LA.out.1; omega) i2 i1) ?_
          rintro r w' ⟨rfl, n, rfl⟩
          exact ⟨by simp [HS'.out], bDrewN (Below.refl _ _) n⟩
        have AO : Hid (∀ W, Below wr.heap.size wr W → Calls Try.prog 15 #[.agg #[.slice aG S.length cG, .slice bG D.length eG]] W fun e w' => e = .returned (.bool true) ∧ Below W.heap.size W w') := fun W h => by
          have q := arrOk_impl (NC.out.keep h) LA.out.2
          rw [HK.out] at q
          exact q
        clear i1 i2
        by_cases h1 : (k : Int) < (D.length : Int)
        · have h2 : ¬ (0 : Int) < (f.length : Int) := fun h => hlt ⟨h1, h⟩
          have h3 : f.length = 0 := by omega
          clear hlt h2
          go_wp2_with fail
          refine (SI.out).mono ?_
          rintro r wn ⟨rfl, hb⟩
          have CN : Hid (Below wr.heap.size wr wn) := hb
          have QC' : Hid (Box wn w2.heap.size (.slice aG S.length cG) (.slice bG D.length eG) 26) := QC.out.keep hb
          clear hb q0 q1 q2 q3 q4 q5
          have q4 := QC'.out.c0
          have q5 := QC'.out.c1
          go_wp2_with fail
          refine (AO.out _ CN.out).mono ?_
          rintro r wm ⟨rfl, hb⟩
          have CM : Hid (Below wn.heap.size wn wm) := hb
          clear hb
          go_wp2
          go_ret
          exact ⟨rfl, bTrans HT7.out (bTrans HC.out (bTrans CN.out CM.out))⟩
        · clear hlt
          go_wp2_with fail
          refine (SI.out).mono ?_
          rintro r wn ⟨rfl, hb⟩
          have CN : Hid (Below wr.heap.size wr wn) := hb
          have QC' : Hid (Box wn w2.heap.size (.slice aG S.length cG) (.slice bG D.length eG) 26) := QC.out.keep hb
          clear hb q0 q1 q2 q3 q4 q5
          have q4 := QC'.out.c0
          have q5 := QC'.out.c1
          go_wp2_with fail
          refine (AO.out _ CN.out).mono ?_
          rintro r wm ⟨rfl, hb⟩
          have CM : Hid (Below wn.heap.size wn wm) := hb
          clear hb
          go_wp2
          go_ret
          exact ⟨rfl, bTrans HT7.out (bTrans HC.out (bTrans CN.out CM.out))⟩
  by_cases ho : arrOk t f = true
  · have HO : Hid (arrOk t f = true) := ho
    clear ho
    obtain ⟨rfl, rfl, hs3, hd3⟩ := FO.out HO.out
    have SA' : Hid (∀ (W : World) (u v : Value), ArrI W u t f → ArrI W v S3 D3 → Calls Try.prog 21 #[u, v] W fun e w' => e = .returned (.bool true) ∧ Below W.heap.size W w') := by
      intro W u v h k
      have q := SA.out W u v h k
      rw [hs3, hd3] at q
      simpa [hs3, hd3] using q
    clear hs3 hd3 FO SA
    rw [HO.out]
    go_wp2_with fail
    refine (E2.out _ _ (M_4.out.arrI)).mono ?_
    rintro r w5 ⟨vX, rfl, ha, hb⟩
    obtain ⟨aX, cX, bX, eX, rfl, _, _, _, _⟩ := ha.arrI
    have X_5 : Hid (Arr w4.heap.size w5.heap.size w5 (.agg #[.slice aX S2.length cX, .slice bX D2.length eX]) S2 D2) := ha.mono (by first | exact Nat.le_refl _ | simp | (simp; omega)) (Nat.le_refl _)
    clear ha
    have HB5 : Hid (Below w4.heap.size w4 w5) := hb
    have HT5 : Hid (Below w.heap.size w w5) := bTrans HT4.out HB5.out
    have SZ5 : Hid (w4.heap.size ≤ w5.heap.size) := HB5.out.size
    have QN_5 : Hid (Box w5 w1.heap.size (.slice a1 s.length c1) (.slice b1 d.length e1) 26) := QN_4.out.keep HB5.out
    have QM_5 : Hid (Box w5 (w1.heap.size + 1) (.slice a2 t.length c2) (.slice b2 f.length e2) 26) := QM_4.out.keep HB5.out
    have QG_5 : Hid (Box w5 w2.heap.size (.slice aG S.length cG) (.slice bG D.length eG) 26) := QG_4.out.keep HB5.out
    have QW_5 : Hid (Box w5 w3.heap.size (.slice aW S.length cW) (.slice bW D.length eW) 26) := QW_4.out.keep HB5.out
    have N_5 : Hid (Arr w.heap.size w1.heap.size w5 (.agg #[.slice a1 s.length c1, .slice b1 d.length e1]) s d) := N_4.out.keep HB5.out
    have M_5 : Hid (Arr w.heap.size w1.heap.size w5 (.agg #[.slice a2 t.length c2, .slice b2 f.length e2]) t f) := M_4.out.keep HB5.out
    have G_5 : Hid (Arr (w1.heap.size + 2) w2.heap.size w5 (.agg #[.slice aG S.length cG, .slice bG D.length eG]) S D) := G_4.out.keep HB5.out
    clear QN_4 QM_4 QG_4 QW_4 N_4 M_4 G_4 QNc0 QNc1 QMc0 QMc1 QGc0 QGc1 QWc0 QWc1 hb
    have QNc0 := QN_5.out.c0
    have QNc1 := QN_5.out.c1
    have QNd0 : ∀ o : Obj, (w5.alloc o).cell? ⟨w1.heap.size, 0, none⟩ = some (.slice a1 s.length c1) := fun o => (QN_5.out.keep (bAlloc (Below.refl _ _) o)).c0
    have QNd1 : ∀ o : Obj, (w5.alloc o).cell? ⟨w1.heap.size, 1, none⟩ = some (.slice b1 d.length e1) := fun o => (QN_5.out.keep (bAlloc (Below.refl _ _) o)).c1
    have QMc0 := QM_5.out.c0
    have QMc1 := QM_5.out.c1
    have QMd0 : ∀ o : Obj, (w5.alloc o).cell? ⟨(w1.heap.size + 1), 0, none⟩ = some (.slice a2 t.length c2) := fun o => (QM_5.out.keep (bAlloc (Below.refl _ _) o)).c0
    have QMd1 : ∀ o : Obj, (w5.alloc o).cell? ⟨(w1.heap.size + 1), 1, none⟩ = some (.slice b2 f.length e2) := fun o => (QM_5.out.keep (bAlloc (Below.refl _ _) o)).c1
    have QGc0 := QG_5.out.c0
    have QGc1 := QG_5.out.c1
    have QGd0 : ∀ o : Obj, (w5.alloc o).cell? ⟨w2.heap.size, 0, none⟩ = some (.slice aG S.length cG) := fun o => (QG_5.out.keep (bAlloc (Below.refl _ _) o)).c0
    have QGd1 : ∀ o : Obj, (w5.alloc o).cell? ⟨w2.heap.size, 1, none⟩ = some (.slice bG D.length eG) := fun o => (QG_5.out.keep (bAlloc (Below.refl _ _) o)).c1
    have QWc0 := QW_5.out.c0
    have QWc1 := QW_5.out.c1
    have QWd0 : ∀ o : Obj, (w5.alloc o).cell? ⟨w3.heap.size, 0, none⟩ = some (.slice aW S.length cW) := fun o => (QW_5.out.keep (bAlloc (Below.refl _ _) o)).c0
    have QWd1 : ∀ o : Obj, (w5.alloc o).cell? ⟨w3.heap.size, 1, none⟩ = some (.slice bW D.length eW) := fun o => (QW_5.out.keep (bAlloc (Below.refl _ _) o)).c1
    go_wp2_with fail
    refine (E3.out _ _ ((X_5.out.arrI).keep (bAlloc (Below.refl _ _) _)) _ ((M_5.out.arrI).keep (bAlloc (Below.refl _ _) _))).mono ?_
    rintro r w6 ⟨vY, rfl, ha, hb⟩
    obtain ⟨aY, cY, bY, eY, rfl, _, _, _, _⟩ := ha.arrI
    have Y_6 : Hid (Arr (w5.heap.size + 1) w6.heap.size w6 (.agg #[.slice aY S3.length cY, .slice bY D3.length eY]) S3 D3) := ha.mono (by first | exact Nat.le_refl _ | simp | (simp; omega)) (Nat.le_refl _)
    clear ha
    have HB6 : Hid (Below w5.heap.size w5 w6) := bTrans (bAlloc (Below.refl _ _) _) hb
    have HT6 : Hid (Below w.heap.size w w6) := bTrans HT5.out HB6.out
    have SZ6 : Hid (w5.heap.size ≤ w6.heap.size) := HB6.out.size
    have QN_6 : Hid (Box w6 w1.heap.size (.slice a1 s.length c1) (.slice b1 d.length e1) 26) := QN_5.out.keep HB6.out
    have QM_6 : Hid (Box w6 (w1.heap.size + 1) (.slice a2 t.length c2) (.slice b2 f.length e2) 26) := QM_5.out.keep HB6.out
    have QG_6 : Hid (Box w6 w2.heap.size (.slice aG S.length cG) (.slice bG D.length eG) 26) := QG_5.out.keep HB6.out
    have QW_6 : Hid (Box w6 w3.heap.size (.slice aW S.length cW) (.slice bW D.length eW) 26) := QW_5.out.keep HB6.out
    have N_6 : Hid (Arr w.heap.size w1.heap.size w6 (.agg #[.slice a1 s.length c1, .slice b1 d.length e1]) s d) := N_5.out.keep HB6.out
    have M_6 : Hid (Arr w.heap.size w1.heap.size w6 (.agg #[.slice a2 t.length c2, .slice b2 f.length e2]) t f) := M_5.out.keep HB6.out
    have G_6 : Hid (Arr (w1.heap.size + 2) w2.heap.size w6 (.agg #[.slice aG S.length cG, .slice bG D.length eG]) S D) := G_5.out.keep HB6.out
    have X_6 : Hid (Arr w4.heap.size w5.heap.size w6 (.agg #[.slice aX S2.length cX, .slice bX D2.length eX]) S2 D2) := X_5.out.keep HB6.out
    have QX_6 : Hid (Box w6 w5.heap.size (.slice aX S2.length cX) (.slice bX D2.length eX) 26) := (box_new w5 _ _ _).keep hb
    have LTQX : Hid (w5.heap.size < w6.heap.size) := QX_6.out.lt
    clear QN_5 QM_5 QG_5 QW_5 N_5 M_5 G_5 X_5 QNc0 QNc1 QNd0 QNd1 QMc0 QMc1 QMd0 QMd1 QGc0 QGc1 QGd0 QGd1 QWc0 QWc1 QWd0 QWd1 hb
    have QNc0 := QN_6.out.c0
    have QNc1 := QN_6.out.c1
    have QNd0 : ∀ o : Obj, (w6.alloc o).cell? ⟨w1.heap.size, 0, none⟩ = some (.slice a1 s.length c1) := fun o => (QN_6.out.keep (bAlloc (Below.refl _ _) o)).c0
    have QNd1 : ∀ o : Obj, (w6.alloc o).cell? ⟨w1.heap.size, 1, none⟩ = some (.slice b1 d.length e1) := fun o => (QN_6.out.keep (bAlloc (Below.refl _ _) o)).c1
    have QMc0 := QM_6.out.c0
    have QMc1 := QM_6.out.c1
    have QMd0 : ∀ o : Obj, (w6.alloc o).cell? ⟨(w1.heap.size + 1), 0, none⟩ = some (.slice a2 t.length c2) := fun o => (QM_6.out.keep (bAlloc (Below.refl _ _) o)).c0
    have QMd1 : ∀ o : Obj, (w6.alloc o).cell? ⟨(w1.heap.size + 1), 1, none⟩ = some (.slice b2 f.length e2) := fun o => (QM_6.out.keep (bAlloc (Below.refl _ _) o)).c1
    have QGc0 := QG_6.out.c0
    have QGc1 := QG_6.out.c1
    have QGd0 : ∀ o : Obj, (w6.alloc o).cell? ⟨w2.heap.size, 0, none⟩ = some (.slice aG S.length cG) := fun o => (QG_6.out.keep (bAlloc (Below.refl _ _) o)).c0
    have QGd1 : ∀ o : Obj, (w6.alloc o).cell? ⟨w2.heap.size, 1, none⟩ = some (.slice bG D.length eG) := fun o => (QG_6.out.keep (bAlloc (Below.refl _ _) o)).c1
    have QWc0 := QW_6.out.c0
    have QWc1 := QW_6.out.c1
    have QWd0 : ∀ o : Obj, (w6.alloc o).cell? ⟨w3.heap.size, 0, none⟩ = some (.slice aW S.length cW) := fun o => (QW_6.out.keep (bAlloc (Below.refl _ _) o)).c0
    have QWd1 : ∀ o : Obj, (w6.alloc o).cell? ⟨w3.heap.size, 1, none⟩ = some (.slice bW D.length eW) := fun o => (QW_6.out.keep (bAlloc (Below.refl _ _) o)).c1
    have QXc0 := QX_6.out.c0
    have QXc1 := QX_6.out.c1
    have QXd0 : ∀ o : Obj, (w6.alloc o).cell? ⟨w5.heap.size, 0, none⟩ = some (.slice aX S2.length cX) := fun o => (QX_6.out.keep (bAlloc (Below.refl _ _) o)).c0
    have QXd1 : ∀ o : Obj, (w6.alloc o).cell? ⟨w5.heap.size, 1, none⟩ = some (.slice bX D2.length eX) := fun o => (QX_6.out.keep (bAlloc (Below.refl _ _) o)).c1
    go_wp2_with fail
    refine (SA'.out _ _ _ ((M_6.out.arrI).keep (bAlloc (Below.refl _ _) _)) ((Y_6.out.arrI).keep (bAlloc (Below.refl _ _) _))).mono ?_
    rintro r w7 ⟨rfl, hb⟩
    have HB7 : Hid (Below w6.heap.size w6 w7) := bTrans (bAlloc (Below.refl _ _) _) hb
    have HT7 : Hid (Below w.heap.size w w7) := bTrans HT6.out HB7.out
    have SZ7 : Hid (w6.heap.size ≤ w7.heap.size) := HB7.out.size
    have QN_7 : Hid (Box w7 w1.heap.size (.slice a1 s.length c1) (.slice b1 d.length e1) 26) := QN_6.out.keep HB7.out
    have QM_7 : Hid (Box w7 (w1.heap.size + 1) (.slice a2 t.length c2) (.slice b2 f.length e2) 26) := QM_6.out.keep HB7.out
    have QG_7 : Hid (Box w7 w2.heap.size (.slice aG S.length cG) (.slice bG D.length eG) 26) := QG_6.out.keep HB7.out
    have QW_7 : Hid (Box w7 w3.heap.size (.slice aW S.length cW) (.slice bW D.length eW) 26) := QW_6.out.keep HB7.out
    have QX_7 : Hid (Box w7 w5.heap.size (.slice aX S2.length cX) (.slice bX D2.length eX) 26) := QX_6.out.keep HB7.out
    have N_7 : Hid (Arr w.heap.size w1.heap.size w7 (.agg #[.slice a1 s.length c1, .slice b1 d.length e1]) s d) := N_6.out.keep HB7.out
    have M_7 : Hid (Arr w.heap.size w1.heap.size w7 (.agg #[.slice a2 t.length c2, .slice b2 f.length e2]) t f) := M_6.out.keep HB7.out
    have G_7 : Hid (Arr (w1.heap.size + 2) w2.heap.size w7 (.agg #[.slice aG S.length cG, .slice bG D.length eG]) S D) := G_6.out.keep HB7.out
    have Y_7 : Hid (Arr (w5.heap.size + 1) w6.heap.size w7 (.agg #[.slice aY S3.length cY, .slice bY D3.length eY]) S3 D3) := Y_6.out.keep HB7.out
    have QY_7 : Hid (Box w7 w6.heap.size (.slice aY S3.length cY) (.slice bY D3.length eY) 26) := (box_new w6 _ _ _).keep hb
    have LTQY : Hid (w6.heap.size < w7.heap.size) := QY_7.out.lt
    clear QN_6 QM_6 QG_6 QW_6 QX_6 N_6 M_6 G_6 Y_6 QNc0 QNc1 QNd0 QNd1 QMc0 QMc1 QMd0 QMd1 QGc0 QGc1 QGd0 QGd1 QWc0 QWc1 QWd0 QWd1 QXc0 QXc1 QXd0 QXd1 hb
    have QNc0 := QN_7.out.c0
    have QNc1 := QN_7.out.c1
    have QMc0 := QM_7.out.c0
    have QMc1 := QM_7.out.c1
    have QGc0 := QG_7.out.c0
    have QGc1 := QG_7.out.c1
    have QWc0 := QW_7.out.c0
    have QWc1 := QW_7.out.c1
    have QXc0 := QX_7.out.c0
    have QXc1 := QX_7.out.c1
    have QYc0 := QY_7.out.c0
    have QYc1 := QY_7.out.c1
    have n0 : (C != 0) = true := by simpa using hc
    have hl : ((D.length : Int) == 0) = true := by rw [FB.out hc]; rfl
    have hl2 : D.length = 0 := FB.out hc
    clear FG FB
    go_wp2
    go_ret
    exact ⟨rfl, HT7.out⟩
  · have HO : Hid (arrOk t f = false) := by show _ = _; simpa using ho
    clear ho
    rw [HO.out]
    have n0 : (C != 0) = true := by simpa using hc
    have hl : ((D.length : Int) == 0) = true := by rw [FB.out hc]; rfl
    have hl2 : D.length = 0 := FB.out hc
    clear FG FB
    go_wp2
    go_ret
    exact ⟨rfl, HT4.out⟩

/-! ### THE ROW's STEP: WRITTEN OUT: LEAVE IT -/
set_option maxRecDepth 100000 in
theorem lifted (os : Os) (started : os.Started) (H : Type) (enc : TypeId × Value → H) :
    ReturnsInHanded {} Try.checked os 5 .any (Rows.fnReshapedSpec.pre6 enc Try.prog Try.f5 Rows.fnReshapedRow.domain false) (Rows.fnReshapedSpec.post enc Try.prog Try.f5 false true false false) := by
  refine returnsInHanded_of_change (C := Try.checked) own started (by kernel_rfl) Try.func5
    (ChangeSpec.witness6 (enc := enc) (C := Try.checked) false ⟨#[], #[.slice none 0 0], []⟩ 8 (by kernel_rfl) (by kernel_rfl) (by kernel_rfl) (by kernel_rfl)) ?_
  intro W base args ds gs before hval0 hW hcnd _
  have hval : ∀ (j : Nat) t v, Try.f5.params[j]? = some t → args[j]? = some v → Value.okWide Try.prog W .any base t v := hval0
  have hW' := hW
  obtain ⟨p, q, hA0, hV, rfl, hfz, hnd⟩ := hW
  have hA : DataW.TrodAll enc Try.prog W 0 (fun _ => true) true Try.f5.params.toList args.toList ds p := hA0
  rw [Try.params5] at hA hval
  obtain ⟨v0, vs0, d0, ds0, p0, q0, hargs, rfl, rfl, h0, r0⟩ := trodAll_cons hA
  obtain ⟨rfl, rfl, rfl⟩ := trodAll_nil r0
  obtain rfl : args = #[v0] := by cases args; simp_all
  obtain ⟨rfl, rfl⟩ := trodVars_none hV
  obtain ⟨a0, len0, cap0, rfl⟩ := okWide_slice Try.underlying22 (hval 0 22 v0 rfl rfl)
  have k0 := h0
  have lt0 : ∀ x ∈ p0, x.block < W.heap.size := by obtain ⟨m, hm⟩ := k0; exact DataW.trod_lt m _ _ _ hm
  obtain ⟨z0, w0⟩ : ∃ zs, IsRow .u8 W a0 len0 cap0 zs := by
    obtain ⟨fuel, hf⟩ := h0
    rcases open_ints Try.underlying22 Try.underlying5 (by kernel_rfl) hf with ⟨hcs, _⟩ | ⟨x, l, c, zs, hcs, _, hl, hm, hz, _, hcell, hwz⟩
    · simp [Value.cells] at hcs
      obtain ⟨rfl, rfl, rfl⟩ := hcs
      exact ⟨[], .inl ⟨rfl, rfl, rfl, rfl⟩⟩
    · simp [Value.cells] at hcs
      obtain ⟨rfl, rfl, rfl⟩ := hcs
      exact ⟨zs, .inr ⟨_, rfl, hl, hm, by simpa using hz, hcell, hwz⟩⟩
  clear hA0 hval0
  refine (walk a0 len0 cap0 z0 W w0).mono fun e W' ⟨he, bel⟩ => ?_
  subst he
  exact ⟨_, rfl, _, _, _, [], _, [], hW', trodAll_mk1 (shut_bool Try.underlying4 _), (trodAll_cons_mk (Below.trod laidOut (by kernel_rfl) (of_decide_eq_true (by kernel_rfl)) k0 bel lt0) trodAll_mk0), rfl, bel.frame _, fun h => by cases h⟩

theorem over : Rows.fnReshapedRow.holds Try.pinned (OpenSpec.ofChange Rows.fnReshapedSpec) :=
  OpenClaim.holds_of_wide 5 Try.f5 rfl rfl rfl rfl rfl rfl rfl ⟨rfl, rfl, rfl, rfl, rfl⟩ rfl rfl rfl rfl rfl (by kernel_rfl) Try.func5 (by kernel_rfl)
    (of_decide_eq_true (by kernel_rfl)) (by unfold Func.isWrapper; first | (rw [if_pos (by decide +kernel)]; kernel_rfl) | (rw [if_neg (by decide +kernel)]; exact ⟨rfl, rfl⟩))
    (fun os started H enc _ => lifted os started H enc)

/-- ████ THE STATEMENT ████ -/
theorem proved : Rows.FnReshapedSaid := over
end Go.Proofs.Ytlbmbjgbihljhac.fnReshaped
namespace Go.Proofs.Ytlbmbjgbihljhac
theorem fnReshaped_holds : Rows.FnReshapedSaid := fnReshaped.proved
#print axioms fnReshaped_holds
end Go.Proofs.Ytlbmbjgbihljhac
