/-
  Proved: whatever code it is given, the law FnRotated returns true (a drawn array that the program rotates has the same rows, that of a number at that number from there). No condition.
-/
import Derived.Test.YtlbmbjgbihljhadRows
import Derived.WalkKit
import Derived.ProofKit
import Derived.OpenShut
import Derived.ShutString
import Derived.ChangeOld
import Derived.Below
import Derived.Test.YtlbmbjgbihljhadRotF
import Derived.Test.YtlbmbjgbihljhadDrawBy
import Derived.Test.YtlbmbjgbihljhadSpecMake6
import Derived.Test.YtlbmbjgbihljhadImplMake8
import Derived.Test.YtlbmbjgbihljhadSpecEach1
import Derived.Test.YtlbmbjgbihljhadImplRows2
import Derived.Test.YtlbmbjgbihljhadLaw3
namespace Go.Proofs.Ytlbmbjgbihljhad.fnRotated
open Go.ChangeShapes Go.WideShapes Go.ChangeAt Go.RowKit
open Go.ChangeMaps (open_string shut_string)
set_option linter.unusedVariables false
set_option linter.unusedSimpArgs false
set_option linter.unusedVariables false

theorem own : ownKnob Try.prog.godebug = none := by kernel_rfl
theorem laidOut : laidOutB Try.prog = true := by kernel_rfl

/-! ### STEP 1: THE WALK: the Go text returns true, AND WRITES NOTHING THAT WAS THERE: 'Below w.heap.size w w'' (Derived/Below.lean: '.refl', '.alloc', '.drew', '.setCell' at a new block, '.trans'). Open each 'IsRow' by 'rcases' AHEAD of 'go_enter'; part every test ahead of the walk. -/
set_option maxRecDepth 20000 in
set_option maxHeartbeats 8000000 in
theorem walk (a0 : Option Addr) (len0 cap0 : Nat) (z0 : List Int) (w : World) (w0 : IsRow .u8 w a0 len0 cap0 z0) :
    Calls Try.prog 5 #[.slice a0 len0 cap0] w fun e w' => e = .returned (.bool true) ∧ Below w.heap.size w w' := by
  have HS : Hid (Src w.heap.size w a0 len0) := src_of_row w0
  clear w0
  by_cases hbig : (1048576 : Int) < (len0 : Int)
  · go_enter Try.func5, Try.ntmps5
    go_wp2_with (go_at_call 9; refine (big_laws _ _ _ _).mono ?_; rintro e w' ⟨rfl, hw⟩; subst w')
    go_ret
    exact ⟨rfl, Below.refl _ _⟩
  have hb20 : len0 ≤ 1048576 := by omega
  go_enter Try.func5, Try.ntmps5
  go_wp2_with (go_at_call 9; refine (big_laws _ _ _ _).mono ?_; rintro e w' ⟨rfl, hw⟩; subst w')
  refine (drawRotate_spec HS.out hb20).mono ?_
  rintro r w1 ⟨v1, v2, s, d, t, f, rfl, ha, hc0, ⟨hls, hld, hlt, hlf⟩, hb⟩
  obtain ⟨a1, c1, b1, e1, rfl, _, _, _, _⟩ := ha.arrI
  obtain ⟨a2, c2, b2, e2, rfl, _, _, _, _⟩ := hc0.arrI
  have N_1 : Hid (Arr w.heap.size w1.heap.size w1 (.agg #[.slice a1 s.length c1, .slice b1 d.length e1]) s d) := ha
  have M_1 : Hid (Arr w.heap.size w1.heap.size w1 (.agg #[.slice a2 t.length c2, .slice b2 f.length e2]) t f) := hc0
  have Ls : Hid (s.length ≤ 1048576) := by show _ ≤ _; omega
  have Ld : Hid (d.length ≤ 1048576) := by show _ ≤ _; omega
  have Lt : Hid (t.length ≤ 1048576) := by show _ ≤ _; omega
  have Lf : Hid (f.length ≤ 1048576) := by show _ ≤ _; omega
  have HT1 : Hid (Below w.heap.size w w1) := hb
  have SZ1 : Hid (w.heap.size ≤ w1.heap.size) := hb.size
  clear hb ha hc0 hls hld hlt hlf
  obtain ⟨C, hC⟩ : ∃ y, y = (rotateR s d t f).1 := ⟨_, rfl⟩
  obtain ⟨S, hS⟩ : ∃ y, y = (rotateR s d t f).2.1 := ⟨_, rfl⟩
  obtain ⟨D, hD⟩ : ∃ y, y = (rotateR s d t f).2.2 := ⟨_, rfl⟩
  have LA : Hid (S.length ≤ 1048576 ∧ D.length ≤ 1048576) := by show _ ∧ _; rw [hS, hD]; exact mkR_len (fun _ => Lt.out) (fun h => by rw [rotateD_len h]; exact Lf.out)
  have EI : Hid (∀ (W : World) (u0 : Value) (_ : ArrI W u0 s d) (u1 : Value) (_ : ArrI W u1 t f), Calls Try.prog 22 #[u0, u1] W fun e w' => ∃ v, e = .returned (.tuple #[v, .int .i64 C]) ∧ Arr W.heap.size w'.heap.size w' v S D ∧ Below W.heap.size W w') := by
    intro W u0 h0 u1 h1
    rw [hC, hS, hD]
    exact rotate_impl h0 h1 Ls.out Ld.out Lt.out Lf.out
  have ES : Hid (∀ (W : World) (u0 : Value) (_ : ArrI W u0 s d) (u1 : Value) (_ : ArrI W u1 t f), Calls Try.prog 25 #[u0, u1] W fun e w' => ∃ v, e = .returned (.tuple #[v, .int .i64 C]) ∧ Arr W.heap.size w'.heap.size w' v S D ∧ Below W.heap.size W w') := by
    intro W u0 h0 u1 h1
    rw [hC, hS, hD]
    exact rotate_spec h0 h1 Ld.out Lt.out Lf.out
  have FG : Hid (C = 0 → arrOk t f = true ∧ d.length = 1 ∧ (-1000000000000 ≤ d.getD 0 0 ∧ d.getD 0 0 ≤ 1000000000000) ∧ S = t ∧ D = rotateD (d.getD 0 0) t f) := by
    intro h
    rw [hC] at h
    obtain ⟨⟨q1, q2⟩, q3, q4, q5⟩ := rot_code h
    rw [hS, hD, q4, q5]
    exact ⟨q2, q3, num_bd q1 (by omega), rfl, rfl⟩
  have FB : Hid (C ≠ 0 → D.length = 0) := by
    intro h
    rw [hD]
    rw [hC] at h
    exact rot_bad h
  have SA : Hid (∀ (W : World) (u v : Value), ArrI W u t f → ArrI W v S D → Calls Try.prog 23 #[u, v] W fun e w' => e = .returned (.bool (decide (t = S) && decide (f = D))) ∧ Below W.heap.size W w') := fun W u v h k => same_arr h k Lt.out Lf.out
  have hneC : (C != C) = false := by simp
  clear hC hS hD
  go_wp2_with fail
  refine (EI.out _ _ ((N_1.out.arrI).keep (bAlloc (bAlloc (Below.refl _ _) _) _)) _ ((M_1.out.arrI).keep (bAlloc (bAlloc (Below.refl _ _) _) _))).mono ?_
  rintro r w2 ⟨vG, rfl, ha, hb⟩
  obtain ⟨aG, cG, bG, eG, rfl, _, _, _, _⟩ := ha.arrI
  have G_2 : Hid (Arr (w1.heap.size + 2) w2.heap.size w2 (.agg #[.slice aG S.length cG, .slice bG D.length eG]) S D) := ha.mono (by first | exact Nat.le_refl _ | simp | (simp; omega)) (Nat.le_refl _)
  clear ha
  have HB2 : Hid (Below w1.heap.size w1 w2) := bTrans (bAlloc (bAlloc (Below.refl _ _) _) _) hb
  have HT2 : Hid (Below w.heap.size w w2) := bTrans HT1.out HB2.out
  have SZ2 : Hid (w1.heap.size ≤ w2.heap.size) := HB2.out.size
  have N_2 : Hid (Arr w.heap.size w1.heap.size w2 (.agg #[.slice a1 s.length c1, .slice b1 d.length e1]) s d) := N_1.out.keep HB2.out
  have M_2 : Hid (Arr w.heap.size w1.heap.size w2 (.agg #[.slice a2 t.length c2, .slice b2 f.length e2]) t f) := M_1.out.keep HB2.out
  have QN_2 : Hid (Box w2 w1.heap.size (.slice a1 s.length c1) (.slice b1 d.length e1) 26) := ((box_new w1 _ _ _).keep (bAlloc (Below.refl _ _) _)).keep hb
  have LTQN : Hid (w1.heap.size < w2.heap.size) := QN_2.out.lt
  have QM_2 : Hid (Box w2 (w1.heap.size + 1) (.slice a2 t.length c2) (.slice b2 f.length e2) 26) := (box_new2 w1 _ _ _ _).keep hb
  have LTQM : Hid ((w1.heap.size + 1) < w2.heap.size) := QM_2.out.lt
  clear N_1 M_1 hb
  have QNc0 := QN_2.out.c0
  have QNc1 := QN_2.out.c1
  have QNd0 : ∀ o : Obj, (w2.alloc o).cell? ⟨w1.heap.size, 0, none⟩ = some (.slice a1 s.length c1) := fun o => (QN_2.out.keep (bAlloc (Below.refl _ _) o)).c0
  have QNd1 : ∀ o : Obj, (w2.alloc o).cell? ⟨w1.heap.size, 1, none⟩ = some (.slice b1 d.length e1) := fun o => (QN_2.out.keep (bAlloc (Below.refl _ _) o)).c1
  have QMc0 := QM_2.out.c0
  have QMc1 := QM_2.out.c1
  have QMd0 : ∀ o : Obj, (w2.alloc o).cell? ⟨(w1.heap.size + 1), 0, none⟩ = some (.slice a2 t.length c2) := fun o => (QM_2.out.keep (bAlloc (Below.refl _ _) o)).c0
  have QMd1 : ∀ o : Obj, (w2.alloc o).cell? ⟨(w1.heap.size + 1), 1, none⟩ = some (.slice b2 f.length e2) := fun o => (QM_2.out.keep (bAlloc (Below.refl _ _) o)).c1
  go_wp2_with fail
  refine (ES.out _ _ ((N_2.out.arrI).keep (bAlloc (Below.refl _ _) _)) _ ((M_2.out.arrI).keep (bAlloc (Below.refl _ _) _))).mono ?_
  rintro r w3 ⟨vW, rfl, ha, hb⟩
  obtain ⟨aW, cW, bW, eW, rfl, _, _, _, _⟩ := ha.arrI
  have W_3 : Hid (Arr (w2.heap.size + 1) w3.heap.size w3 (.agg #[.slice aW S.length cW, .slice bW D.length eW]) S D) := ha.mono (by first | exact Nat.le_refl _ | simp | (simp; omega)) (Nat.le_refl _)
  clear ha
  have HB3 : Hid (Below w2.heap.size w2 w3) := bTrans (bAlloc (Below.refl _ _) _) hb
  have HT3 : Hid (Below w.heap.size w w3) := bTrans HT2.out HB3.out
  have SZ3 : Hid (w2.heap.size ≤ w3.heap.size) := HB3.out.size
  have QN_3 : Hid (Box w3 w1.heap.size (.slice a1 s.length c1) (.slice b1 d.length e1) 26) := QN_2.out.keep HB3.out
  have QM_3 : Hid (Box w3 (w1.heap.size + 1) (.slice a2 t.length c2) (.slice b2 f.length e2) 26) := QM_2.out.keep HB3.out
  have N_3 : Hid (Arr w.heap.size w1.heap.size w3 (.agg #[.slice a1 s.length c1, .slice b1 d.length e1]) s d) := N_2.out.keep HB3.out
  have M_3 : Hid (Arr w.heap.size w1.heap.size w3 (.agg #[.slice a2 t.length c2, .slice b2 f.length e2]) t f) := M_2.out.keep HB3.out
  have G_3 : Hid (Arr (w1.heap.size + 2) w2.heap.size w3 (.agg #[.slice aG S.length cG, .slice bG D.length eG]) S D) := G_2.out.keep HB3.out
  have QG_3 : Hid (Box w3 w2.heap.size (.slice aG S.length cG) (.slice bG D.length eG) 26) := (box_new w2 _ _ _).keep hb
  have LTQG : Hid (w2.heap.size < w3.heap.size) := QG_3.out.lt
  clear QN_2 QM_2 N_2 M_2 G_2 QNc0 QNc1 QNd0 QNd1 QMc0 QMc1 QMd0 QMd1 hb
  have QNc0 := QN_3.out.c0
  have QNc1 := QN_3.out.c1
  have QNd0 : ∀ o : Obj, (w3.alloc o).cell? ⟨w1.heap.size, 0, none⟩ = some (.slice a1 s.length c1) := fun o => (QN_3.out.keep (bAlloc (Below.refl _ _) o)).c0
  have QNd1 : ∀ o : Obj, (w3.alloc o).cell? ⟨w1.heap.size, 1, none⟩ = some (.slice b1 d.length e1) := fun o => (QN_3.out.keep (bAlloc (Below.refl _ _) o)).c1
  have QMc0 := QM_3.out.c0
  have QMc1 := QM_3.out.c1
  have QMd0 : ∀ o : Obj, (w3.alloc o).cell? ⟨(w1.heap.size + 1), 0, none⟩ = some (.slice a2 t.length c2) := fun o => (QM_3.out.keep (bAlloc (Below.refl _ _) o)).c0
  have QMd1 : ∀ o : Obj, (w3.alloc o).cell? ⟨(w1.heap.size + 1), 1, none⟩ = some (.slice b2 f.length e2) := fun o => (QM_3.out.keep (bAlloc (Below.refl _ _) o)).c1
  have QGc0 := QG_3.out.c0
  have QGc1 := QG_3.out.c1
  have QGd0 : ∀ o : Obj, (w3.alloc o).cell? ⟨w2.heap.size, 0, none⟩ = some (.slice aG S.length cG) := fun o => (QG_3.out.keep (bAlloc (Below.refl _ _) o)).c0
  have QGd1 : ∀ o : Obj, (w3.alloc o).cell? ⟨w2.heap.size, 1, none⟩ = some (.slice bG D.length eG) := fun o => (QG_3.out.keep (bAlloc (Below.refl _ _) o)).c1
  by_cases hc : C = 0
  · obtain ⟨ho, hd1, ⟨x1, x2⟩, hSt, hDr⟩ := FG.out hc
    subst hc
    subst hSt
    have HO : Hid (arrOk S f = true) := ho
    have HDR : Hid (D = rotateD (d.getD 0 0) S f) := hDr
    clear ho hDr FG FB
    by_cases hn : S = [] ∨ S.getD 0 0 = 0
    · have hDf : D = f := by rw [HDR.out]; exact rot_none hn
      have SA' : Hid (∀ (W : World) (u v : Value), ArrI W u S f → ArrI W v S D → Calls Try.prog 23 #[u, v] W fun e w' => e = .returned (.bool true) ∧ Below W.heap.size W w') := by
        intro W u v h k
        have q := SA.out W u v h k
        rw [hDf] at q
        simpa [hDf] using q
      clear hDf SA
      by_cases h0 : S = []
      · have hl0 : ((S.length : Int) == 0) = true := by rw [h0]; rfl
        clear hn h0
        go_wp2_with fail
        refine (SA'.out _ _ _ ((M_3.out.arrI).keep (bAlloc (Below.refl _ _) _)) ((G_3.out.arrI).keep (bAlloc (Below.refl _ _) _))).mono ?_
        rintro r w4 ⟨rfl, hb⟩
        have HB4 : Hid (Below w3.heap.size w3 w4) := bTrans (bAlloc (Below.refl _ _) _) hb
        have HT4 : Hid (Below w.heap.size w w4) := bTrans HT3.out HB4.out
        have SZ4 : Hid (w3.heap.size ≤ w4.heap.size) := HB4.out.size
        have QN_4 : Hid (Box w4 w1.heap.size (.slice a1 s.length c1) (.slice b1 d.length e1) 26) := QN_3.out.keep HB4.out
        have QM_4 : Hid (Box w4 (w1.heap.size + 1) (.slice a2 S.length c2) (.slice b2 f.length e2) 26) := QM_3.out.keep HB4.out
        have QG_4 : Hid (Box w4 w2.heap.size (.slice aG S.length cG) (.slice bG D.length eG) 26) := QG_3.out.keep HB4.out
        have N_4 : Hid (Arr w.heap.size w1.heap.size w4 (.agg #[.slice a1 s.length c1, .slice b1 d.length e1]) s d) := N_3.out.keep HB4.out
        have M_4 : Hid (Arr w.heap.size w1.heap.size w4 (.agg #[.slice a2 S.length c2, .slice b2 f.length e2]) S f) := M_3.out.keep HB4.out
        have G_4 : Hid (Arr (w1.heap.size + 2) w2.heap.size w4 (.agg #[.slice aG S.length cG, .slice bG D.length eG]) S D) := G_3.out.keep HB4.out
        have QW_4 : Hid (Box w4 w3.heap.size (.slice aW S.length cW) (.slice bW D.length eW) 26) := (box_new w3 _ _ _).keep hb
        have LTQW : Hid (w3.heap.size < w4.heap.size) := QW_4.out.lt
        clear QN_3 QM_3 QG_3 N_3 M_3 G_3 QNc0 QNc1 QNd0 QNd1 QMc0 QMc1 QMd0 QMd1 QGc0 QGc1 QGd0 QGd1 hb
        go_wp2
        go_ret
        exact ⟨rfl, HT4.out⟩
      · have hz : S.getD 0 0 = 0 := hn.resolve_left h0
        have hsz : ((S.length : Int) == 0) = false := by simp; exact h0
        have hl0 : 0 < S.length := List.length_pos_iff.2 h0
        have hl0i : (0 : Int) < (S.length : Int) := by omega
        obtain ⟨_, _, _, _, ev, j0, _, _, _⟩ := M_3.out.arrI
        cases ev
        obtain ⟨p3, o3, rfl, hp3, t3⟩ := j0.at hl0
        rw [Nat.add_zero, hz] at t3
        have t3d : ∀ o : Obj, (w3.alloc o).cell? ⟨p3, o3, none⟩ = some (.int .i64 0) := fun o => ((bAlloc (Below.refl w3.heap.size w3) o).cell (p := ⟨p3, o3, none⟩) hp3).trans t3
        clear j0 hn h0 hz
        go_wp2_with fail
        refine (SA'.out _ _ _ ((M_3.out.arrI).keep (bAlloc (Below.refl _ _) _)) ((G_3.out.arrI).keep (bAlloc (Below.refl _ _) _))).mono ?_
        rintro r w4 ⟨rfl, hb⟩
        have HB4 : Hid (Below w3.heap.size w3 w4) := bTrans (bAlloc (Below.refl _ _) _) hb
        have HT4 : Hid (Below w.heap.size w w4) := bTrans HT3.out HB4.out
        have SZ4 : Hid (w3.heap.size ≤ w4.heap.size) := HB4.out.size
        have QN_4 : Hid (Box w4 w1.heap.size (.slice a1 s.length c1) (.slice b1 d.length e1) 26) := QN_3.out.keep HB4.out
        have QM_4 : Hid (Box w4 (w1.heap.size + 1) (.slice (some ⟨p3, o3, none⟩) S.length c2) (.slice b2 f.length e2) 26) := QM_3.out.keep HB4.out
        have QG_4 : Hid (Box w4 w2.heap.size (.slice aG S.length cG) (.slice bG D.length eG) 26) := QG_3.out.keep HB4.out
        have N_4 : Hid (Arr w.heap.size w1.heap.size w4 (.agg #[.slice a1 s.length c1, .slice b1 d.length e1]) s d) := N_3.out.keep HB4.out
        have M_4 : Hid (Arr w.heap.size w1.heap.size w4 (.agg #[.slice (some ⟨p3, o3, none⟩) S.length c2, .slice b2 f.length e2]) S f) := M_3.out.keep HB4.out
        have G_4 : Hid (Arr (w1.heap.size + 2) w2.heap.size w4 (.agg #[.slice aG S.length cG, .slice bG D.length eG]) S D) := G_3.out.keep HB4.out
        have QW_4 : Hid (Box w4 w3.heap.size (.slice aW S.length cW) (.slice bW D.length eW) 26) := (box_new w3 _ _ _).keep hb
        have LTQW : Hid (w3.heap.size < w4.heap.size) := QW_4.out.lt
        clear QN_3 QM_3 QG_3 N_3 M_3 G_3 QNc0 QNc1 QNd0 QNd1 QMc0 QMc1 QMd0 QMd1 QGc0 QGc1 QGd0 QGd1 hb
        go_wp2
        go_ret
        exact ⟨rfl, HT4.out⟩
    · obtain ⟨n, hn0, hn1, hn3, f1, f2, tn1, tn2, ⟨tn3, tn4⟩, hrows⟩ := rot_rows (d.getD 0 0) HO.out hn
      have h0 : S ≠ [] := fun q => hn (.inl q)
      have hl0 : 0 < S.length := List.length_pos_iff.2 h0
      have hl0i : (0 : Int) < (S.length : Int) := by omega
      obtain ⟨_, _, _, _, ev, j0, _, _, _⟩ := M_3.out.arrI
      cases ev
      obtain ⟨p3, o3, rfl, hp3, t3⟩ := j0.at hl0
      obtain ⟨_, _, _, _, ev, _, i1, _, _⟩ := N_3.out.arrI
      cases ev
      have L0 : 0 < d.length := by omega
      have L0i : (0 : Int) < (d.length : Int) := by omega
      obtain ⟨p1, o1, rfl, hp1, t1⟩ := i1.at L0
      rw [Nat.add_zero, hn0] at t3
      rw [Nat.add_zero] at t1
      have t3d : ∀ o : Obj, (w3.alloc o).cell? ⟨p3, o3, none⟩ = some (.int .i64 (n : Int)) := fun o => ((bAlloc (Below.refl w3.heap.size w3) o).cell (p := ⟨p3, o3, none⟩) hp3).trans t3
      obtain ⟨FB', hFB⟩ : ∃ F, F = rowsF S f := ⟨_, rfl⟩
      obtain ⟨FC, hFC⟩ : ∃ F, F = rowsF S D := ⟨_, rfl⟩
      rw [← HDR.out, ← hFB, ← hFC] at hrows
      rw [← hFB] at f1
      rw [← HDR.out, ← hFC] at f2
      have RB : Hid (∀ (W : World) (u : Value), ArrI W u S f → Calls Try.prog 26 #[u] W fun e w' => ∃ v, e = .returned v ∧ Arrs W.heap.size w'.heap.size w' v FB' ∧ Below W.heap.size W w') := fun W u hh => by rw [hFB]; exact rows_impl hh Lt.out Lf.out
      have RC : Hid (∀ (W : World) (u : Value), ArrI W u S D → Calls Try.prog 26 #[u] W fun e w' => ∃ v, e = .returned v ∧ Arrs W.heap.size w'.heap.size w' v FC ∧ Below W.heap.size W w') := fun W u hh => by rw [hFC]; exact rows_impl hh LA.out.1 LA.out.2
      have HF1 : Hid (FB'.length = 2 * n) := f1
      have HF2 : Hid (FC.length = 2 * n) := f2
      have LFB : Hid (∀ q, (FB'.getD q []).length ≤ 300) := by rw [hFB]; exact rowsF_each S f
      have LFC : Hid (∀ q, (FC.getD q []).length ≤ 300) := by rw [hFC]; exact rowsF_each S D
      generalize hx : d.getD 0 0 = x at *
      obtain ⟨BY, hBY⟩ : ∃ B, B = rotateBy x n := ⟨_, rfl⟩
      rw [← hBY] at tn1 tn2 hrows
      have HROW : Hid (∀ k, k < n → FC.getD (2 * k) [] = FB'.getD (2 * ((k + BY) % n)) [] ∧ FC.getD (2 * k + 1) [] = FB'.getD (2 * ((k + BY) % n) + 1) []) := hrows
      have T1 : Hid (w3.cell? ⟨p1, o1, none⟩ = some (.int .i64 x) ∧ p1 < w3.heap.size) := ⟨t1, hp1⟩
      have hne0 : ((n : Int) == 0) = false := by simp; omega
      have hnz : ¬ n = 0 := by omega
      have hnb : (n == 0) = false := by simp; omega
      have hsz : ((S.length : Int) == 0) = false := by simp; exact h0
      clear hn h0 j0 i1 f1 f2 hrows hFB hFC hBY HDR t1 hx
      go_wp2_with fail
      generalize hwz : w3.alloc (.cells #[.slice aW S.length cW, .slice bW D.length eW] 26) = wz
      have BZ : Hid (Below w3.heap.size w3 wz) := by rw [← hwz]; exact bAlloc (Below.refl _ _) _
      have ZM : Hid (ArrI wz (.agg #[.slice (some ⟨p3, o3, none⟩) S.length c2, .slice b2 f.length e2]) S f) := M_3.out.arrI.keep BZ.out
      have ZG : Hid (ArrI wz (.agg #[.slice aG S.length cG, .slice bG D.length eG]) S D) := G_3.out.arrI.keep BZ.out
      have QNz : Hid (Box wz w1.heap.size (.slice a1 s.length c1) (.slice (some ⟨p1, o1, none⟩) d.length e1) 26) := QN_3.out.keep BZ.out
      have QMz : Hid (Box wz (w1.heap.size + 1) (.slice (some ⟨p3, o3, none⟩) S.length c2) (.slice b2 f.length e2) 26) := QM_3.out.keep BZ.out
      have QGz : Hid (Box wz w2.heap.size (.slice aG S.length cG) (.slice bG D.length eG) 26) := QG_3.out.keep BZ.out
      have HTz : Hid (Below w.heap.size w wz) := bTrans HT3.out BZ.out
      obtain ⟨_, _, _, _, ev, k1, _, _, _⟩ := ZM.out
      cases ev
      obtain ⟨_, _, _, _, ev, k2, _, _, _⟩ := ZG.out
      cases ev
      have SM0 : Hid (Ints wz (some ⟨p3, o3, none⟩) S) := k1
      have SG0 : Hid (Ints wz aG S) := k2
      clear k1 k2
      have T1z : Hid (wz.cell? ⟨p1, o1, none⟩ = some (.int .i64 x) ∧ p1 < wz.heap.size) := ⟨(BZ.out.cell (p := ⟨p1, o1, none⟩) T1.out.2).trans T1.out.1, Nat.lt_of_lt_of_le T1.out.2 BZ.out.size⟩
      clear hwz BZ QNc0 QNc1 QNd0 QNd1 QMc0 QMc1 QMd0 QMd1 QGc0 QGc1 QGd0 QGd1 t3 t3d T1
      have m2 := QMz.out.c0
      have m3 := QMz.out.c1
      have m4 := QGz.out.c0
      have m5 := QGz.out.c1
      go_region_held3 (fun w' => w'.cell? ⟨(w1.heap.size + 1), 0, none⟩ = some (.slice (some ⟨p3, o3, none⟩) S.length c2) ∧ w'.cell? ⟨(w1.heap.size + 1), 1, none⟩ = some (.slice b2 f.length e2) ∧ w'.cell? ⟨w2.heap.size, 0, none⟩ = some (.slice aG S.length cG) ∧ w'.cell? ⟨w2.heap.size, 1, none⟩ = some (.slice bG D.length eG))
        (first | with_reducible exact ⟨y2, y3, y4, y5⟩ | with_reducible exact ⟨z2, z3, z4, z5⟩ | exact ⟨m2, m3, m4, m5⟩)
        (first
          | (go_at_call_of 26 (Value.agg #[.slice (some ⟨p3, o3, none⟩) S.length c2, .slice b2 f.length e2]); refine (RB.out _ _ (ZM.out.keep ((Below.refl wz.heap.size wz).drew))).mono ?_; rintro r wx ⟨vx, rfl, hF, hb⟩; have BX : Hid (Below wz.heap.size wz wx) := bTrans ((Below.refl wz.heap.size wz).drew) hb; have FX : Hid (ArrsI wx vx FB') := hF.arrsI; have z2 := (QMz.out.keep BX.out).c0; have z3 := (QMz.out.keep BX.out).c1; have z4 := (QGz.out.keep BX.out).c0; have z5 := (QGz.out.keep BX.out).c1; clear hF hb)
          | (go_at_call_of 26 (Value.agg #[.slice aG S.length cG, .slice bG D.length eG]); refine (RC.out _ _ (ZG.out.keep BX.out)).mono ?_; rintro r wy ⟨vy, rfl, hF, hb⟩; have BY' : Hid (Below wz.heap.size wz wy) := bTrans BX.out hb; have FXy : Hid (ArrsI wy vx FB') := FX.out.keep hb; have FYy : Hid (ArrsI wy vy FC) := hF.arrsI; have y2 := (QMz.out.keep BY'.out).c0; have y3 := (QMz.out.keep BY'.out).c1; have y4 := (QGz.out.keep BY'.out).c0; have y5 := (QGz.out.keep BY'.out).c1; clear hF hb))
      clear FX BX z2 z3 z4 z5 m2 m3 m4 m5 y2 y3 y4 y5 RB RC ZM ZG
      have QNy : Hid (Box wy w1.heap.size (.slice a1 s.length c1) (.slice (some ⟨p1, o1, none⟩) d.length e1) 26) := QNz.out.keep BY'.out
      have QMy : Hid (Box wy (w1.heap.size + 1) (.slice (some ⟨p3, o3, none⟩) S.length c2) (.slice b2 f.length e2) 26) := QMz.out.keep BY'.out
      have QGy : Hid (Box wy w2.heap.size (.slice aG S.length cG) (.slice bG D.length eG) 26) := QGz.out.keep BY'.out
      have SM : Hid (Ints wy (some ⟨p3, o3, none⟩) S) := (SM0.out.keep BY'.out)
      have SG : Hid (Ints wy aG S) := (SG0.out.keep BY'.out)
      have HTy : Hid (Below w.heap.size w wy) := bTrans HTz.out BY'.out
      have t1y : wy.cell? ⟨p1, o1, none⟩ = some (.int .i64 x) := (BY'.out.cell (p := ⟨p1, o1, none⟩) T1z.out.2).trans T1z.out.1
      clear QNz QMz QGz T1z HTz SM0 SG0
      have hvx := FXy.out
      obtain ⟨xa, xn, xc, rfl, hxn, _⟩ := hvx
      have hvy := FYy.out
      obtain ⟨ya, yn, yc, rfl, hyn, _⟩ := hvy
      obtain rfl : xn = n := by have := HF1.out; omega
      obtain rfl : yn = xn := by have := HF2.out; omega
      have e1 := QNy.out.c0
      have e2' := QNy.out.c1
      go_wp2
      clear tn1 tn3 tn4 t1y e1 e2'
      go_loopw [13] (fun i w' => ∃ k : Nat, k ≤ yn ∧ i = .int .i64 (k : Int) ∧ Below wy.heap.size wy w') (fun i _ => yn - (intOf i).toNat)
      case atStart => exact ⟨0, by omega, rfl, Below.refl _ _⟩
      case round =>
        obtain ⟨k, hk, rfl, hB⟩ := hrel
        have HC : Hid (Below wy.heap.size wy wr) := hB
        clear hB
        by_cases hkn : (k : Int) < (yn : Int)
        · obtain ⟨M, hM⟩ : ∃ M, M = (k + BY) % yn := ⟨_, rfl⟩
          have hkN : k < yn := by omega
          have hMn : M < yn := by rw [hM]; exact Nat.mod_lt _ hn1
          have eM : ((k : Int) + (BY : Int)).tmod (yn : Int) = (M : Int) := by
            rw [Int.tmod_eq_emod_of_nonneg (by omega), hM]; simp
          have eM2 : ((k : Int) + (BY : Int)) % (yn : Int) = (M : Int) := by rw [hM]; simp
          have hMi : (M : Int) < (yn : Int) := by omega
          obtain ⟨r1, r2⟩ := HROW.out k hkN
          rw [← hM] at r1 r2
          obtain ⟨ob, fb, sx, sy, rfl, hob, p0, p1', i0, i1⟩ := (FXy.out.keep HC.out).at (k := M) hMn
          obtain ⟨oc, fc, tx, ty, rfl, hoc, q0, q1, j0, j1⟩ := (FYy.out.keep HC.out).at (k := k) hkN
          rw [r1] at j0
          rw [r2] at j1
          have l1 := LFB.out (2 * M)
          have l2 := LFB.out (2 * M + 1)
          generalize FB'.getD (2 * M) [] = u1 at *
          generalize FB'.getD (2 * M + 1) [] = u2 at *
          obtain ⟨ax, cx, rfl, gx, ix⟩ := i0
          obtain ⟨ay, cy, rfl, gy, iy⟩ := i1
          obtain ⟨bx, dx, rfl, hx', jx⟩ := j0
          obtain ⟨by', dy, rfl, hy', jy⟩ := j1
          have AB : Hid (ArrI wr (.agg #[.slice ax u1.length cx, .slice ay u2.length cy]) u1 u2) := ⟨_, _, _, _, rfl, ix, iy, gx, gy⟩
          have AC : Hid (ArrI wr (.agg #[.slice bx u1.length dx, .slice by' u2.length dy]) u1 u2) := ⟨_, _, _, _, rfl, jx, jy, hx', hy'⟩
          have SB : Hid (∀ W, Below wr.heap.size wr W → Calls Try.prog 23 #[.agg #[.slice bx u1.length dx, .slice by' u2.length dy], .agg #[.slice ax u1.length cx, .slice ay u2.length cy]] W fun e w' => e = .returned (.bool true) ∧ Below W.heap.size W w') := fun W hh => by
            have q := same_arr (AC.out.keep hh) (AB.out.keep hh) (by omega) (by omega)
            simpa using q
          have hwk : IntKind.i64.wrap ((k : Int) + (BY : Int)) = (k : Int) + (BY : Int) := wrapI (by omega) (by omega)
          have hM0 : (0 : Int) ≤ (M : Int) := by omega
          clear hM r1 r2 ix iy jx jy gx gy hx' hy' l1 l2
          go_wp2_with fail
          go_region_held3 (fun w' => w'.cell? ⟨ob, fb + M * 2, none⟩ = some (.slice ax u1.length cx) ∧ w'.cell? ⟨ob, fb + M * 2 + 1, none⟩ = some (.slice ay u2.length cy) ∧ w'.cell? ⟨oc, fc + k * 2, none⟩ = some (.slice bx u1.length dx) ∧ w'.cell? ⟨oc, fc + k * 2 + 1, none⟩ = some (.slice by' u2.length dy))
            (first | with_reducible exact ⟨s0, s1, s2, s3⟩ | exact ⟨p0, p1', q0, q1⟩)
            ((go_at_call 23; refine (SB.out _ ((Below.refl wr.heap.size wr).drew)).mono ?_; rintro r wn ⟨rfl, hb⟩; have BN : Hid (Below wr.heap.size wr wn) := bTrans ((Below.refl wr.heap.size wr).drew) hb; have s0 := (BN.out.cell (p := ⟨ob, fb + M * 2, none⟩) hob).trans p0; have s1 := (BN.out.cell (p := ⟨ob, fb + M * 2 + 1, none⟩) hob).trans p1'; have s2 := (BN.out.cell (p := ⟨oc, fc + k * 2, none⟩) hoc).trans q0; have s3 := (BN.out.cell (p := ⟨oc, fc + k * 2 + 1, none⟩) hoc).trans q1; clear hb))
          go_wp2
          go_roundw
          case rel => exact ⟨k + 1, by omega, by go_num, bTrans HC.out BN.out⟩
          case measure => simp [intOf]; omega
        · have QMr : Hid (Box wr (w1.heap.size + 1) (.slice (some ⟨p3, o3, none⟩) S.length c2) (.slice b2 f.length e2) 26) := QMy.out.keep HC.out
          have QGr : Hid (Box wr w2.heap.size (.slice aG S.length cG) (.slice bG D.length eG) 26) := QGy.out.keep HC.out
          have SI : Hid (Calls Try.prog 15 #[.slice (some ⟨p3, o3, none⟩) S.length c2, .slice aG S.length cG] wr fun e w' => e = .returned (.bool true) ∧ Below wr.heap.size wr w') := by
            refine Calls.mono (same_ints c2 cG (by have := LA.out.1; omega) (SM.out.keep HC.out) (SG.out.keep HC.out)) ?_
            rintro r w' ⟨rfl, n, rfl⟩
            exact ⟨by simp, bDrewN (Below.refl _ _) n⟩
          have y2 := QMr.out.c0
          have y4 := QGr.out.c0
          go_wp2_with fail
          refine (SI.out).mono ?_
          rintro r wn ⟨rfl, hb⟩
          have CN : Hid (Below wr.heap.size wr wn) := hb
          clear hb
          go_wp2
          go_ret
          exact ⟨rfl, bTrans HTy.out (bTrans HC.out CN.out)⟩
  · have n0 : (C != 0) = true := by simpa using hc
    have hl : ((D.length : Int) == 0) = true := by rw [FB.out hc]; rfl
    have hl2 : D.length = 0 := FB.out hc
    clear FG FB
    go_wp2
    go_ret
    exact ⟨rfl, bTrans HT3.out (bAlloc (Below.refl _ _) _)⟩

/-! ### THE ROW's STEP: WRITTEN OUT: LEAVE IT -/
set_option maxRecDepth 100000 in
theorem lifted (os : Os) (started : os.Started) (H : Type) (enc : TypeId × Value → H) :
    ReturnsInHanded {} Try.checked os 5 .any (Rows.fnRotatedSpec.pre6 enc Try.prog Try.f5 Rows.fnRotatedRow.domain false) (Rows.fnRotatedSpec.post enc Try.prog Try.f5 false true false false) := by
  refine returnsInHanded_of_change (C := Try.checked) own started (by kernel_rfl) Try.func5
    (ChangeSpec.witness6 (enc := enc) (C := Try.checked) false ⟨#[], #[.slice none 0 0], []⟩ 8 (by kernel_rfl) (by kernel_rfl) (by kernel_rfl) (by kernel_rfl)) ?_
  intro W base args ds gs before hval0 hW hcnd _
  have hval : ∀ (j : Nat) t v, Try.f5.params[j]? = some t → args[j]? = some v → Value.okWide Try.prog W .any base t v := hval0
  have hW' := hW
  obtain ⟨p, q, hA0, hV, rfl, hfz, hnd⟩ := hW
  have hA : DataW.TrodAll enc Try.prog W 0 (fun _ => true) true Try.f5.params.toList args.toList ds p := hA0
  rw [Try.params5] at hA hval
  obtain ⟨v0, vs0, d0, ds0, p0, q0, hargs, rfl, rfl, h0, r0⟩ := trodAll_cons hA
  obtain ⟨rfl, rfl, rfl⟩ := trodAll_nil r0
  obtain rfl : args = #[v0] := by cases args; simp_all
  obtain ⟨rfl, rfl⟩ := trodVars_none hV
  obtain ⟨a0, len0, cap0, rfl⟩ := okWide_slice Try.underlying22 (hval 0 22 v0 rfl rfl)
  have k0 := h0
  have lt0 : ∀ x ∈ p0, x.block < W.heap.size := by obtain ⟨m, hm⟩ := k0; exact DataW.trod_lt m _ _ _ hm
  obtain ⟨z0, w0⟩ : ∃ zs, IsRow .u8 W a0 len0 cap0 zs := by
    obtain ⟨fuel, hf⟩ := h0
    rcases open_ints Try.underlying22 Try.underlying5 (by kernel_rfl) hf with ⟨hcs, _⟩ | ⟨x, l, c, zs, hcs, _, hl, hm, hz, _, hcell, hwz⟩
    · simp [Value.cells] at hcs
      obtain ⟨rfl, rfl, rfl⟩ := hcs
      exact ⟨[], .inl ⟨rfl, rfl, rfl, rfl⟩⟩
    · simp [Value.cells] at hcs
      obtain ⟨rfl, rfl, rfl⟩ := hcs
      exact ⟨zs, .inr ⟨_, rfl, hl, hm, by simpa using hz, hcell, hwz⟩⟩
  clear hA0 hval0
  refine (walk a0 len0 cap0 z0 W w0).mono fun e W' ⟨he, bel⟩ => ?_
  subst he
  exact ⟨_, rfl, _, _, _, [], _, [], hW', trodAll_mk1 (shut_bool Try.underlying4 _), (trodAll_cons_mk (Below.trod laidOut (by kernel_rfl) (of_decide_eq_true (by kernel_rfl)) k0 bel lt0) trodAll_mk0), rfl, bel.frame _, fun h => by cases h⟩

theorem over : Rows.fnRotatedRow.holds Try.pinned (OpenSpec.ofChange Rows.fnRotatedSpec) :=
  OpenClaim.holds_of_wide 5 Try.f5 rfl rfl rfl rfl rfl rfl rfl ⟨rfl, rfl, rfl, rfl, rfl⟩ rfl rfl rfl rfl rfl (by kernel_rfl) Try.func5 (by kernel_rfl)
    (of_decide_eq_true (by kernel_rfl)) (by unfold Func.isWrapper; first | (rw [if_pos (by decide +kernel)]; kernel_rfl) | (rw [if_neg (by decide +kernel)]; exact ⟨rfl, rfl⟩))
    (fun os started H enc _ => lifted os started H enc)

/-- ████ THE STATEMENT ████ -/
theorem proved : Rows.FnRotatedSaid := over
end Go.Proofs.Ytlbmbjgbihljhad.fnRotated
namespace Go.Proofs.Ytlbmbjgbihljhad
theorem fnRotated_holds : Rows.FnRotatedSaid := fnRotated.proved
#print axioms fnRotated_holds
end Go.Proofs.Ytlbmbjgbihljhad
