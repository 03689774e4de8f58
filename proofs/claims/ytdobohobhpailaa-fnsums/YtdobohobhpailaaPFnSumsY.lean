/-
  Proved: whatever code it is given, the law FnSums returns true: the sum of what is joined of two drawn vectors is the sum of both sums, if none is too great. No condition.
-/
import Derived.Test.YtdobohobhpailaaRows
import Derived.WalkKit
import Derived.ProofKit
import Derived.OpenShut
import Derived.ShutString
import Derived.ChangeOld
import Derived.Below
import Derived.Test.YtdobohobhpailaaZ2
import Derived.Test.YtdobohobhpailaaDrawJoinY
import Derived.Test.YtdobohobhpailaaZ1
import Derived.Test.YtdobohobhpailaaEachF
import Derived.Test.YtdobohobhpailaaLaw3
namespace Go.Proofs.Ytdobohobhpailaa.fnSums
open Go.ChangeShapes Go.WideShapes Go.ChangeAt Go.RowKit
open Go.ChangeMaps (open_string shut_string)
set_option linter.unusedVariables false
set_option linter.unusedSimpArgs false
set_option linter.unusedVariables false

theorem own : ownKnob Try.prog.godebug = none := by kernel_rfl
theorem laidOut : laidOutB Try.prog = true := by kernel_rfl

/-! ### STEP 1: THE WALK: the Go text returns true, AND WRITES NOTHING THAT WAS THERE: 'Below w.heap.size w w'' (Derived/Below.lean: '.refl', '.alloc', '.drew', '.setCell' at a new block, '.trans'). Open each 'IsRow' by 'rcases' AHEAD of 'go_enter'; part every test ahead of the walk. -/
set_option maxRecDepth 20000 in
set_option maxHeartbeats 8000000 in
theorem walk (a0 : Option Addr) (len0 cap0 : Nat) (z0 : List Int) (w : World) (w0 : IsRow .u8 w a0 len0 cap0 z0) :
    Calls Try.prog 3 #[.slice a0 len0 cap0] w fun e w' => e = .returned (.bool true) ∧ Below w.heap.size w w' := by
  have HS : Hid (Src w.heap.size w a0 len0) := src_of_row w0
  clear w0
  by_cases hbig : (1048576 : Int) < (len0 : Int)
  · go_enter Try.func3, Try.ntmps3
    go_wp2_with (go_at_call 4; refine (big_laws _ _ _ _).mono ?_; rintro e w' ⟨rfl, hw⟩; subst w')
    go_ret
    exact ⟨rfl, Below.refl _ _⟩
  have hb20 : len0 ≤ 1048576 := by omega
  go_enter Try.func3, Try.ntmps3
  go_wp2_with (go_at_call 4; refine (big_laws _ _ _ _).mono ?_; rintro e w' ⟨rfl, hw⟩; subst w')
  refine (drawJoin_spec HS.out hb20).mono ?_
  rintro r w1 ⟨v1, v2, s, d, t, f, rfl, ha, hc0, ⟨hls, hld, hlt, hlf⟩, hb⟩
  obtain ⟨a1, c1, b1, e1, rfl, _, _, _, _⟩ := ha.arrI
  obtain ⟨a2, c2, b2, e2, rfl, _, _, _, _⟩ := hc0.arrI
  have N_1 : Hid (Arr w.heap.size w1.heap.size w1 (.agg #[.slice a1 s.length c1, .slice b1 d.length e1]) s d) := ha
  have M_1 : Hid (Arr w.heap.size w1.heap.size w1 (.agg #[.slice a2 t.length c2, .slice b2 f.length e2]) t f) := hc0
  have Ls : Hid (s.length ≤ 1048576) := by show _ ≤ _; omega
  have Ld : Hid (d.length ≤ 1048576) := by show _ ≤ _; omega
  have Lt : Hid (t.length ≤ 1048576) := by show _ ≤ _; omega
  have Lf : Hid (f.length ≤ 1048576) := by show _ ≤ _; omega
  have HT1 : Hid (Below w.heap.size w w1) := hb
  have SZ1 : Hid (w.heap.size ≤ w1.heap.size) := hb.size
  clear hb ha hc0 hls hld hlt hlf
  obtain ⟨C, hC⟩ : ∃ y, y = (joinR s d t f).1 := ⟨_, rfl⟩
  obtain ⟨S, hS⟩ : ∃ y, y = (joinR s d t f).2.1 := ⟨_, rfl⟩
  obtain ⟨D, hD⟩ : ∃ y, y = (joinR s d t f).2.2 := ⟨_, rfl⟩
  obtain ⟨C1, hC1⟩ : ∃ y, y = (reduceR 43 s d).1 := ⟨_, rfl⟩
  obtain ⟨S1, hS1⟩ : ∃ y, y = (reduceR 43 s d).2.1 := ⟨_, rfl⟩
  obtain ⟨D1, hD1⟩ : ∃ y, y = (reduceR 43 s d).2.2 := ⟨_, rfl⟩
  obtain ⟨C2, hC2⟩ : ∃ y, y = (reduceR 43 t f).1 := ⟨_, rfl⟩
  obtain ⟨S2, hS2⟩ : ∃ y, y = (reduceR 43 t f).2.1 := ⟨_, rfl⟩
  obtain ⟨D2, hD2⟩ : ∃ y, y = (reduceR 43 t f).2.2 := ⟨_, rfl⟩
  obtain ⟨C3, hC3⟩ : ∃ y, y = (reduceR 43 S D).1 := ⟨_, rfl⟩
  obtain ⟨S3, hS3⟩ : ∃ y, y = (reduceR 43 S D).2.1 := ⟨_, rfl⟩
  obtain ⟨D3, hD3⟩ : ∃ y, y = (reduceR 43 S D).2.2 := ⟨_, rfl⟩
  have LA : Hid (S.length ≤ 1048576 ∧ D.length ≤ 1048576) := by show _ ∧ _; rw [hS, hD]; exact mkR_len (fun h => (join_len h).1) (fun h => (join_len h).2)
  have EI : Hid (∀ (W : World) (u0 : Value) (_ : ArrI W u0 s d) (u1 : Value) (_ : ArrI W u1 t f), Calls Try.prog 6 #[u0, u1] W fun e w' => ∃ v, e = .returned (.tuple #[v, .int .i64 C]) ∧ Arr W.heap.size w'.heap.size w' v S D ∧ Below W.heap.size W w') := by
    intro W u0 h0 u1 h1
    rw [hC, hS, hD]
    exact join_impl h0 h1 Ls.out Ld.out Lt.out Lf.out
  have ES : Hid (∀ (W : World) (u0 : Value) (_ : ArrI W u0 s d) (u1 : Value) (_ : ArrI W u1 t f), Calls Try.prog 7 #[u0, u1] W fun e w' => ∃ v, e = .returned (.tuple #[v, .int .i64 C]) ∧ Arr W.heap.size w'.heap.size w' v S D ∧ Below W.heap.size W w') := by
    intro W u0 h0 u1 h1
    rw [hC, hS, hD]
    exact join_spec h0 h1 Ld.out Lf.out
  have E1 : Hid (∀ (W : World) (u1 : Value) (_ : ArrI W u1 s d), Calls Try.prog 8 #[.int .i64 43, u1] W fun e w' => ∃ v, e = .returned (.tuple #[v, .int .i64 C1]) ∧ Arr W.heap.size w'.heap.size w' v S1 D1 ∧ Below W.heap.size W w') := by
    intro W u1 h1
    rw [hC1, hS1, hD1]
    exact reduce_impl h1 Ls.out Ld.out
  have E2 : Hid (∀ (W : World) (u1 : Value) (_ : ArrI W u1 t f), Calls Try.prog 8 #[.int .i64 43, u1] W fun e w' => ∃ v, e = .returned (.tuple #[v, .int .i64 C2]) ∧ Arr W.heap.size w'.heap.size w' v S2 D2 ∧ Below W.heap.size W w') := by
    intro W u1 h1
    rw [hC2, hS2, hD2]
    exact reduce_impl h1 Lt.out Lf.out
  have E3 : Hid (∀ (W : World) (u1 : Value) (_ : ArrI W u1 S D), Calls Try.prog 8 #[.int .i64 43, u1] W fun e w' => ∃ v, e = .returned (.tuple #[v, .int .i64 C3]) ∧ Arr W.heap.size w'.heap.size w' v S3 D3 ∧ Below W.heap.size W w') := by
    intro W u1 h1
    rw [hC3, hS3, hD3]
    exact reduce_impl h1 LA.out.1 LA.out.2
  have FG : Hid (C = 0 → s.length = 1 → t.length = 1 → (C1 = 0 ∨ C1 = 6) ∧ (C2 = 0 ∨ C2 = 6) ∧ (C3 = 0 ∨ C3 = 6) ∧ (C1 = 0 → C2 = 0 → C3 = 0 → S1.length ≤ 300 ∧ D1.length ≤ 300 ∧ S2.length ≤ 300 ∧ D2.length ≤ 300 ∧ eachTwoC 43 S1 D1 S2 D2 = 0 ∧ eachTwoS 43 S1 D1 S2 D2 = S3 ∧ eachTwoD 43 S1 D1 S2 D2 = D3)) := by
    intro h l1 l2
    rw [hC] at h
    match s, l1, t, l2 with
    | [m], _, [n], _ =>
      obtain ⟨_, _, _, e⟩ := join_vec h
      obtain ⟨c1, c2, c3, q1, q2, q3, r1, r2, r3, q4⟩ := sums_all h
      rw [hS, hD, e] at hC3 hS3 hD3
      rw [r1] at hC1 hS1 hD1
      rw [r2] at hC2 hS2 hD2
      rw [r3] at hC3 hS3 hD3
      simp only at hC1 hS1 hD1 hC2 hS2 hD2 hC3 hS3 hD3
      refine ⟨by rw [hC1]; exact q1, by rw [hC2]; exact q2, by rw [hC3]; exact q3, fun k1 k2 k3 => ?_⟩
      rw [k1] at hC1
      rw [k2] at hC2
      rw [k3] at hC3
      rw [if_pos hC1.symm] at hD1
      rw [if_pos hC2.symm] at hD2
      rw [if_pos hC3.symm] at hD3
      rw [hS1, hD1, hS2, hD2, hS3, hD3]
      obtain ⟨w1, w2, w3⟩ := q4 hC1.symm hC2.symm hC3.symm
      exact ⟨by simp, by simp, by simp, by simp, w1, w2, w3⟩
  have FB : Hid (C ≠ 0 → D.length = 0) := by
    intro h
    rw [hD]
    rw [hC] at h
    exact joined_bad h
  have hneC : (C != C) = false := by simp
  clear hC hS hD hC1 hS1 hD1 hC2 hS2 hD2 hC3 hS3 hD3
  go_wp2_with fail
  refine (EI.out _ _ ((N_1.out.arrI).keep (bAlloc (bAlloc (Below.refl _ _) _) _)) _ ((M_1.out.arrI).keep (bAlloc (bAlloc (Below.refl _ _) _) _))).mono ?_
  rintro r w2 ⟨vG, rfl, ha, hb⟩
  obtain ⟨aG, cG, bG, eG, rfl, _, _, _, _⟩ := ha.arrI
  have G_2 : Hid (Arr (w1.heap.size + 2) w2.heap.size w2 (.agg #[.slice aG S.length cG, .slice bG D.length eG]) S D) := ha.mono (by first | exact Nat.le_refl _ | simp | (simp; omega)) (Nat.le_refl _)
  clear ha
  have HB2 : Hid (Below w1.heap.size w1 w2) := bTrans (bAlloc (bAlloc (Below.refl _ _) _) _) hb
  have HT2 : Hid (Below w.heap.size w w2) := bTrans HT1.out HB2.out
  have SZ2 : Hid (w1.heap.size ≤ w2.heap.size) := HB2.out.size
  have N_2 : Hid (Arr w.heap.size w1.heap.size w2 (.agg #[.slice a1 s.length c1, .slice b1 d.length e1]) s d) := N_1.out.keep HB2.out
  have M_2 : Hid (Arr w.heap.size w1.heap.size w2 (.agg #[.slice a2 t.length c2, .slice b2 f.length e2]) t f) := M_1.out.keep HB2.out
  have QN_2 : Hid (Box w2 w1.heap.size (.slice a1 s.length c1) (.slice b1 d.length e1) 26) := ((box_new w1 _ _ _).keep (bAlloc (Below.refl _ _) _)).keep hb
  have LTQN : Hid (w1.heap.size < w2.heap.size) := QN_2.out.lt
  have QM_2 : Hid (Box w2 (w1.heap.size + 1) (.slice a2 t.length c2) (.slice b2 f.length e2) 26) := (box_new2 w1 _ _ _ _).keep hb
  have LTQM : Hid ((w1.heap.size + 1) < w2.heap.size) := QM_2.out.lt
  clear N_1 M_1 hb
  have QNc0 := QN_2.out.c0
  have QNc1 := QN_2.out.c1
  have QNd0 : ∀ o : Obj, (w2.alloc o).cell? ⟨w1.heap.size, 0, none⟩ = some (.slice a1 s.length c1) := fun o => (QN_2.out.keep (bAlloc (Below.refl _ _) o)).c0
  have QNd1 : ∀ o : Obj, (w2.alloc o).cell? ⟨w1.heap.size, 1, none⟩ = some (.slice b1 d.length e1) := fun o => (QN_2.out.keep (bAlloc (Below.refl _ _) o)).c1
  have QMc0 := QM_2.out.c0
  have QMc1 := QM_2.out.c1
  have QMd0 : ∀ o : Obj, (w2.alloc o).cell? ⟨(w1.heap.size + 1), 0, none⟩ = some (.slice a2 t.length c2) := fun o => (QM_2.out.keep (bAlloc (Below.refl _ _) o)).c0
  have QMd1 : ∀ o : Obj, (w2.alloc o).cell? ⟨(w1.heap.size + 1), 1, none⟩ = some (.slice b2 f.length e2) := fun o => (QM_2.out.keep (bAlloc (Below.refl _ _) o)).c1
  go_wp2_with fail
  refine (ES.out _ _ ((N_2.out.arrI).keep (bAlloc (Below.refl _ _) _)) _ ((M_2.out.arrI).keep (bAlloc (Below.refl _ _) _))).mono ?_
  rintro r w3 ⟨vW, rfl, ha, hb⟩
  obtain ⟨aW, cW, bW, eW, rfl, _, _, _, _⟩ := ha.arrI
  have W_3 : Hid (Arr (w2.heap.size + 1) w3.heap.size w3 (.agg #[.slice aW S.length cW, .slice bW D.length eW]) S D) := ha.mono (by first | exact Nat.le_refl _ | simp | (simp; omega)) (Nat.le_refl _)
  clear ha
  have HB3 : Hid (Below w2.heap.size w2 w3) := bTrans (bAlloc (Below.refl _ _) _) hb
  have HT3 : Hid (Below w.heap.size w w3) := bTrans HT2.out HB3.out
  have SZ3 : Hid (w2.heap.size ≤ w3.heap.size) := HB3.out.size
  have QN_3 : Hid (Box w3 w1.heap.size (.slice a1 s.length c1) (.slice b1 d.length e1) 26) := QN_2.out.keep HB3.out
  have QM_3 : Hid (Box w3 (w1.heap.size + 1) (.slice a2 t.length c2) (.slice b2 f.length e2) 26) := QM_2.out.keep HB3.out
  have N_3 : Hid (Arr w.heap.size w1.heap.size w3 (.agg #[.slice a1 s.length c1, .slice b1 d.length e1]) s d) := N_2.out.keep HB3.out
  have M_3 : Hid (Arr w.heap.size w1.heap.size w3 (.agg #[.slice a2 t.length c2, .slice b2 f.length e2]) t f) := M_2.out.keep HB3.out
  have G_3 : Hid (Arr (w1.heap.size + 2) w2.heap.size w3 (.agg #[.slice aG S.length cG, .slice bG D.length eG]) S D) := G_2.out.keep HB3.out
  have QG_3 : Hid (Box w3 w2.heap.size (.slice aG S.length cG) (.slice bG D.length eG) 26) := (box_new w2 _ _ _).keep hb
  have LTQG : Hid (w2.heap.size < w3.heap.size) := QG_3.out.lt
  clear QN_2 QM_2 N_2 M_2 G_2 QNc0 QNc1 QNd0 QNd1 QMc0 QMc1 QMd0 QMd1 hb
  have QNc0 := QN_3.out.c0
  have QNc1 := QN_3.out.c1
  have QNd0 : ∀ o : Obj, (w3.alloc o).cell? ⟨w1.heap.size, 0, none⟩ = some (.slice a1 s.length c1) := fun o => (QN_3.out.keep (bAlloc (Below.refl _ _) o)).c0
  have QNd1 : ∀ o : Obj, (w3.alloc o).cell? ⟨w1.heap.size, 1, none⟩ = some (.slice b1 d.length e1) := fun o => (QN_3.out.keep (bAlloc (Below.refl _ _) o)).c1
  have QMc0 := QM_3.out.c0
  have QMc1 := QM_3.out.c1
  have QMd0 : ∀ o : Obj, (w3.alloc o).cell? ⟨(w1.heap.size + 1), 0, none⟩ = some (.slice a2 t.length c2) := fun o => (QM_3.out.keep (bAlloc (Below.refl _ _) o)).c0
  have QMd1 : ∀ o : Obj, (w3.alloc o).cell? ⟨(w1.heap.size + 1), 1, none⟩ = some (.slice b2 f.length e2) := fun o => (QM_3.out.keep (bAlloc (Below.refl _ _) o)).c1
  have QGc0 := QG_3.out.c0
  have QGc1 := QG_3.out.c1
  have QGd0 : ∀ o : Obj, (w3.alloc o).cell? ⟨w2.heap.size, 0, none⟩ = some (.slice aG S.length cG) := fun o => (QG_3.out.keep (bAlloc (Below.refl _ _) o)).c0
  have QGd1 : ∀ o : Obj, (w3.alloc o).cell? ⟨w2.heap.size, 1, none⟩ = some (.slice bG D.length eG) := fun o => (QG_3.out.keep (bAlloc (Below.refl _ _) o)).c1
  by_cases hc : C = 0
  · subst hc
    by_cases hs1 : s.length = 1
    · by_cases ht1 : t.length = 1
      · have hs2 : ((s.length : Int) != 1) = false := by rw [hs1]; rfl
        have ht2 : ((t.length : Int) != 1) = false := by rw [ht1]; rfl
        obtain ⟨q1, q2, q3, q4⟩ := FG.out rfl hs1 ht1
        have HQ4 : Hid (C1 = 0 → C2 = 0 → C3 = 0 → S1.length ≤ 300 ∧ D1.length ≤ 300 ∧ S2.length ≤ 300 ∧ D2.length ≤ 300 ∧ eachTwoC 43 S1 D1 S2 D2 = 0 ∧ eachTwoS 43 S1 D1 S2 D2 = S3 ∧ eachTwoD 43 S1 D1 S2 D2 = D3) := q4
        have HQ : Hid ((C1 = 0 ∨ C1 = 6) ∧ (C2 = 0 ∨ C2 = 6) ∧ (C3 = 0 ∨ C3 = 6)) := ⟨q1, q2, q3⟩
        clear FG FB q1 q2 q3 q4 hs1 ht1
        go_wp2_with fail
        refine (E1.out _ _ ((N_3.out.arrI).keep (bAlloc (Below.refl _ _) _))).mono ?_
        rintro r w4 ⟨vX, rfl, ha, hb⟩
        obtain ⟨aX, cX, bX, eX, rfl, _, _, _, _⟩ := ha.arrI
        have X_4 : Hid (Arr (w3.heap.size + 1) w4.heap.size w4 (.agg #[.slice aX S1.length cX, .slice bX D1.length eX]) S1 D1) := ha.mono (by first | exact Nat.le_refl _ | simp | (simp; omega)) (Nat.le_refl _)
        clear ha
        have HB4 : Hid (Below w3.heap.size w3 w4) := bTrans (bAlloc (Below.refl _ _) _) hb
        have HT4 : Hid (Below w.heap.size w w4) := bTrans HT3.out HB4.out
        have SZ4 : Hid (w3.heap.size ≤ w4.heap.size) := HB4.out.size
        have QN_4 : Hid (Box w4 w1.heap.size (.slice a1 s.length c1) (.slice b1 d.length e1) 26) := QN_3.out.keep HB4.out
        have QM_4 : Hid (Box w4 (w1.heap.size + 1) (.slice a2 t.length c2) (.slice b2 f.length e2) 26) := QM_3.out.keep HB4.out
        have QG_4 : Hid (Box w4 w2.heap.size (.slice aG S.length cG) (.slice bG D.length eG) 26) := QG_3.out.keep HB4.out
        have N_4 : Hid (Arr w.heap.size w1.heap.size w4 (.agg #[.slice a1 s.length c1, .slice b1 d.length e1]) s d) := N_3.out.keep HB4.out
        have M_4 : Hid (Arr w.heap.size w1.heap.size w4 (.agg #[.slice a2 t.length c2, .slice b2 f.length e2]) t f) := M_3.out.keep HB4.out
        have G_4 : Hid (Arr (w1.heap.size + 2) w2.heap.size w4 (.agg #[.slice aG S.length cG, .slice bG D.length eG]) S D) := G_3.out.keep HB4.out
        have QW_4 : Hid (Box w4 w3.heap.size (.slice aW S.length cW) (.slice bW D.length eW) 26) := (box_new w3 _ _ _).keep hb
        have LTQW : Hid (w3.heap.size < w4.heap.size) := QW_4.out.lt
        clear QN_3 QM_3 QG_3 N_3 M_3 G_3 QNc0 QNc1 QNd0 QNd1 QMc0 QMc1 QMd0 QMd1 QGc0 QGc1 QGd0 QGd1 hb
        have QNc0 := QN_4.out.c0
        have QNc1 := QN_4.out.c1
        have QNd0 : ∀ o : Obj, (w4.alloc o).cell? ⟨w1.heap.size, 0, none⟩ = some (.slice a1 s.length c1) := fun o => (QN_4.out.keep (bAlloc (Below.refl _ _) o)).c0
        have QNd1 : ∀ o : Obj, (w4.alloc o).cell? ⟨w1.heap.size, 1, none⟩ = some (.slice b1 d.length e1) := fun o => (QN_4.out.keep (bAlloc (Below.refl _ _) o)).c1
        have QMc0 := QM_4.out.c0
        have QMc1 := QM_4.out.c1
        have QMd0 : ∀ o : Obj, (w4.alloc o).cell? ⟨(w1.heap.size + 1), 0, none⟩ = some (.slice a2 t.length c2) := fun o => (QM_4.out.keep (bAlloc (Below.refl _ _) o)).c0
        have QMd1 : ∀ o : Obj, (w4.alloc o).cell? ⟨(w1.heap.size + 1), 1, none⟩ = some (.slice b2 f.length e2) := fun o => (QM_4.out.keep (bAlloc (Below.refl _ _) o)).c1
        have QGc0 := QG_4.out.c0
        have QGc1 := QG_4.out.c1
        have QGd0 : ∀ o : Obj, (w4.alloc o).cell? ⟨w2.heap.size, 0, none⟩ = some (.slice aG S.length cG) := fun o => (QG_4.out.keep (bAlloc (Below.refl _ _) o)).c0
        have QGd1 : ∀ o : Obj, (w4.alloc o).cell? ⟨w2.heap.size, 1, none⟩ = some (.slice bG D.length eG) := fun o => (QG_4.out.keep (bAlloc (Below.refl _ _) o)).c1
        have QWc0 := QW_4.out.c0
        have QWc1 := QW_4.out.c1
        have QWd0 : ∀ o : Obj, (w4.alloc o).cell? ⟨w3.heap.size, 0, none⟩ = some (.slice aW S.length cW) := fun o => (QW_4.out.keep (bAlloc (Below.refl _ _) o)).c0
        have QWd1 : ∀ o : Obj, (w4.alloc o).cell? ⟨w3.heap.size, 1, none⟩ = some (.slice bW D.length eW) := fun o => (QW_4.out.keep (bAlloc (Below.refl _ _) o)).c1
        go_wp2_with fail
        refine (E2.out _ _ ((M_4.out.arrI).keep (bAlloc (Below.refl _ _) _))).mono ?_
        rintro r w5 ⟨vY, rfl, ha, hb⟩
        obtain ⟨aY, cY, bY, eY, rfl, _, _, _, _⟩ := ha.arrI
        have Y_5 : Hid (Arr (w4.heap.size + 1) w5.heap.size w5 (.agg #[.slice aY S2.length cY, .slice bY D2.length eY]) S2 D2) := ha.mono (by first | exact Nat.le_refl _ | simp | (simp; omega)) (Nat.le_refl _)
        clear ha
        have HB5 : Hid (Below w4.heap.size w4 w5) := bTrans (bAlloc (Below.refl _ _) _) hb
        have HT5 : Hid (Below w.heap.size w w5) := bTrans HT4.out HB5.out
        have SZ5 : Hid (w4.heap.size ≤ w5.heap.size) := HB5.out.size
        have QN_5 : Hid (Box w5 w1.heap.size (.slice a1 s.length c1) (.slice b1 d.length e1) 26) := QN_4.out.keep HB5.out
        have QM_5 : Hid (Box w5 (w1.heap.size + 1) (.slice a2 t.length c2) (.slice b2 f.length e2) 26) := QM_4.out.keep HB5.out
        have QG_5 : Hid (Box w5 w2.heap.size (.slice aG S.length cG) (.slice bG D.length eG) 26) := QG_4.out.keep HB5.out
        have QW_5 : Hid (Box w5 w3.heap.size (.slice aW S.length cW) (.slice bW D.length eW) 26) := QW_4.out.keep HB5.out
        have N_5 : Hid (Arr w.heap.size w1.heap.size w5 (.agg #[.slice a1 s.length c1, .slice b1 d.length e1]) s d) := N_4.out.keep HB5.out
        have M_5 : Hid (Arr w.heap.size w1.heap.size w5 (.agg #[.slice a2 t.length c2, .slice b2 f.length e2]) t f) := M_4.out.keep HB5.out
        have G_5 : Hid (Arr (w1.heap.size + 2) w2.heap.size w5 (.agg #[.slice aG S.length cG, .slice bG D.length eG]) S D) := G_4.out.keep HB5.out
        have X_5 : Hid (Arr (w3.heap.size + 1) w4.heap.size w5 (.agg #[.slice aX S1.length cX, .slice bX D1.length eX]) S1 D1) := X_4.out.keep HB5.out
        have QX_5 : Hid (Box w5 w4.heap.size (.slice aX S1.length cX) (.slice bX D1.length eX) 26) := (box_new w4 _ _ _).keep hb
        have LTQX : Hid (w4.heap.size < w5.heap.size) := QX_5.out.lt
        clear QN_4 QM_4 QG_4 QW_4 N_4 M_4 G_4 X_4 QNc0 QNc1 QNd0 QNd1 QMc0 QMc1 QMd0 QMd1 QGc0 QGc1 QGd0 QGd1 QWc0 QWc1 QWd0 QWd1 hb
        have QNc0 := QN_5.out.c0
        have QNc1 := QN_5.out.c1
        have QNd0 : ∀ o : Obj, (w5.alloc o).cell? ⟨w1.heap.size, 0, none⟩ = some (.slice a1 s.length c1) := fun o => (QN_5.out.keep (bAlloc (Below.refl _ _) o)).c0
        have QNd1 : ∀ o : Obj, (w5.alloc o).cell? ⟨w1.heap.size, 1, none⟩ = some (.slice b1 d.length e1) := fun o => (QN_5.out.keep (bAlloc (Below.refl _ _) o)).c1
        have QMc0 := QM_5.out.c0
        have QMc1 := QM_5.out.c1
        have QMd0 : ∀ o : Obj, (w5.alloc o).cell? ⟨(w1.heap.size + 1), 0, none⟩ = some (.slice a2 t.length c2) := fun o => (QM_5.out.keep (bAlloc (Below.refl _ _) o)).c0
        have QMd1 : ∀ o : Obj, (w5.alloc o).cell? ⟨(w1.heap.size + 1), 1, none⟩ = some (.slice b2 f.length e2) := fun o => (QM_5.out.keep (bAlloc (Below.refl _ _) o)).c1
        have QGc0 := QG_5.out.c0
        have QGc1 := QG_5.out.c1
        have QGd0 : ∀ o : Obj, (w5.alloc o).cell? ⟨w2.heap.size, 0, none⟩ = some (.slice aG S.length cG) := fun o => (QG_5.out.keep (bAlloc (Below.refl _ _) o)).c0
        have QGd1 : ∀ o : Obj, (w5.alloc o).cell? ⟨w2.heap.size, 1, none⟩ = some (.slice bG D.length eG) := fun o => (QG_5.out.keep (bAlloc (Below.refl _ _) o)).c1
        have QWc0 := QW_5.out.c0
        have QWc1 := QW_5.out.c1
        have QWd0 : ∀ o : Obj, (w5.alloc o).cell? ⟨w3.heap.size, 0, none⟩ = some (.slice aW S.length cW) := fun o => (QW_5.out.keep (bAlloc (Below.refl _ _) o)).c0
        have QWd1 : ∀ o : Obj, (w5.alloc o).cell? ⟨w3.heap.size, 1, none⟩ = some (.slice bW D.length eW) := fun o => (QW_5.out.keep (bAlloc (Below.refl _ _) o)).c1
        have QXc0 := QX_5.out.c0
        have QXc1 := QX_5.out.c1
        have QXd0 : ∀ o : Obj, (w5.alloc o).cell? ⟨w4.heap.size, 0, none⟩ = some (.slice aX S1.length cX) := fun o => (QX_5.out.keep (bAlloc (Below.refl _ _) o)).c0
        have QXd1 : ∀ o : Obj, (w5.alloc o).cell? ⟨w4.heap.size, 1, none⟩ = some (.slice bX D1.length eX) := fun o => (QX_5.out.keep (bAlloc (Below.refl _ _) o)).c1
        go_wp2_with fail
        refine (E3.out _ _ ((G_5.out.arrI).keep (bAlloc (Below.refl _ _) _))).mono ?_
        rintro r w6 ⟨vZ, rfl, ha, hb⟩
        obtain ⟨aZ, cZ, bZ, eZ, rfl, _, _, _, _⟩ := ha.arrI
        have Z_6 : Hid (Arr (w5.heap.size + 1) w6.heap.size w6 (.agg #[.slice aZ S3.length cZ, .slice bZ D3.length eZ]) S3 D3) := ha.mono (by first | exact Nat.le_refl _ | simp | (simp; omega)) (Nat.le_refl _)
        clear ha
        have HB6 : Hid (Below w5.heap.size w5 w6) := bTrans (bAlloc (Below.refl _ _) _) hb
        have HT6 : Hid (Below w.heap.size w w6) := bTrans HT5.out HB6.out
        have SZ6 : Hid (w5.heap.size ≤ w6.heap.size) := HB6.out.size
        have QN_6 : Hid (Box w6 w1.heap.size (.slice a1 s.length c1) (.slice b1 d.length e1) 26) := QN_5.out.keep HB6.out
        have QM_6 : Hid (Box w6 (w1.heap.size + 1) (.slice a2 t.length c2) (.slice b2 f.length e2) 26) := QM_5.out.keep HB6.out
        have QG_6 : Hid (Box w6 w2.heap.size (.slice aG S.length cG) (.slice bG D.length eG) 26) := QG_5.out.keep HB6.out
        have QW_6 : Hid (Box w6 w3.heap.size (.slice aW S.length cW) (.slice bW D.length eW) 26) := QW_5.out.keep HB6.out
        have QX_6 : Hid (Box w6 w4.heap.size (.slice aX S1.length cX) (.slice bX D1.length eX) 26) := QX_5.out.keep HB6.out
        have N_6 : Hid (Arr w.heap.size w1.heap.size w6 (.agg #[.slice a1 s.length c1, .slice b1 d.length e1]) s d) := N_5.out.keep HB6.out
        have M_6 : Hid (Arr w.heap.size w1.heap.size w6 (.agg #[.slice a2 t.length c2, .slice b2 f.length e2]) t f) := M_5.out.keep HB6.out
        have G_6 : Hid (Arr (w1.heap.size + 2) w2.heap.size w6 (.agg #[.slice aG S.length cG, .slice bG D.length eG]) S D) := G_5.out.keep HB6.out
        have X_6 : Hid (Arr (w3.heap.size + 1) w4.heap.size w6 (.agg #[.slice aX S1.length cX, .slice bX D1.length eX]) S1 D1) := X_5.out.keep HB6.out
        have Y_6 : Hid (Arr (w4.heap.size + 1) w5.heap.size w6 (.agg #[.slice aY S2.length cY, .slice bY D2.length eY]) S2 D2) := Y_5.out.keep HB6.out
        have QY_6 : Hid (Box w6 w5.heap.size (.slice aY S2.length cY) (.slice bY D2.length eY) 26) := (box_new w5 _ _ _).keep hb
        have LTQY : Hid (w5.heap.size < w6.heap.size) := QY_6.out.lt
        clear QN_5 QM_5 QG_5 QW_5 QX_5 N_5 M_5 G_5 X_5 Y_5 QNc0 QNc1 QNd0 QNd1 QMc0 QMc1 QMd0 QMd1 QGc0 QGc1 QGd0 QGd1 QWc0 QWc1 QWd0 QWd1 QXc0 QXc1 QXd0 QXd1 hb
        have QNc0 := QN_6.out.c0
        have QNc1 := QN_6.out.c1
        have QNd0 : ∀ o : Obj, (w6.alloc o).cell? ⟨w1.heap.size, 0, none⟩ = some (.slice a1 s.length c1) := fun o => (QN_6.out.keep (bAlloc (Below.refl _ _) o)).c0
        have QNd1 : ∀ o : Obj, (w6.alloc o).cell? ⟨w1.heap.size, 1, none⟩ = some (.slice b1 d.length e1) := fun o => (QN_6.out.keep (bAlloc (Below.refl _ _) o)).c1
        have QMc0 := QM_6.out.c0
        have QMc1 := QM_6.out.c1
        have QMd0 : ∀ o : Obj, (w6.alloc o).cell? ⟨(w1.heap.size + 1), 0, none⟩ = some (.slice a2 t.length c2) := fun o => (QM_6.out.keep (bAlloc (Below.refl _ _) o)).c0
        have QMd1 : ∀ o : Obj, (w6.alloc o).cell? ⟨(w1.heap.size + 1), 1, none⟩ = some (.slice b2 f.length e2) := fun o => (QM_6.out.keep (bAlloc (Below.refl _ _) o)).c1
        have QGc0 := QG_6.out.c0
        have QGc1 := QG_6.out.c1
        have QGd0 : ∀ o : Obj, (w6.alloc o).cell? ⟨w2.heap.size, 0, none⟩ = some (.slice aG S.length cG) := fun o => (QG_6.out.keep (bAlloc (Below.refl _ _) o)).c0
        have QGd1 : ∀ o : Obj, (w6.alloc o).cell? ⟨w2.heap.size, 1, none⟩ = some (.slice bG D.length eG) := fun o => (QG_6.out.keep (bAlloc (Below.refl _ _) o)).c1
        have QWc0 := QW_6.out.c0
        have QWc1 := QW_6.out.c1
        have QWd0 : ∀ o : Obj, (w6.alloc o).cell? ⟨w3.heap.size, 0, none⟩ = some (.slice aW S.length cW) := fun o => (QW_6.out.keep (bAlloc (Below.refl _ _) o)).c0
        have QWd1 : ∀ o : Obj, (w6.alloc o).cell? ⟨w3.heap.size, 1, none⟩ = some (.slice bW D.length eW) := fun o => (QW_6.out.keep (bAlloc (Below.refl _ _) o)).c1
        have QXc0 := QX_6.out.c0
        have QXc1 := QX_6.out.c1
        have QXd0 : ∀ o : Obj, (w6.alloc o).cell? ⟨w4.heap.size, 0, none⟩ = some (.slice aX S1.length cX) := fun o => (QX_6.out.keep (bAlloc (Below.refl _ _) o)).c0
        have QXd1 : ∀ o : Obj, (w6.alloc o).cell? ⟨w4.heap.size, 1, none⟩ = some (.slice bX D1.length eX) := fun o => (QX_6.out.keep (bAlloc (Below.refl _ _) o)).c1
        have QYc0 := QY_6.out.c0
        have QYc1 := QY_6.out.c1
        have QYd0 : ∀ o : Obj, (w6.alloc o).cell? ⟨w5.heap.size, 0, none⟩ = some (.slice aY S2.length cY) := fun o => (QY_6.out.keep (bAlloc (Below.refl _ _) o)).c0
        have QYd1 : ∀ o : Obj, (w6.alloc o).cell? ⟨w5.heap.size, 1, none⟩ = some (.slice bY D2.length eY) := fun o => (QY_6.out.keep (bAlloc (Below.refl _ _) o)).c1
        obtain ⟨q1, q2, q3⟩ := HQ.out
        by_cases hz : C1 = 0 ∧ C2 = 0 ∧ C3 = 0
        · obtain ⟨rfl, rfl, rfl⟩ := hz
          obtain ⟨l1, l2, l3, l4, w1, w2, w3⟩ := HQ4.out rfl rfl rfl
          have EE : Hid (∀ (W : World) (u : Value) (_ : ArrI W u S1 D1) (v : Value) (_ : ArrI W v S2 D2), Calls Try.prog 9 #[.int .i64 43, u, v] W fun e w' => ∃ v, e = .returned (.tuple #[v, .int .i64 0]) ∧ Arr W.heap.size w'.heap.size w' v S3 D3 ∧ Below W.heap.size W w') := fun W u h v k => by
            have q := eachTwo_impl (g := 43) h k (by omega) (by omega) (by omega) (by omega)
            rw [w1, w2, w3] at q
            exact q
          have hS3 : S3.length ≤ 1048576 := by rw [← w2]; have := eachTwoS_len 43 S1 D1 S2 D2; omega
          have hD3 : D3.length ≤ 1048576 := by rw [← w3]; have := eachTwoD_len 43 S1 D1 S2 D2; omega
          have SA : Hid (∀ (W : World) (u v : Value), ArrI W u S3 D3 → ArrI W v S3 D3 → Calls Try.prog 10 #[u, v] W fun e w' => e = .returned (.bool true) ∧ Below W.heap.size W w') := fun W u v h k => by
            have q := same_arr h k hS3 hD3
            simpa using q
          clear w1 w2 w3 hS3 hD3 l1 l2 l3 l4
          go_wp2_with fail
          refine (EE.out _ _ ((X_6.out.arrI).keep (bAlloc (Below.refl _ _) _)) _ ((Y_6.out.arrI).keep (bAlloc (Below.refl _ _) _))).mono ?_
          rintro r w7 ⟨vE, rfl, ha, hb⟩
          obtain ⟨aE, cE, bE, eE, rfl, _, _, _, _⟩ := ha.arrI
          have E_7 : Hid (Arr (w6.heap.size + 1) w7.heap.size w7 (.agg #[.slice aE S3.length cE, .slice bE D3.length eE]) S3 D3) := ha.mono (by first | exact Nat.le_refl _ | simp | (simp; omega)) (Nat.le_refl _)
          clear ha
          have HB7 : Hid (Below w6.heap.size w6 w7) := bTrans (bAlloc (Below.refl _ _) _) hb
          have HT7 : Hid (Below w.heap.size w w7) := bTrans HT6.out HB7.out
          have SZ7 : Hid (w6.heap.size ≤ w7.heap.size) := HB7.out.size
          have QN_7 : Hid (Box w7 w1.heap.size (.slice a1 s.length c1) (.slice b1 d.length e1) 26) := QN_6.out.keep HB7.out
          have QM_7 : Hid (Box w7 (w1.heap.size + 1) (.slice a2 t.length c2) (.slice b2 f.length e2) 26) := QM_6.out.keep HB7.out
          have QG_7 : Hid (Box w7 w2.heap.size (.slice aG S.length cG) (.slice bG D.length eG) 26) := QG_6.out.keep HB7.out
          have QW_7 : Hid (Box w7 w3.heap.size (.slice aW S.length cW) (.slice bW D.length eW) 26) := QW_6.out.keep HB7.out
          have QX_7 : Hid (Box w7 w4.heap.size (.slice aX S1.length cX) (.slice bX D1.length eX) 26) := QX_6.out.keep HB7.out
          have QY_7 : Hid (Box w7 w5.heap.size (.slice aY S2.length cY) (.slice bY D2.length eY) 26) := QY_6.out.keep HB7.out
          have N_7 : Hid (Arr w.heap.size w1.heap.size w7 (.agg #[.slice a1 s.length c1, .slice b1 d.length e1]) s d) := N_6.out.keep HB7.out
          have M_7 : Hid (Arr w.heap.size w1.heap.size w7 (.agg #[.slice a2 t.length c2, .slice b2 f.length e2]) t f) := M_6.out.keep HB7.out
          have G_7 : Hid (Arr (w1.heap.size + 2) w2.heap.size w7 (.agg #[.slice aG S.length cG, .slice bG D.length eG]) S D) := G_6.out.keep HB7.out
          have X_7 : Hid (Arr (w3.heap.size + 1) w4.heap.size w7 (.agg #[.slice aX S1.length cX, .slice bX D1.length eX]) S1 D1) := X_6.out.keep HB7.out
          have Y_7 : Hid (Arr (w4.heap.size + 1) w5.heap.size w7 (.agg #[.slice aY S2.length cY, .slice bY D2.length eY]) S2 D2) := Y_6.out.keep HB7.out
          have Z_7 : Hid (Arr (w5.heap.size + 1) w6.heap.size w7 (.agg #[.slice aZ S3.length cZ, .slice bZ D3.length eZ]) S3 D3) := Z_6.out.keep HB7.out
          have QZ_7 : Hid (Box w7 w6.heap.size (.slice aZ S3.length cZ) (.slice bZ D3.length eZ) 26) := (box_new w6 _ _ _).keep hb
          have LTQZ : Hid (w6.heap.size < w7.heap.size) := QZ_7.out.lt
          clear QN_6 QM_6 QG_6 QW_6 QX_6 QY_6 N_6 M_6 G_6 X_6 Y_6 Z_6 QNc0 QNc1 QNd0 QNd1 QMc0 QMc1 QMd0 QMd1 QGc0 QGc1 QGd0 QGd1 QWc0 QWc1 QWd0 QWd1 QXc0 QXc1 QXd0 QXd1 QYc0 QYc1 QYd0 QYd1 hb
          have QNc0 := QN_7.out.c0
          have QNc1 := QN_7.out.c1
          have QNd0 : ∀ o : Obj, (w7.alloc o).cell? ⟨w1.heap.size, 0, none⟩ = some (.slice a1 s.length c1) := fun o => (QN_7.out.keep (bAlloc (Below.refl _ _) o)).c0
          have QNd1 : ∀ o : Obj, (w7.alloc o).cell? ⟨w1.heap.size, 1, none⟩ = some (.slice b1 d.length e1) := fun o => (QN_7.out.keep (bAlloc (Below.refl _ _) o)).c1
          have QMc0 := QM_7.out.c0
          have QMc1 := QM_7.out.c1
          have QMd0 : ∀ o : Obj, (w7.alloc o).cell? ⟨(w1.heap.size + 1), 0, none⟩ = some (.slice a2 t.length c2) := fun o => (QM_7.out.keep (bAlloc (Below.refl _ _) o)).c0
          have QMd1 : ∀ o : Obj, (w7.alloc o).cell? ⟨(w1.heap.size + 1), 1, none⟩ = some (.slice b2 f.length e2) := fun o => (QM_7.out.keep (bAlloc (Below.refl _ _) o)).c1
          have QGc0 := QG_7.out.c0
          have QGc1 := QG_7.out.c1
          have QGd0 : ∀ o : Obj, (w7.alloc o).cell? ⟨w2.heap.size, 0, none⟩ = some (.slice aG S.length cG) := fun o => (QG_7.out.keep (bAlloc (Below.refl _ _) o)).c0
          have QGd1 : ∀ o : Obj, (w7.alloc o).cell? ⟨w2.heap.size, 1, none⟩ = some (.slice bG D.length eG) := fun o => (QG_7.out.keep (bAlloc (Below.refl _ _) o)).c1
          have QWc0 := QW_7.out.c0
          have QWc1 := QW_7.out.c1
          have QWd0 : ∀ o : Obj, (w7.alloc o).cell? ⟨w3.heap.size, 0, none⟩ = some (.slice aW S.length cW) := fun o => (QW_7.out.keep (bAlloc (Below.refl _ _) o)).c0
          have QWd1 : ∀ o : Obj, (w7.alloc o).cell? ⟨w3.heap.size, 1, none⟩ = some (.slice bW D.length eW) := fun o => (QW_7.out.keep (bAlloc (Below.refl _ _) o)).c1
          have QXc0 := QX_7.out.c0
          have QXc1 := QX_7.out.c1
          have QXd0 : ∀ o : Obj, (w7.alloc o).cell? ⟨w4.heap.size, 0, none⟩ = some (.slice aX S1.length cX) := fun o => (QX_7.out.keep (bAlloc (Below.refl _ _) o)).c0
          have QXd1 : ∀ o : Obj, (w7.alloc o).cell? ⟨w4.heap.size, 1, none⟩ = some (.slice bX D1.length eX) := fun o => (QX_7.out.keep (bAlloc (Below.refl _ _) o)).c1
          have QYc0 := QY_7.out.c0
          have QYc1 := QY_7.out.c1
          have QYd0 : ∀ o : Obj, (w7.alloc o).cell? ⟨w5.heap.size, 0, none⟩ = some (.slice aY S2.length cY) := fun o => (QY_7.out.keep (bAlloc (Below.refl _ _) o)).c0
          have QYd1 : ∀ o : Obj, (w7.alloc o).cell? ⟨w5.heap.size, 1, none⟩ = some (.slice bY D2.length eY) := fun o => (QY_7.out.keep (bAlloc (Below.refl _ _) o)).c1
          have QZc0 := QZ_7.out.c0
          have QZc1 := QZ_7.out.c1
          have QZd0 : ∀ o : Obj, (w7.alloc o).cell? ⟨w6.heap.size, 0, none⟩ = some (.slice aZ S3.length cZ) := fun o => (QZ_7.out.keep (bAlloc (Below.refl _ _) o)).c0
          have QZd1 : ∀ o : Obj, (w7.alloc o).cell? ⟨w6.heap.size, 1, none⟩ = some (.slice bZ D3.length eZ) := fun o => (QZ_7.out.keep (bAlloc (Below.refl _ _) o)).c1
          go_wp2_with fail
          refine (SA.out _ _ _ ((E_7.out.arrI).keep (bAlloc (Below.refl _ _) _)) ((Z_7.out.arrI).keep (bAlloc (Below.refl _ _) _))).mono ?_
          rintro r w8 ⟨rfl, hb⟩
          have HB8 : Hid (Below w7.heap.size w7 w8) := bTrans (bAlloc (Below.refl _ _) _) hb
          have HT8 : Hid (Below w.heap.size w w8) := bTrans HT7.out HB8.out
          have SZ8 : Hid (w7.heap.size ≤ w8.heap.size) := HB8.out.size
          have QN_8 : Hid (Box w8 w1.heap.size (.slice a1 s.length c1) (.slice b1 d.length e1) 26) := QN_7.out.keep HB8.out
          have QM_8 : Hid (Box w8 (w1.heap.size + 1) (.slice a2 t.length c2) (.slice b2 f.length e2) 26) := QM_7.out.keep HB8.out
          have QG_8 : Hid (Box w8 w2.heap.size (.slice aG S.length cG) (.slice bG D.length eG) 26) := QG_7.out.keep HB8.out
          have QW_8 : Hid (Box w8 w3.heap.size (.slice aW S.length cW) (.slice bW D.length eW) 26) := QW_7.out.keep HB8.out
          have QX_8 : Hid (Box w8 w4.heap.size (.slice aX S1.length cX) (.slice bX D1.length eX) 26) := QX_7.out.keep HB8.out
          have QY_8 : Hid (Box w8 w5.heap.size (.slice aY S2.length cY) (.slice bY D2.length eY) 26) := QY_7.out.keep HB8.out
          have QZ_8 : Hid (Box w8 w6.heap.size (.slice aZ S3.length cZ) (.slice bZ D3.length eZ) 26) := QZ_7.out.keep HB8.out
          have N_8 : Hid (Arr w.heap.size w1.heap.size w8 (.agg #[.slice a1 s.length c1, .slice b1 d.length e1]) s d) := N_7.out.keep HB8.out
          have M_8 : Hid (Arr w.heap.size w1.heap.size w8 (.agg #[.slice a2 t.length c2, .slice b2 f.length e2]) t f) := M_7.out.keep HB8.out
          have G_8 : Hid (Arr (w1.heap.size + 2) w2.heap.size w8 (.agg #[.slice aG S.length cG, .slice bG D.length eG]) S D) := G_7.out.keep HB8.out
          have X_8 : Hid (Arr (w3.heap.size + 1) w4.heap.size w8 (.agg #[.slice aX S1.length cX, .slice bX D1.length eX]) S1 D1) := X_7.out.keep HB8.out
          have Y_8 : Hid (Arr (w4.heap.size + 1) w5.heap.size w8 (.agg #[.slice aY S2.length cY, .slice bY D2.length eY]) S2 D2) := Y_7.out.keep HB8.out
          have Z_8 : Hid (Arr (w5.heap.size + 1) w6.heap.size w8 (.agg #[.slice aZ S3.length cZ, .slice bZ D3.length eZ]) S3 D3) := Z_7.out.keep HB8.out
          have E_8 : Hid (Arr (w6.heap.size + 1) w7.heap.size w8 (.agg #[.slice aE S3.length cE, .slice bE D3.length eE]) S3 D3) := E_7.out.keep HB8.out
          have QE_8 : Hid (Box w8 w7.heap.size (.slice aE S3.length cE) (.slice bE D3.length eE) 26) := (box_new w7 _ _ _).keep hb
          have LTQE : Hid (w7.heap.size < w8.heap.size) := QE_8.out.lt
          clear QN_7 QM_7 QG_7 QW_7 QX_7 QY_7 QZ_7 N_7 M_7 G_7 X_7 Y_7 Z_7 E_7 QNc0 QNc1 QNd0 QNd1 QMc0 QMc1 QMd0 QMd1 QGc0 QGc1 QGd0 QGd1 QWc0 QWc1 QWd0 QWd1 QXc0 QXc1 QXd0 QXd1 QYc0 QYc1 QYd0 QYd1 QZc0 QZc1 QZd0 QZd1 hb
          have QNc0 := QN_8.out.c0
          have QNc1 := QN_8.out.c1
          have QMc0 := QM_8.out.c0
          have QMc1 := QM_8.out.c1
          have QGc0 := QG_8.out.c0
          have QGc1 := QG_8.out.c1
          have QWc0 := QW_8.out.c0
          have QWc1 := QW_8.out.c1
          have QXc0 := QX_8.out.c0
          have QXc1 := QX_8.out.c1
          have QYc0 := QY_8.out.c0
          have QYc1 := QY_8.out.c1
          have QZc0 := QZ_8.out.c0
          have QZc1 := QZ_8.out.c1
          have QEc0 := QE_8.out.c0
          have QEc1 := QE_8.out.c1
          go_wp2
          go_ret
          exact ⟨rfl, HT8.out⟩
        · rcases q1 with rfl | rfl
          · rcases q2 with rfl | rfl
            · rcases q3 with rfl | rfl
              · exact absurd ⟨rfl, rfl, rfl⟩ hz
              · go_wp2
                go_ret
                exact ⟨rfl, bTrans HT6.out (bAlloc (Below.refl _ _) _)⟩
            · go_wp2
              all_goals
                go_ret
                exact ⟨rfl, bTrans HT6.out (bAlloc (Below.refl _ _) _)⟩
          · go_wp2
            all_goals
              go_ret
              exact ⟨rfl, bTrans HT6.out (bAlloc (Below.refl _ _) _)⟩
      · have hs2 : ((s.length : Int) != 1) = false := by rw [hs1]; rfl
        have ht2 : ((t.length : Int) != 1) = true := by simp; omega
        clear FG FB hs1 ht1
        go_wp2
        go_ret
        exact ⟨rfl, bTrans HT3.out (bAlloc (Below.refl _ _) _)⟩
    · have hs2 : ((s.length : Int) != 1) = true := by simp; omega
      clear FG FB hs1
      go_wp2
      go_ret
      exact ⟨rfl, bTrans HT3.out (bAlloc (Below.refl _ _) _)⟩
  · have n0 : (C != 0) = true := by simpa using hc
    have n00 : (C == 0) = false := by simpa using hc
    have hl : ((D.length : Int) == 0) = true := by rw [FB.out hc]; rfl
    have hl2 : D.length = 0 := FB.out hc
    clear FG FB
    go_wp2
    go_ret
    exact ⟨rfl, bTrans HT3.out (bAlloc (Below.refl _ _) _)⟩

/-! ### THE ROW's STEP: WRITTEN OUT: LEAVE IT -/
set_option maxRecDepth 100000 in
theorem lifted (os : Os) (started : os.Started) (H : Type) (enc : TypeId × Value → H) :
    ReturnsInHanded {} Try.checked os 3 .any (Rows.fnSumsSpec.pre6 enc Try.prog Try.f3 Rows.fnSumsRow.domain false) (Rows.fnSumsSpec.post enc Try.prog Try.f3 false true false false) := by
  refine returnsInHanded_of_change (C := Try.checked) own started (by kernel_rfl) Try.func3
    (ChangeSpec.witness6 (enc := enc) (C := Try.checked) false ⟨#[], #[.slice none 0 0], []⟩ 8 (by kernel_rfl) (by kernel_rfl) (by kernel_rfl) (by kernel_rfl)) ?_
  intro W base args ds gs before hval0 hW hcnd _
  have hval : ∀ (j : Nat) t v, Try.f3.params[j]? = some t → args[j]? = some v → Value.okWide Try.prog W .any base t v := hval0
  have hW' := hW
  obtain ⟨p, q, hA0, hV, rfl, hfz, hnd⟩ := hW
  have hA : DataW.TrodAll enc Try.prog W 0 (fun _ => true) true Try.f3.params.toList args.toList ds p := hA0
  rw [Try.params3] at hA hval
  obtain ⟨v0, vs0, d0, ds0, p0, q0, hargs, rfl, rfl, h0, r0⟩ := trodAll_cons hA
  obtain ⟨rfl, rfl, rfl⟩ := trodAll_nil r0
  obtain rfl : args = #[v0] := by cases args; simp_all
  obtain ⟨rfl, rfl⟩ := trodVars_none hV
  obtain ⟨a0, len0, cap0, rfl⟩ := okWide_slice Try.underlying22 (hval 0 22 v0 rfl rfl)
  have k0 := h0
  have lt0 : ∀ x ∈ p0, x.block < W.heap.size := by obtain ⟨m, hm⟩ := k0; exact DataW.trod_lt m _ _ _ hm
  obtain ⟨z0, w0⟩ : ∃ zs, IsRow .u8 W a0 len0 cap0 zs := by
    obtain ⟨fuel, hf⟩ := h0
    rcases open_ints Try.underlying22 Try.underlying5 (by kernel_rfl) hf with ⟨hcs, _⟩ | ⟨x, l, c, zs, hcs, _, hl, hm, hz, _, hcell, hwz⟩
    · simp [Value.cells] at hcs
      obtain ⟨rfl, rfl, rfl⟩ := hcs
      exact ⟨[], .inl ⟨rfl, rfl, rfl, rfl⟩⟩
    · simp [Value.cells] at hcs
      obtain ⟨rfl, rfl, rfl⟩ := hcs
      exact ⟨zs, .inr ⟨_, rfl, hl, hm, by simpa using hz, hcell, hwz⟩⟩
  clear hA0 hval0
  refine (walk a0 len0 cap0 z0 W w0).mono fun e W' ⟨he, bel⟩ => ?_
  subst he
  exact ⟨_, rfl, _, _, _, [], _, [], hW', trodAll_mk1 (shut_bool Try.underlying4 _), (trodAll_cons_mk (Below.trod laidOut (by kernel_rfl) (of_decide_eq_true (by kernel_rfl)) k0 bel lt0) trodAll_mk0), rfl, bel.frame _, fun h => by cases h⟩

theorem over : Rows.fnSumsRow.holds Try.pinned (OpenSpec.ofChange Rows.fnSumsSpec) :=
  OpenClaim.holds_of_wide 3 Try.f3 rfl rfl rfl rfl rfl rfl rfl ⟨rfl, rfl, rfl, rfl, rfl⟩ rfl rfl rfl rfl rfl (by kernel_rfl) Try.func3 (by kernel_rfl)
    (of_decide_eq_true (by kernel_rfl)) (by unfold Func.isWrapper; first | (rw [if_pos (by decide +kernel)]; kernel_rfl) | (rw [if_neg (by decide +kernel)]; exact ⟨rfl, rfl⟩))
    (fun os started H enc _ => lifted os started H enc)

/-- ████ THE STATEMENT ████ -/
theorem proved : Rows.FnSumsSaid := over
end Go.Proofs.Ytdobohobhpailaa.fnSums
namespace Go.Proofs.Ytdobohobhpailaa
theorem fnSums_holds : Rows.FnSumsSaid := fnSums.proved
#print axioms fnSums_holds
end Go.Proofs.Ytdobohobhpailaa
