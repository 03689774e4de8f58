/-
  Proved: whatever bytes it is given, the law FnEach returns true (a sign on a drawn scalar and an array is that sign on each of its numbers, and on two of one shape on each two), and the bytes read as before. No condition.
-/
import Derived.Test.YtommbklaljdcmacRows
import Derived.WalkKit
import Derived.ProofKit
import Derived.OpenShut
import Derived.ShutString
import Derived.ChangeOld
import Derived.Below
import Derived.Test.YtommbklaljdcmacEachF2
import Derived.Test.YtommbklaljdcmacLaw3
import Derived.Test.YtommbklaljdcmacTwos
import Derived.Test.YtommbklaljdcmacImplEach3
import Derived.Test.YtommbklaljdcmacDrawTwoA
import Derived.Test.YtommbklaljdcmacSpecArr
import Derived.Test.YtommbklaljdcmacImplArr3
namespace Go.Proofs.Ytommbklaljdcmac.fnEach
open Go.ChangeShapes Go.WideShapes Go.ChangeAt Go.RowKit
open Go.ChangeMaps (open_string shut_string)
set_option linter.unusedVariables false
set_option linter.unusedSimpArgs false
set_option linter.unusedVariables false

theorem own : ownKnob Try.prog.godebug = none := by kernel_rfl
theorem laidOut : laidOutB Try.prog = true := by kernel_rfl

/-! ### STEP 1: THE WALK: the Go text returns true, AND WRITES NOTHING THAT WAS THERE: 'Below w.heap.size w w'' (Derived/Below.lean: '.refl', '.alloc', '.drew', '.setCell' at a new block, '.trans'). Open each 'IsRow' by 'rcases' AHEAD of 'go_enter'; part every test ahead of the walk. -/
set_option maxRecDepth 20000 in
set_option maxHeartbeats 8000000 in
theorem walk (a0 : Option Addr) (len0 cap0 : Nat) (z0 : List Int) (w : World) (w0 : IsRow .u8 w a0 len0 cap0 z0) :
    Calls Try.prog 3 #[.slice a0 len0 cap0] w fun e w' => e = .returned (.bool true) ∧ Below w.heap.size w w' := by
  have HS : Hid (Src w.heap.size w a0 len0) := src_of_row w0
  clear w0
  by_cases hbig : (1048576 : Int) < (len0 : Int)
  · go_enter Try.func3, Try.ntmps3
    go_wp2_with (go_at_call 5; refine (big_laws _ _ _ _).mono ?_; rintro e w' ⟨rfl, hw⟩; subst w')
    go_ret
    exact ⟨rfl, Below.refl _ _⟩
  have hb20 : len0 ≤ 1048576 := by omega
  go_enter Try.func3, Try.ntmps3
  go_wp2_with (go_at_call 5; refine (big_laws _ _ _ _).mono ?_; rintro e w' ⟨rfl, hw⟩; subst w')
  refine (drawEachTwo_spec HS.out hb20).mono ?_
  rintro r w1 ⟨x, v1, v2, s, d, t, f, rfl, ha, hc0, ⟨hls, hld, hlt, hlf⟩, hb⟩
  obtain ⟨a1, c1, b1, e1, rfl, _, _, _, _⟩ := ha.arrI
  obtain ⟨a2, c2, b2, e2, rfl, _, _, _, _⟩ := hc0.arrI
  have N_1 : Hid (Arr w.heap.size w1.heap.size w1 (.agg #[.slice a1 s.length c1, .slice b1 d.length e1]) s d) := ha
  have M_1 : Hid (Arr w.heap.size w1.heap.size w1 (.agg #[.slice a2 t.length c2, .slice b2 f.length e2]) t f) := hc0
  have Ls : Hid (s.length ≤ 1048576) := by show _ ≤ _; omega
  have Ld : Hid (d.length ≤ 1048576) := by show _ ≤ _; omega
  have Lt : Hid (t.length ≤ 1048576) := by show _ ≤ _; omega
  have Lf : Hid (f.length ≤ 1048576) := by show _ ≤ _; omega
  have HT1 : Hid (Below w.heap.size w w1) := hb
  have SZ1 : Hid (w.heap.size ≤ w1.heap.size) := hb.size
  clear hb ha hc0
  obtain ⟨C, hC⟩ : ∃ y, y = eachTwoC x s d t f := ⟨_, rfl⟩
  obtain ⟨S, hS⟩ : ∃ y, y = eachTwoS x s d t f := ⟨_, rfl⟩
  obtain ⟨D, hD⟩ : ∃ y, y = eachTwoD x s d t f := ⟨_, rfl⟩
  obtain ⟨FC, hFC⟩ : ∃ y, y = fitC s d t f := ⟨_, rfl⟩
  obtain ⟨FS, hFS⟩ : ∃ y, y = fitS s d t f := ⟨_, rfl⟩
  obtain ⟨n, hn⟩ : ∃ y, y = eachN s d t f := ⟨_, rfl⟩
  have LS : Hid (S.length ≤ 1048576) := by show _ ≤ _; rw [hS]; exact Nat.le_trans (eachTwoS_len _ _ _ _ _) (by decide)
  have LD : Hid (D.length ≤ 1048576) := by show _ ≤ _; rw [hD]; exact Nat.le_trans (eachTwoD_len _ _ _ _ _) (by decide)
  have LF : Hid (FS.length ≤ 1048576) := by show _ ≤ _; rw [hFS]; exact Nat.le_trans (fitS_len _ _ _ _) (by decide)
  have EI : Hid (∀ (W : World) (u v : Value), ArrI W u s d → ArrI W v t f → Calls Try.prog 7 #[.int .i64 x, u, v] W fun e w' => ∃ v, e = .returned (.tuple #[v, .int .i64 C]) ∧ Arr W.heap.size w'.heap.size w' v S D ∧ Below W.heap.size W w') := by
    intro W u v h k
    rw [hC, hS, hD]
    exact eachTwo_impl h k Ls.out Ld.out Lt.out Lf.out
  have ES : Hid (∀ (W : World) (u v : Value), ArrI W u s d → ArrI W v t f → Calls Try.prog 8 #[.int .i64 x, u, v] W fun e w' => ∃ v, e = .returned (.tuple #[v, .int .i64 C]) ∧ Arr W.heap.size w'.heap.size w' v S D ∧ Below W.heap.size W w') := by
    intro W u v h k
    rw [hC, hS, hD]
    exact eachTwo_spec h k Ls.out Ld.out Lt.out Lf.out
  have FI : Hid (∀ (W : World) (u v : Value), ArrI W u s d → ArrI W v t f → Calls Try.prog 9 #[u, v] W fun e w' => ∃ v, e = .returned (.tuple #[v, .int .i64 FC]) ∧ Piece W.heap.size w'.heap.size w' v FS ∧ Below W.heap.size W w') := by
    intro W u v h k
    rw [hFC, hFS]
    exact fit_impl h k Ls.out Ld.out Lt.out Lf.out
  have FG : Hid (C = 0 → FC = 0 ∧ S = FS ∧ D.length = n ∧ arrOk S D = true ∧ n ≤ 300 ∧ ∀ i, i < n → ((twoV x (numOf s d i) (numOf t f i)).2 = 0 ∧ D.getD i 0 = (twoV x (numOf s d i) (numOf t f i)).1) ∧ 0 < d.length ∧ 0 < f.length ∧ (s ≠ [] → i < d.length) ∧ (t ≠ [] → i < f.length)) := by
    rw [hC, hFC, hS, hFS, hD, hn]
    intro h
    obtain ⟨q1, q2, q3, q4, q5⟩ := two_facts h
    obtain ⟨z1, z2, z3⟩ := fit_size q1
    refine ⟨q1, q2, q3, q4, z2, fun i hi => ⟨q5 i hi, ?_, ?_, (z3 i hi).2.1, (z3 i hi).2.2.2⟩⟩
    · by_cases h0 : s = []
      · exact (z3 i hi).1 h0
      · have := (z3 i hi).2.1 h0; omega
    · by_cases h0 : t = []
      · exact (z3 i hi).2.2.1 h0
      · have := (z3 i hi).2.2.2 h0; omega
  have FB : Hid (C ≠ 0 → D.length = 0 ∧ (FC = 0 ∨ C = FC ∨ C = 1)) := by
    rw [hC, hD, hFC]
    exact fun h => ⟨by rw [(eachTwo_bad h).2]; rfl, two_why h⟩
  have hneC : (C != C) = false := by simp
  clear hC hS hD hFC hFS hn
  go_wp2_with fail
  refine (EI.out _ _ _ ((N_1.out.arrI).keep (bAlloc (bAlloc (Below.refl _ _) _) _)) ((M_1.out.arrI).keep (bAlloc (bAlloc (Below.refl _ _) _) _))).mono ?_
  rintro r w2 ⟨vG, rfl, ha, hb⟩
  obtain ⟨aG, cG, bG, eG, rfl, _, _, _, _⟩ := ha.arrI
  have G_2 : Hid (Arr (w1.heap.size + 2) w2.heap.size w2 (.agg #[.slice aG S.length cG, .slice bG D.length eG]) S D) := ha.mono (by first | exact Nat.le_refl _ | simp | (simp; omega)) (Nat.le_refl _)
  clear ha
  have HB2 : Hid (Below w1.heap.size w1 w2) := bTrans (bAlloc (bAlloc (Below.refl _ _) _) _) hb
  have HT2 : Hid (Below w.heap.size w w2) := bTrans HT1.out HB2.out
  have SZ2 : Hid (w1.heap.size ≤ w2.heap.size) := HB2.out.size
  have N_2 : Hid (Arr w.heap.size w1.heap.size w2 (.agg #[.slice a1 s.length c1, .slice b1 d.length e1]) s d) := N_1.out.keep HB2.out
  have M_2 : Hid (Arr w.heap.size w1.heap.size w2 (.agg #[.slice a2 t.length c2, .slice b2 f.length e2]) t f) := M_1.out.keep HB2.out
  have QN_2 : Hid (Box w2 w1.heap.size (.slice a1 s.length c1) (.slice b1 d.length e1) 26) := ((box_new w1 _ _ _).keep (bAlloc (Below.refl _ _) _)).keep hb
  have LTQN : Hid (w1.heap.size < w2.heap.size) := QN_2.out.lt
  have QM_2 : Hid (Box w2 (w1.heap.size + 1) (.slice a2 t.length c2) (.slice b2 f.length e2) 26) := (box_new2 w1 _ _ _ _).keep hb
  have LTQM : Hid ((w1.heap.size + 1) < w2.heap.size) := QM_2.out.lt
  clear N_1 M_1 hb
  have QNc0 := QN_2.out.c0
  have QNc1 := QN_2.out.c1
  have QNd0 : ∀ o : Obj, (w2.alloc o).cell? ⟨w1.heap.size, 0, none⟩ = some (.slice a1 s.length c1) := fun o => (QN_2.out.keep (bAlloc (Below.refl _ _) o)).c0
  have QNd1 : ∀ o : Obj, (w2.alloc o).cell? ⟨w1.heap.size, 1, none⟩ = some (.slice b1 d.length e1) := fun o => (QN_2.out.keep (bAlloc (Below.refl _ _) o)).c1
  have QMc0 := QM_2.out.c0
  have QMc1 := QM_2.out.c1
  have QMd0 : ∀ o : Obj, (w2.alloc o).cell? ⟨(w1.heap.size + 1), 0, none⟩ = some (.slice a2 t.length c2) := fun o => (QM_2.out.keep (bAlloc (Below.refl _ _) o)).c0
  have QMd1 : ∀ o : Obj, (w2.alloc o).cell? ⟨(w1.heap.size + 1), 1, none⟩ = some (.slice b2 f.length e2) := fun o => (QM_2.out.keep (bAlloc (Below.refl _ _) o)).c1
  go_wp2_with fail
  refine (ES.out _ _ _ ((N_2.out.arrI).keep (bAlloc (Below.refl _ _) _)) ((M_2.out.arrI).keep (bAlloc (Below.refl _ _) _))).mono ?_
  rintro r w3 ⟨vW, rfl, ha, hb⟩
  obtain ⟨aW, cW, bW, eW, rfl, _, _, _, _⟩ := ha.arrI
  have W_3 : Hid (Arr (w2.heap.size + 1) w3.heap.size w3 (.agg #[.slice aW S.length cW, .slice bW D.length eW]) S D) := ha.mono (by first | exact Nat.le_refl _ | simp | (simp; omega)) (Nat.le_refl _)
  clear ha
  have HB3 : Hid (Below w2.heap.size w2 w3) := bTrans (bAlloc (Below.refl _ _) _) hb
  have HT3 : Hid (Below w.heap.size w w3) := bTrans HT2.out HB3.out
  have SZ3 : Hid (w2.heap.size ≤ w3.heap.size) := HB3.out.size
  have QN_3 : Hid (Box w3 w1.heap.size (.slice a1 s.length c1) (.slice b1 d.length e1) 26) := QN_2.out.keep HB3.out
  have QM_3 : Hid (Box w3 (w1.heap.size + 1) (.slice a2 t.length c2) (.slice b2 f.length e2) 26) := QM_2.out.keep HB3.out
  have N_3 : Hid (Arr w.heap.size w1.heap.size w3 (.agg #[.slice a1 s.length c1, .slice b1 d.length e1]) s d) := N_2.out.keep HB3.out
  have M_3 : Hid (Arr w.heap.size w1.heap.size w3 (.agg #[.slice a2 t.length c2, .slice b2 f.length e2]) t f) := M_2.out.keep HB3.out
  have G_3 : Hid (Arr (w1.heap.size + 2) w2.heap.size w3 (.agg #[.slice aG S.length cG, .slice bG D.length eG]) S D) := G_2.out.keep HB3.out
  have QG_3 : Hid (Box w3 w2.heap.size (.slice aG S.length cG) (.slice bG D.length eG) 26) := (box_new w2 _ _ _).keep hb
  have LTQG : Hid (w2.heap.size < w3.heap.size) := QG_3.out.lt
  clear QN_2 QM_2 N_2 M_2 G_2 QNc0 QNc1 QNd0 QNd1 QMc0 QMc1 QMd0 QMd1 hb
  have QNc0 := QN_3.out.c0
  have QNc1 := QN_3.out.c1
  have QNd0 : ∀ o : Obj, (w3.alloc o).cell? ⟨w1.heap.size, 0, none⟩ = some (.slice a1 s.length c1) := fun o => (QN_3.out.keep (bAlloc (Below.refl _ _) o)).c0
  have QNd1 : ∀ o : Obj, (w3.alloc o).cell? ⟨w1.heap.size, 1, none⟩ = some (.slice b1 d.length e1) := fun o => (QN_3.out.keep (bAlloc (Below.refl _ _) o)).c1
  have QMc0 := QM_3.out.c0
  have QMc1 := QM_3.out.c1
  have QMd0 : ∀ o : Obj, (w3.alloc o).cell? ⟨(w1.heap.size + 1), 0, none⟩ = some (.slice a2 t.length c2) := fun o => (QM_3.out.keep (bAlloc (Below.refl _ _) o)).c0
  have QMd1 : ∀ o : Obj, (w3.alloc o).cell? ⟨(w1.heap.size + 1), 1, none⟩ = some (.slice b2 f.length e2) := fun o => (QM_3.out.keep (bAlloc (Below.refl _ _) o)).c1
  have QGc0 := QG_3.out.c0
  have QGc1 := QG_3.out.c1
  have QGd0 : ∀ o : Obj, (w3.alloc o).cell? ⟨w2.heap.size, 0, none⟩ = some (.slice aG S.length cG) := fun o => (QG_3.out.keep (bAlloc (Below.refl _ _) o)).c0
  have QGd1 : ∀ o : Obj, (w3.alloc o).cell? ⟨w2.heap.size, 1, none⟩ = some (.slice bG D.length eG) := fun o => (QG_3.out.keep (bAlloc (Below.refl _ _) o)).c1
  go_wp2_with fail
  refine (FI.out _ _ _ ((N_3.out.arrI).keep (bAlloc (Below.refl _ _) _)) ((M_3.out.arrI).keep (bAlloc (Below.refl _ _) _))).mono ?_
  rintro r w4 ⟨vF, rfl, ha, hb⟩
  obtain ⟨aF, cF, rfl, _⟩ := ha.ints
  have F_4 : Hid (Piece (w3.heap.size + 1) w4.heap.size w4 (.slice aF FS.length cF) FS) := ha.mono (by first | exact Nat.le_refl _ | simp | (simp; omega)) (Nat.le_refl _)
  clear ha
  have HB4 : Hid (Below w3.heap.size w3 w4) := bTrans (bAlloc (Below.refl _ _) _) hb
  have HT4 : Hid (Below w.heap.size w w4) := bTrans HT3.out HB4.out
  have SZ4 : Hid (w3.heap.size ≤ w4.heap.size) := HB4.out.size
  have QN_4 : Hid (Box w4 w1.heap.size (.slice a1 s.length c1) (.slice b1 d.length e1) 26) := QN_3.out.keep HB4.out
  have QM_4 : Hid (Box w4 (w1.heap.size + 1) (.slice a2 t.length c2) (.slice b2 f.length e2) 26) := QM_3.out.keep HB4.out
  have QG_4 : Hid (Box w4 w2.heap.size (.slice aG S.length cG) (.slice bG D.length eG) 26) := QG_3.out.keep HB4.out
  have N_4 : Hid (Arr w.heap.size w1.heap.size w4 (.agg #[.slice a1 s.length c1, .slice b1 d.length e1]) s d) := N_3.out.keep HB4.out
  have M_4 : Hid (Arr w.heap.size w1.heap.size w4 (.agg #[.slice a2 t.length c2, .slice b2 f.length e2]) t f) := M_3.out.keep HB4.out
  have G_4 : Hid (Arr (w1.heap.size + 2) w2.heap.size w4 (.agg #[.slice aG S.length cG, .slice bG D.length eG]) S D) := G_3.out.keep HB4.out
  have QW_4 : Hid (Box w4 w3.heap.size (.slice aW S.length cW) (.slice bW D.length eW) 26) := (box_new w3 _ _ _).keep hb
  have LTQW : Hid (w3.heap.size < w4.heap.size) := QW_4.out.lt
  clear QN_3 QM_3 QG_3 N_3 M_3 G_3 QNc0 QNc1 QNd0 QNd1 QMc0 QMc1 QMd0 QMd1 QGc0 QGc1 QGd0 QGd1 hb
  have QNc0 := QN_4.out.c0
  have QNc1 := QN_4.out.c1
  have QMc0 := QM_4.out.c0
  have QMc1 := QM_4.out.c1
  have QGc0 := QG_4.out.c0
  have QGc1 := QG_4.out.c1
  have QWc0 := QW_4.out.c0
  have QWc1 := QW_4.out.c1
  by_cases hc : C = 0
  · have mark0 : True := trivial
    obtain ⟨rfl, hSF, hDn, hok, hn3, hall⟩ := FG.out hc
    subst hc
    have HA : Hid (∀ i, i < n → ((twoV x (numOf s d i) (numOf t f i)).2 = 0 ∧ D.getD i 0 = (twoV x (numOf s d i) (numOf t f i)).1) ∧ 0 < d.length ∧ 0 < f.length ∧ (s ≠ [] → i < d.length) ∧ (t ≠ [] → i < f.length)) := hall
    have HDN : Hid (D.length = n) := hDn
    have HSF : Hid (S = FS) := hSF
    have HOK : Hid (arrOk S D = true) := hok
    clear hall hDn hSF hok
    have SI : Hid (∀ W, IntsI W (.slice aF FS.length cF) FS → ArrI W (.agg #[.slice aG S.length cG, .slice bG D.length eG]) S D → Calls Try.prog 10 #[.slice aF FS.length cF, .slice aG S.length cG] W fun e w' => e = .returned (.bool true) ∧ Below W.heap.size W w') := fun W h k => by
      obtain ⟨_, _, ev, _, i1⟩ := h
      cases ev
      obtain ⟨_, _, _, _, ev, i2, _, _, _⟩ := k
      cases ev
      refine (same_ints cF cG (by have := LF.out; omega) i1 i2).mono ?_
      rintro r w' ⟨rfl, j, rfl⟩
      exact ⟨by simp [HSF.out], bDrewN (Below.refl _ _) j⟩
    have OK : Hid (∀ W u, ArrI W u S D → Calls Try.prog 11 #[u] W fun e w' => e = .returned (.bool true) ∧ Below W.heap.size W w') := fun W u h => by
      have q := arrOk_impl h LD.out
      rw [HOK.out] at q
      exact q
    go_wp2_with fail
    refine (SI.out _ (F_4.out.intsI) (G_4.out.arrI)).mono ?_
    rintro r w5 ⟨rfl, hb⟩
    have HB5 : Hid (Below w4.heap.size w4 w5) := hb
    have HT5 : Hid (Below w.heap.size w w5) := bTrans HT4.out HB5.out
    have SZ5 : Hid (w4.heap.size ≤ w5.heap.size) := HB5.out.size
    have QN_5 : Hid (Box w5 w1.heap.size (.slice a1 s.length c1) (.slice b1 d.length e1) 26) := QN_4.out.keep HB5.out
    have QM_5 : Hid (Box w5 (w1.heap.size + 1) (.slice a2 t.length c2) (.slice b2 f.length e2) 26) := QM_4.out.keep HB5.out
    have QG_5 : Hid (Box w5 w2.heap.size (.slice aG S.length cG) (.slice bG D.length eG) 26) := QG_4.out.keep HB5.out
    have QW_5 : Hid (Box w5 w3.heap.size (.slice aW S.length cW) (.slice bW D.length eW) 26) := QW_4.out.keep HB5.out
    have N_5 : Hid (Arr w.heap.size w1.heap.size w5 (.agg #[.slice a1 s.length c1, .slice b1 d.length e1]) s d) := N_4.out.keep HB5.out
    have M_5 : Hid (Arr w.heap.size w1.heap.size w5 (.agg #[.slice a2 t.length c2, .slice b2 f.length e2]) t f) := M_4.out.keep HB5.out
    have G_5 : Hid (Arr (w1.heap.size + 2) w2.heap.size w5 (.agg #[.slice aG S.length cG, .slice bG D.length eG]) S D) := G_4.out.keep HB5.out
    have F_5 : Hid (Piece (w3.heap.size + 1) w4.heap.size w5 (.slice aF FS.length cF) FS) := F_4.out.keep HB5.out
    clear QN_4 QM_4 QG_4 QW_4 N_4 M_4 G_4 F_4 QNc0 QNc1 QMc0 QMc1 QGc0 QGc1 QWc0 QWc1 hb
    have QNc0 := QN_5.out.c0
    have QNc1 := QN_5.out.c1
    have QMc0 := QM_5.out.c0
    have QMc1 := QM_5.out.c1
    have QGc0 := QG_5.out.c0
    have QGc1 := QG_5.out.c1
    have QWc0 := QW_5.out.c0
    have QWc1 := QW_5.out.c1
    go_wp2_with fail
    refine (OK.out _ _ (G_5.out.arrI)).mono ?_
    rintro r w6 ⟨rfl, hb⟩
    have HB6 : Hid (Below w5.heap.size w5 w6) := hb
    have HT6 : Hid (Below w.heap.size w w6) := bTrans HT5.out HB6.out
    have SZ6 : Hid (w5.heap.size ≤ w6.heap.size) := HB6.out.size
    have QN_6 : Hid (Box w6 w1.heap.size (.slice a1 s.length c1) (.slice b1 d.length e1) 26) := QN_5.out.keep HB6.out
    have QM_6 : Hid (Box w6 (w1.heap.size + 1) (.slice a2 t.length c2) (.slice b2 f.length e2) 26) := QM_5.out.keep HB6.out
    have QG_6 : Hid (Box w6 w2.heap.size (.slice aG S.length cG) (.slice bG D.length eG) 26) := QG_5.out.keep HB6.out
    have QW_6 : Hid (Box w6 w3.heap.size (.slice aW S.length cW) (.slice bW D.length eW) 26) := QW_5.out.keep HB6.out
    have N_6 : Hid (Arr w.heap.size w1.heap.size w6 (.agg #[.slice a1 s.length c1, .slice b1 d.length e1]) s d) := N_5.out.keep HB6.out
    have M_6 : Hid (Arr w.heap.size w1.heap.size w6 (.agg #[.slice a2 t.length c2, .slice b2 f.length e2]) t f) := M_5.out.keep HB6.out
    have G_6 : Hid (Arr (w1.heap.size + 2) w2.heap.size w6 (.agg #[.slice aG S.length cG, .slice bG D.length eG]) S D) := G_5.out.keep HB6.out
    clear QN_5 QM_5 QG_5 QW_5 N_5 M_5 G_5 QNc0 QNc1 QMc0 QMc1 QGc0 QGc1 QWc0 QWc1 hb
    have QNc0 := QN_6.out.c0
    have QNc1 := QN_6.out.c1
    have QMc0 := QM_6.out.c0
    have QMc1 := QM_6.out.c1
    have QGc0 := QG_6.out.c0
    have QGc1 := QG_6.out.c1
    have QWc0 := QW_6.out.c0
    have QWc1 := QW_6.out.c1
    go_wp2
    go_loopw [12] (fun i w' => ∃ k : Nat, k ≤ n ∧ i = .int .i64 (k : Int) ∧ Below w6.heap.size w6 w') (fun i _ => n - (intOf i).toNat)
    case atStart => exact ⟨0, by omega, rfl, Below.refl _ _⟩
    case round =>
      obtain ⟨k, hk, rfl, hB⟩ := hrel
      have HC : Hid (Below w6.heap.size w6 wr) := hB
      have QA : Hid (Box wr w1.heap.size (.slice a1 s.length c1) (.slice b1 d.length e1) 26) := QN_6.out.keep hB
      have QM : Hid (Box wr (w1.heap.size + 1) (.slice a2 t.length c2) (.slice b2 f.length e2) 26) := QM_6.out.keep hB
      have QG : Hid (Box wr w2.heap.size (.slice aG S.length cG) (.slice bG D.length eG) 26) := QG_6.out.keep hB
      have NA : Hid (ArrI wr (.agg #[.slice a1 s.length c1, .slice b1 d.length e1]) s d) := N_6.out.arrI.keep hB
      have MA : Hid (ArrI wr (.agg #[.slice a2 t.length c2, .slice b2 f.length e2]) t f) := M_6.out.arrI.keep hB
      have GA : Hid (ArrI wr (.agg #[.slice aG S.length cG, .slice bG D.length eG]) S D) := G_6.out.arrI.keep hB
      clear hB QNc0 QNc1 QMc0 QMc1 QGc0 QGc1 QWc0 QWc1
      have q0 := QA.out.c0
      have q1 := QA.out.c1
      have q2 := QM.out.c0
      have q3 := QM.out.c1
      have q4 := QG.out.c0
      have q5 := QG.out.c1
      have hDN : (D.length : Int) = (n : Int) := by rw [HDN.out]
      by_cases hlt : (k : Int) < (n : Int)
      · have L : k < n := by omega
        have hltD : (k : Int) < (D.length : Int) := by omega
        obtain ⟨⟨y1, y2⟩, z1, z2, z3, z4⟩ := HA.out k L
        have l1 : (0 : Int) < (d.length : Int) := by omega
        have l2 : (0 : Int) < (f.length : Int) := by omega
        obtain ⟨_, _, _, _, ev, _, i1, _, _⟩ := NA.out
        cases ev
        obtain ⟨_, _, _, _, ev, _, i2, _, _⟩ := MA.out
        cases ev
        obtain ⟨_, _, _, _, ev, _, i3, _, _⟩ := GA.out
        cases ev
        obtain ⟨p1, o1, rfl, hp1, t1⟩ := i1.at (k := 0) z1
        obtain ⟨p2, o2, rfl, hp2, t2⟩ := i2.at (k := 0) z2
        obtain ⟨p3, o3, rfl, hp3, t3⟩ := i3.at (k := k) (by have := HDN.out; omega)
        rw [Nat.add_zero] at t1 t2
        by_cases es : s = []
        · by_cases et : t = []
          · have mark1 : True := trivial
            have hs : (s.length : Int) ≤ 0 := by rw [es]; simp
            have ht : (t.length : Int) ≤ 0 := by rw [et]; simp
            have nx : numOf s d k = d.getD 0 0 := by unfold numOf; rw [if_pos es]
            clear es
            have ny : numOf t f k = f.getD 0 0 := by unfold numOf; rw [if_pos et]
            clear et
            have TW : Hid (∀ W, Calls Try.prog 12 #[.int .i64 x, .int .i64 (numOf s d k), .int .i64 (numOf t f k)] W fun e w' => e = .returned (.tuple #[.int .i64 (twoV x (numOf s d k) (numOf t f k)).1, .int .i64 0]) ∧ Below W.heap.size W w') := fun W => by
              have q := two_impl x (numOf s d k) (numOf t f k) W
              rw [y1] at q
              exact q
            rw [nx, ny] at TW y2
            rw [y2] at t3
            generalize (twoV x (d.getD 0 0) (f.getD 0 0)).1 = z at *
            generalize d.getD 0 0 = vd0 at *
            generalize f.getD 0 0 = vf0 at *
            have hzz : (z != z) = false := by simp
            have T3 : Hid (wr.cell? ⟨p3, o3 + k, none⟩ = some (.int .i64 z) ∧ p3 < wr.heap.size) := ⟨t3, hp3⟩
            clear y1 y2 i1 i2 i3 nx ny z3 z4 hDN
            go_wp2_with fail
            go_quiet (fail)
            go_wp2_with fail
            refine (TW.out _).mono ?_
            rintro r wn ⟨rfl, hb⟩
            have CN : Hid (Below wr.heap.size wr wn) := bTrans (by repeat first | exact Below.refl _ _ | exact bDrewN (Below.refl _ _) _ | refine Below.drew ?_) hb
            have QB' : Hid (Box wn w2.heap.size (.slice aG S.length cG) (.slice (some ⟨p3, o3, none⟩) D.length eG) 26) := QG.out.keep CN.out
            have t4 : wn.cell? ⟨p3, o3 + k, none⟩ = some (.int .i64 z) := (CN.out.cell (p := ⟨p3, o3 + k, none⟩) T3.out.2).trans T3.out.1
            have q6 := QB'.out.c0
            have q7 := QB'.out.c1
            go_wp2
            go_roundw
            case rel => exact ⟨k + 1, by omega, by go_num, bTrans HC.out CN.out⟩
            case measure => simp [intOf]; omega
          · have mark1 : True := trivial
            have hs : (s.length : Int) ≤ 0 := by rw [es]; simp
            have ht : (0 : Int) < (t.length : Int) := by have := List.length_pos_iff.2 et; omega
            have nx : numOf s d k = d.getD 0 0 := by unfold numOf; rw [if_pos es]
            clear es
            have ny : numOf t f k = f.getD k 0 := by unfold numOf; rw [if_neg et]
            obtain ⟨_, _, ee, _, tk2⟩ := i2.at (k := k) (z4 et)
            cases ee
            have lk2 : (k : Int) < (f.length : Int) := by have := z4 et; omega
            have TW : Hid (∀ W, Calls Try.prog 12 #[.int .i64 x, .int .i64 (numOf s d k), .int .i64 (numOf t f k)] W fun e w' => e = .returned (.tuple #[.int .i64 (twoV x (numOf s d k) (numOf t f k)).1, .int .i64 0]) ∧ Below W.heap.size W w') := fun W => by
              have q := two_impl x (numOf s d k) (numOf t f k) W
              rw [y1] at q
              exact q
            rw [nx, ny] at TW y2
            rw [y2] at t3
            generalize (twoV x (d.getD 0 0) (f.getD k 0)).1 = z at *
            generalize d.getD 0 0 = vd0 at *
            generalize f.getD 0 0 = vf0 at *
            generalize f.getD k 0 = vfk at *
            have hzz : (z != z) = false := by simp
            have T3 : Hid (wr.cell? ⟨p3, o3 + k, none⟩ = some (.int .i64 z) ∧ p3 < wr.heap.size) := ⟨t3, hp3⟩
            clear y1 y2 i1 i2 i3 nx ny z3 z4 hDN
            go_wp2_with fail
            go_quiet (fail)
            go_wp2_with fail
            refine (TW.out _).mono ?_
            rintro r wn ⟨rfl, hb⟩
            have CN : Hid (Below wr.heap.size wr wn) := bTrans (by repeat first | exact Below.refl _ _ | exact bDrewN (Below.refl _ _) _ | refine Below.drew ?_) hb
            have QB' : Hid (Box wn w2.heap.size (.slice aG S.length cG) (.slice (some ⟨p3, o3, none⟩) D.length eG) 26) := QG.out.keep CN.out
            have t4 : wn.cell? ⟨p3, o3 + k, none⟩ = some (.int .i64 z) := (CN.out.cell (p := ⟨p3, o3 + k, none⟩) T3.out.2).trans T3.out.1
            have q6 := QB'.out.c0
            have q7 := QB'.out.c1
            go_wp2
            go_roundw
            case rel => exact ⟨k + 1, by omega, by go_num, bTrans HC.out CN.out⟩
            case measure => simp [intOf]; omega
        · by_cases et : t = []
          · have mark1 : True := trivial
            have hs : (0 : Int) < (s.length : Int) := by have := List.length_pos_iff.2 es; omega
            have ht : (t.length : Int) ≤ 0 := by rw [et]; simp
            have nx : numOf s d k = d.getD k 0 := by unfold numOf; rw [if_neg es]
            obtain ⟨_, _, ee, _, tk1⟩ := i1.at (k := k) (z3 es)
            cases ee
            have lk1 : (k : Int) < (d.length : Int) := by have := z3 es; omega
            have ny : numOf t f k = f.getD 0 0 := by unfold numOf; rw [if_pos et]
            clear et
            have TW : Hid (∀ W, Calls Try.prog 12 #[.int .i64 x, .int .i64 (numOf s d k), .int .i64 (numOf t f k)] W fun e w' => e = .returned (.tuple #[.int .i64 (twoV x (numOf s d k) (numOf t f k)).1, .int .i64 0]) ∧ Below W.heap.size W w') := fun W => by
              have q := two_impl x (numOf s d k) (numOf t f k) W
              rw [y1] at q
              exact q
            rw [nx, ny] at TW y2
            rw [y2] at t3
            generalize (twoV x (d.getD k 0) (f.getD 0 0)).1 = z at *
            generalize d.getD 0 0 = vd0 at *
            generalize f.getD 0 0 = vf0 at *
            generalize d.getD k 0 = vdk at *
            have hzz : (z != z) = false := by simp
            have T3 : Hid (wr.cell? ⟨p3, o3 + k, none⟩ = some (.int .i64 z) ∧ p3 < wr.heap.size) := ⟨t3, hp3⟩
            clear y1 y2 i1 i2 i3 nx ny z3 z4 hDN
            go_wp2_with fail
            go_quiet (fail)
            go_wp2_with fail
            refine (TW.out _).mono ?_
            rintro r wn ⟨rfl, hb⟩
            have CN : Hid (Below wr.heap.size wr wn) := bTrans (by repeat first | exact Below.refl _ _ | exact bDrewN (Below.refl _ _) _ | refine Below.drew ?_) hb
            have QB' : Hid (Box wn w2.heap.size (.slice aG S.length cG) (.slice (some ⟨p3, o3, none⟩) D.length eG) 26) := QG.out.keep CN.out
            have t4 : wn.cell? ⟨p3, o3 + k, none⟩ = some (.int .i64 z) := (CN.out.cell (p := ⟨p3, o3 + k, none⟩) T3.out.2).trans T3.out.1
            have q6 := QB'.out.c0
            have q7 := QB'.out.c1
            go_wp2
            go_roundw
            case rel => exact ⟨k + 1, by omega, by go_num, bTrans HC.out CN.out⟩
            case measure => simp [intOf]; omega
          · have mark1 : True := trivial
            have hs : (0 : Int) < (s.length : Int) := by have := List.length_pos_iff.2 es; omega
            have ht : (0 : Int) < (t.length : Int) := by have := List.length_pos_iff.2 et; omega
            have nx : numOf s d k = d.getD k 0 := by unfold numOf; rw [if_neg es]
            obtain ⟨_, _, ee, _, tk1⟩ := i1.at (k := k) (z3 es)
            cases ee
            have lk1 : (k : Int) < (d.length : Int) := by have := z3 es; omega
            have ny : numOf t f k = f.getD k 0 := by unfold numOf; rw [if_neg et]
            obtain ⟨_, _, ee, _, tk2⟩ := i2.at (k := k) (z4 et)
            cases ee
            have lk2 : (k : Int) < (f.length : Int) := by have := z4 et; omega
            have TW : Hid (∀ W, Calls Try.prog 12 #[.int .i64 x, .int .i64 (numOf s d k), .int .i64 (numOf t f k)] W fun e w' => e = .returned (.tuple #[.int .i64 (twoV x (numOf s d k) (numOf t f k)).1, .int .i64 0]) ∧ Below W.heap.size W w') := fun W => by
              have q := two_impl x (numOf s d k) (numOf t f k) W
              rw [y1] at q
              exact q
            rw [nx, ny] at TW y2
            rw [y2] at t3
            generalize (twoV x (d.getD k 0) (f.getD k 0)).1 = z at *
            generalize d.getD 0 0 = vd0 at *
            generalize f.getD 0 0 = vf0 at *
            generalize d.getD k 0 = vdk at *
            generalize f.getD k 0 = vfk at *
            have hzz : (z != z) = false := by simp
            have T3 : Hid (wr.cell? ⟨p3, o3 + k, none⟩ = some (.int .i64 z) ∧ p3 < wr.heap.size) := ⟨t3, hp3⟩
            clear y1 y2 i1 i2 i3 nx ny z3 z4 hDN
            go_wp2_with fail
            go_quiet (fail)
            go_wp2_with fail
            refine (TW.out _).mono ?_
            rintro r wn ⟨rfl, hb⟩
            have CN : Hid (Below wr.heap.size wr wn) := bTrans (by repeat first | exact Below.refl _ _ | exact bDrewN (Below.refl _ _) _ | refine Below.drew ?_) hb
            have QB' : Hid (Box wn w2.heap.size (.slice aG S.length cG) (.slice (some ⟨p3, o3, none⟩) D.length eG) 26) := QG.out.keep CN.out
            have t4 : wn.cell? ⟨p3, o3 + k, none⟩ = some (.int .i64 z) := (CN.out.cell (p := ⟨p3, o3 + k, none⟩) T3.out.2).trans T3.out.1
            have q6 := QB'.out.c0
            have q7 := QB'.out.c1
            go_wp2
            go_roundw
            case rel => exact ⟨k + 1, by omega, by go_num, bTrans HC.out CN.out⟩
            case measure => simp [intOf]; omega
      · have hnl : ¬ (k : Int) < (D.length : Int) := by omega
        have hle : (D.length : Int) ≤ (k : Int) := by omega
        clear hDN
        go_wp2
        go_ret
        exact ⟨rfl, bTrans HT6.out HC.out⟩
  · have mark0 : True := trivial
    obtain ⟨hD0, hw⟩ := FB.out hc
    have n0 : (C != 0) = true := by simpa using hc
    have hl : ((D.length : Int) == 0) = true := by rw [hD0]; rfl
    have hcc : ((FC == 0) || (C == FC) || (C == 1)) = true := by rcases hw with h | h | h <;> simp [h]
    clear hw hD0
    cases h1 : (FC == 0)
    · cases h2 : (C == FC)
      · have h3 : (C == 1) = true := by simpa [h1, h2] using hcc
        go_wp2
        go_ret
        exact ⟨by simp [hl, h1, h2, h3], HT4.out⟩
      · go_wp2
        go_ret
        exact ⟨by simp [hl, h1, h2], HT4.out⟩
    · go_wp2
      go_ret
      exact ⟨by simp [hl, h1], HT4.out⟩

/-! ### THE ROW's STEP: WRITTEN OUT: LEAVE IT -/
set_option maxRecDepth 100000 in
theorem lifted (os : Os) (started : os.Started) (H : Type) (enc : TypeId × Value → H) :
    ReturnsInHanded {} Try.checked os 3 .any (Rows.fnEachSpec.pre6 enc Try.prog Try.f3 Rows.fnEachRow.domain false) (Rows.fnEachSpec.post enc Try.prog Try.f3 false true false false) := by
  refine returnsInHanded_of_change (C := Try.checked) own started (by kernel_rfl) Try.func3
    (ChangeSpec.witness6 (enc := enc) (C := Try.checked) false ⟨#[], #[.slice none 0 0], []⟩ 8 (by kernel_rfl) (by kernel_rfl) (by kernel_rfl) (by kernel_rfl)) ?_
  intro W base args ds gs before hval0 hW hcnd _
  have hval : ∀ (j : Nat) t v, Try.f3.params[j]? = some t → args[j]? = some v → Value.okWide Try.prog W .any base t v := hval0
  have hW' := hW
  obtain ⟨p, q, hA0, hV, rfl, hfz, hnd⟩ := hW
  have hA : DataW.TrodAll enc Try.prog W 0 (fun _ => true) true Try.f3.params.toList args.toList ds p := hA0
  rw [Try.params3] at hA hval
  obtain ⟨v0, vs0, d0, ds0, p0, q0, hargs, rfl, rfl, h0, r0⟩ := trodAll_cons hA
  obtain ⟨rfl, rfl, rfl⟩ := trodAll_nil r0
  obtain rfl : args = #[v0] := by cases args; simp_all
  obtain ⟨rfl, rfl⟩ := trodVars_none hV
  obtain ⟨a0, len0, cap0, rfl⟩ := okWide_slice Try.underlying22 (hval 0 22 v0 rfl rfl)
  have k0 := h0
  have lt0 : ∀ x ∈ p0, x.block < W.heap.size := by obtain ⟨m, hm⟩ := k0; exact DataW.trod_lt m _ _ _ hm
  obtain ⟨z0, w0⟩ : ∃ zs, IsRow .u8 W a0 len0 cap0 zs := by
    obtain ⟨fuel, hf⟩ := h0
    rcases open_ints Try.underlying22 Try.underlying5 (by kernel_rfl) hf with ⟨hcs, _⟩ | ⟨x, l, c, zs, hcs, _, hl, hm, hz, _, hcell, hwz⟩
    · simp [Value.cells] at hcs
      obtain ⟨rfl, rfl, rfl⟩ := hcs
      exact ⟨[], .inl ⟨rfl, rfl, rfl, rfl⟩⟩
    · simp [Value.cells] at hcs
      obtain ⟨rfl, rfl, rfl⟩ := hcs
      exact ⟨zs, .inr ⟨_, rfl, hl, hm, by simpa using hz, hcell, hwz⟩⟩
  clear hA0 hval0
  refine (walk a0 len0 cap0 z0 W w0).mono fun e W' ⟨he, bel⟩ => ?_
  subst he
  exact ⟨_, rfl, _, _, _, [], _, [], hW', trodAll_mk1 (shut_bool Try.underlying4 _), (trodAll_cons_mk (Below.trod laidOut (by kernel_rfl) (of_decide_eq_true (by kernel_rfl)) k0 bel lt0) trodAll_mk0), rfl, bel.frame _, fun h => by cases h⟩

theorem over : Rows.fnEachRow.holds Try.pinned (OpenSpec.ofChange Rows.fnEachSpec) :=
  OpenClaim.holds_of_wide 3 Try.f3 rfl rfl rfl rfl rfl rfl rfl ⟨rfl, rfl, rfl, rfl, rfl⟩ rfl rfl rfl rfl rfl (by kernel_rfl) Try.func3 (by kernel_rfl)
    (of_decide_eq_true (by kernel_rfl)) (by unfold Func.isWrapper; first | (rw [if_pos (by decide +kernel)]; kernel_rfl) | (rw [if_neg (by decide +kernel)]; exact ⟨rfl, rfl⟩))
    (fun os started H enc _ => lifted os started H enc)

/-- ████ THE STATEMENT ████ -/
theorem proved : Rows.FnEachSaid := over
end Go.Proofs.Ytommbklaljdcmac.fnEach
namespace Go.Proofs.Ytommbklaljdcmac
theorem fnEach_holds : Rows.FnEachSaid := fnEach.proved
#print axioms fnEach_holds
end Go.Proofs.Ytommbklaljdcmac
