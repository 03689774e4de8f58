/-
  Proved: whatever code it is given, the law FnFound returns true (what is found of drawn numbers stands there, and not earlier; what is not, is not within). No condition.
-/
import Derived.Test.YthjjjnapcbkhjaaRows
import Derived.WalkKit
import Derived.ProofKit
import Derived.OpenShut
import Derived.ShutString
import Derived.ChangeOld
import Derived.Below
import Derived.Test.YthjjjnapcbkhjaaFoundFM
import Derived.Test.YthjjjnapcbkhjaaDrawFindM
import Derived.Test.YthjjjnapcbkhjaaSpecLook2M
import Derived.Test.YthjjjnapcbkhjaaImplWithinM
import Derived.Test.YthjjjnapcbkhjaaImplFindM
import Derived.Test.YthjjjnapcbkhjaaLaw3
namespace Go.Proofs.Ythjjjnapcbkhjaa.fnFound
open Go.ChangeShapes Go.WideShapes Go.ChangeAt Go.RowKit
open Go.ChangeMaps (open_string shut_string)
set_option linter.unusedVariables false
set_option linter.unusedSimpArgs false
set_option linter.unusedVariables false

theorem own : ownKnob Try.prog.godebug = none := by kernel_rfl
theorem laidOut : laidOutB Try.prog = true := by kernel_rfl

/-! ### STEP 1: THE WALK: the Go text returns true, AND WRITES NOTHING THAT WAS THERE: 'Below w.heap.size w w'' (Derived/Below.lean: '.refl', '.alloc', '.drew', '.setCell' at a new block, '.trans'). Open each 'IsRow' by 'rcases' AHEAD of 'go_enter'; part every test ahead of the walk. -/
set_option maxRecDepth 20000 in
set_option maxHeartbeats 8000000 in
theorem walk (a0 : Option Addr) (len0 cap0 : Nat) (z0 : List Int) (w : World) (w0 : IsRow .u8 w a0 len0 cap0 z0) :
    Calls Try.prog 6 #[.slice a0 len0 cap0] w fun e w' => e = .returned (.bool true) ∧ Below w.heap.size w w' := by
  have HS : Hid (Src w.heap.size w a0 len0) := src_of_row w0
  clear w0
  by_cases hbig : (1048576 : Int) < (len0 : Int)
  · go_enter Try.func6, Try.ntmps6
    go_wp2_with (go_at_call 9; refine (big_laws _ _ _ _).mono ?_; rintro e w' ⟨rfl, hw⟩; subst w')
    go_ret
    exact ⟨rfl, Below.refl _ _⟩
  have hb20 : len0 ≤ 1048576 := by omega
  go_enter Try.func6, Try.ntmps6
  go_wp2_with (go_at_call 9; refine (big_laws _ _ _ _).mono ?_; rintro e w' ⟨rfl, hw⟩; subst w')
  refine (drawFind_spec HS.out hb20).mono ?_
  rintro r w1 ⟨v1, v2, s, d, t, f, rfl, ha, hc0, ⟨hls, hld, hlt, hlf⟩, hb⟩
  obtain ⟨a1, c1, b1, e1, rfl, _, _, _, _⟩ := ha.arrI
  obtain ⟨a2, c2, b2, e2, rfl, _, _, _, _⟩ := hc0.arrI
  have N_1 : Hid (Arr w.heap.size w1.heap.size w1 (.agg #[.slice a1 s.length c1, .slice b1 d.length e1]) s d) := ha
  have M_1 : Hid (Arr w.heap.size w1.heap.size w1 (.agg #[.slice a2 t.length c2, .slice b2 f.length e2]) t f) := hc0
  have Ls : Hid (s.length ≤ 1048576) := by show _ ≤ _; omega
  have Ld : Hid (d.length ≤ 1048576) := by show _ ≤ _; omega
  have Lt : Hid (t.length ≤ 1048576) := by show _ ≤ _; omega
  have Lf : Hid (f.length ≤ 1048576) := by show _ ≤ _; omega
  have HT1 : Hid (Below w.heap.size w w1) := hb
  have SZ1 : Hid (w.heap.size ≤ w1.heap.size) := hb.size
  clear hb ha hc0 hls hld hlt hlf
  obtain ⟨C, hC⟩ : ∃ y, y = (findR s d t f).1 := ⟨_, rfl⟩
  obtain ⟨S, hS⟩ : ∃ y, y = (findR s d t f).2.1 := ⟨_, rfl⟩
  obtain ⟨D, hD⟩ : ∃ y, y = (findR s d t f).2.2 := ⟨_, rfl⟩
  obtain ⟨C3, hC3⟩ : ∃ y, y = (withinR t f s d).1 := ⟨_, rfl⟩
  obtain ⟨S3, hS3⟩ : ∃ y, y = (withinR t f s d).2.1 := ⟨_, rfl⟩
  obtain ⟨D3, hD3⟩ : ∃ y, y = (withinR t f s d).2.2 := ⟨_, rfl⟩
  have LA : Hid (S.length ≤ 1048576 ∧ D.length ≤ 1048576) := by show _ ∧ _; rw [hS, hD]; exact mkR_len (fun _ => Lt.out) (fun _ => by simp; exact Lf.out)
  have LB : Hid (S3.length ≤ 1048576 ∧ D3.length ≤ 1048576) := by show _ ∧ _; rw [hS3, hD3]; exact mkR_len (fun _ => Lt.out) (fun _ => by simp; exact Lf.out)
  have EI : Hid (∀ (W : World) (u0 : Value) (_ : ArrI W u0 s d) (u1 : Value) (_ : ArrI W u1 t f), Calls Try.prog 24 #[u0, u1] W fun e w' => ∃ v, e = .returned (.tuple #[v, .int .i64 C]) ∧ Arr W.heap.size w'.heap.size w' v S D ∧ Below W.heap.size W w') := by
    intro W u0 h0 u1 h1
    rw [hC, hS, hD]
    exact find_impl h0 h1 Ls.out Ld.out Lt.out Lf.out
  have ES : Hid (∀ (W : World) (u0 : Value) (_ : ArrI W u0 s d) (u1 : Value) (_ : ArrI W u1 t f), Calls Try.prog 25 #[u0, u1] W fun e w' => ∃ v, e = .returned (.tuple #[v, .int .i64 C]) ∧ Arr W.heap.size w'.heap.size w' v S D ∧ Below W.heap.size W w') := by
    intro W u0 h0 u1 h1
    rw [hC, hS, hD]
    exact find_spec h0 h1 Lt.out Ld.out Lf.out
  have E3 : Hid (∀ (W : World) (u0 : Value) (_ : ArrI W u0 t f) (u1 : Value) (_ : ArrI W u1 s d), Calls Try.prog 26 #[u0, u1] W fun e w' => ∃ v, e = .returned (.tuple #[v, .int .i64 C3]) ∧ Arr W.heap.size w'.heap.size w' v S3 D3 ∧ Below W.heap.size W w') := by
    intro W u0 h0 u1 h1
    rw [hC3, hS3, hD3]
    exact within_impl h0 h1 Lt.out Lf.out Ls.out Ld.out
  have FG : Hid (C = 0 → C3 = 0 ∧ S = t ∧ S3 = t ∧ D.length = f.length ∧ D3.length = f.length ∧ ∀ i, i < f.length → ∃ m : Nat, m ≤ d.length ∧ D.getD i 0 = (m : Int) ∧ D3.getD i 0 = (if m < d.length then 1 else 0) ∧ (m < d.length → d.getD m 0 = f.getD i 0) ∧ ∀ j, j < m → d.getD j 0 ≠ f.getD i 0) := by
    intro h
    rw [hC] at h
    rw [hC3, hS, hS3, hD, hD3]
    exact found_good h
  have FB : Hid (C ≠ 0 → D.length = 0) := by
    intro h
    rw [hC] at h
    rw [hD, find_bad h]
    rfl
  have hneC : (C != C) = false := by simp
  clear hC hS hD hC3 hS3 hD3
  go_wp2_with fail
  refine (EI.out _ _ ((N_1.out.arrI).keep (bAlloc (bAlloc (Below.refl _ _) _) _)) _ ((M_1.out.arrI).keep (bAlloc (bAlloc (Below.refl _ _) _) _))).mono ?_
  rintro r w2 ⟨vG, rfl, ha, hb⟩
  obtain ⟨aG, cG, bG, eG, rfl, _, _, _, _⟩ := ha.arrI
  have G_2 : Hid (Arr (w1.heap.size + 2) w2.heap.size w2 (.agg #[.slice aG S.length cG, .slice bG D.length eG]) S D) := ha.mono (by first | exact Nat.le_refl _ | simp | (simp; omega)) (Nat.le_refl _)
  clear ha
  have HB2 : Hid (Below w1.heap.size w1 w2) := bTrans (bAlloc (bAlloc (Below.refl _ _) _) _) hb
  have HT2 : Hid (Below w.heap.size w w2) := bTrans HT1.out HB2.out
  have SZ2 : Hid (w1.heap.size ≤ w2.heap.size) := HB2.out.size
  have N_2 : Hid (Arr w.heap.size w1.heap.size w2 (.agg #[.slice a1 s.length c1, .slice b1 d.length e1]) s d) := N_1.out.keep HB2.out
  have M_2 : Hid (Arr w.heap.size w1.heap.size w2 (.agg #[.slice a2 t.length c2, .slice b2 f.length e2]) t f) := M_1.out.keep HB2.out
  have QN_2 : Hid (Box w2 w1.heap.size (.slice a1 s.length c1) (.slice b1 d.length e1) 26) := ((box_new w1 _ _ _).keep (bAlloc (Below.refl _ _) _)).keep hb
  have LTQN : Hid (w1.heap.size < w2.heap.size) := QN_2.out.lt
  have QM_2 : Hid (Box w2 (w1.heap.size + 1) (.slice a2 t.length c2) (.slice b2 f.length e2) 26) := (box_new2 w1 _ _ _ _).keep hb
  have LTQM : Hid ((w1.heap.size + 1) < w2.heap.size) := QM_2.out.lt
  clear N_1 M_1 hb
  have QNc0 := QN_2.out.c0
  have QNc1 := QN_2.out.c1
  have QNd0 : ∀ o : Obj, (w2.alloc o).cell? ⟨w1.heap.size, 0, none⟩ = some (.slice a1 s.length c1) := fun o => (QN_2.out.keep (bAlloc (Below.refl _ _) o)).c0
  have QNd1 : ∀ o : Obj, (w2.alloc o).cell? ⟨w1.heap.size, 1, none⟩ = some (.slice b1 d.length e1) := fun o => (QN_2.out.keep (bAlloc (Below.refl _ _) o)).c1
  have QMc0 := QM_2.out.c0
  have QMc1 := QM_2.out.c1
  have QMd0 : ∀ o : Obj, (w2.alloc o).cell? ⟨(w1.heap.size + 1), 0, none⟩ = some (.slice a2 t.length c2) := fun o => (QM_2.out.keep (bAlloc (Below.refl _ _) o)).c0
  have QMd1 : ∀ o : Obj, (w2.alloc o).cell? ⟨(w1.heap.size + 1), 1, none⟩ = some (.slice b2 f.length e2) := fun o => (QM_2.out.keep (bAlloc (Below.refl _ _) o)).c1
  go_wp2_with fail
  refine (ES.out _ _ ((N_2.out.arrI).keep (bAlloc (Below.refl _ _) _)) _ ((M_2.out.arrI).keep (bAlloc (Below.refl _ _) _))).mono ?_
  rintro r w3 ⟨vW, rfl, ha, hb⟩
  obtain ⟨aW, cW, bW, eW, rfl, _, _, _, _⟩ := ha.arrI
  have W_3 : Hid (Arr (w2.heap.size + 1) w3.heap.size w3 (.agg #[.slice aW S.length cW, .slice bW D.length eW]) S D) := ha.mono (by first | exact Nat.le_refl _ | simp | (simp; omega)) (Nat.le_refl _)
  clear ha
  have HB3 : Hid (Below w2.heap.size w2 w3) := bTrans (bAlloc (Below.refl _ _) _) hb
  have HT3 : Hid (Below w.heap.size w w3) := bTrans HT2.out HB3.out
  have SZ3 : Hid (w2.heap.size ≤ w3.heap.size) := HB3.out.size
  have QN_3 : Hid (Box w3 w1.heap.size (.slice a1 s.length c1) (.slice b1 d.length e1) 26) := QN_2.out.keep HB3.out
  have QM_3 : Hid (Box w3 (w1.heap.size + 1) (.slice a2 t.length c2) (.slice b2 f.length e2) 26) := QM_2.out.keep HB3.out
  have N_3 : Hid (Arr w.heap.size w1.heap.size w3 (.agg #[.slice a1 s.length c1, .slice b1 d.length e1]) s d) := N_2.out.keep HB3.out
  have M_3 : Hid (Arr w.heap.size w1.heap.size w3 (.agg #[.slice a2 t.length c2, .slice b2 f.length e2]) t f) := M_2.out.keep HB3.out
  have G_3 : Hid (Arr (w1.heap.size + 2) w2.heap.size w3 (.agg #[.slice aG S.length cG, .slice bG D.length eG]) S D) := G_2.out.keep HB3.out
  have QG_3 : Hid (Box w3 w2.heap.size (.slice aG S.length cG) (.slice bG D.length eG) 26) := (box_new w2 _ _ _).keep hb
  have LTQG : Hid (w2.heap.size < w3.heap.size) := QG_3.out.lt
  clear QN_2 QM_2 N_2 M_2 G_2 QNc0 QNc1 QNd0 QNd1 QMc0 QMc1 QMd0 QMd1 hb
  have QNc0 := QN_3.out.c0
  have QNc1 := QN_3.out.c1
  have QNd0 : ∀ o : Obj, (w3.alloc o).cell? ⟨w1.heap.size, 0, none⟩ = some (.slice a1 s.length c1) := fun o => (QN_3.out.keep (bAlloc (Below.refl _ _) o)).c0
  have QNd1 : ∀ o : Obj, (w3.alloc o).cell? ⟨w1.heap.size, 1, none⟩ = some (.slice b1 d.length e1) := fun o => (QN_3.out.keep (bAlloc (Below.refl _ _) o)).c1
  have QMc0 := QM_3.out.c0
  have QMc1 := QM_3.out.c1
  have QMd0 : ∀ o : Obj, (w3.alloc o).cell? ⟨(w1.heap.size + 1), 0, none⟩ = some (.slice a2 t.length c2) := fun o => (QM_3.out.keep (bAlloc (Below.refl _ _) o)).c0
  have QMd1 : ∀ o : Obj, (w3.alloc o).cell? ⟨(w1.heap.size + 1), 1, none⟩ = some (.slice b2 f.length e2) := fun o => (QM_3.out.keep (bAlloc (Below.refl _ _) o)).c1
  have QGc0 := QG_3.out.c0
  have QGc1 := QG_3.out.c1
  have QGd0 : ∀ o : Obj, (w3.alloc o).cell? ⟨w2.heap.size, 0, none⟩ = some (.slice aG S.length cG) := fun o => (QG_3.out.keep (bAlloc (Below.refl _ _) o)).c0
  have QGd1 : ∀ o : Obj, (w3.alloc o).cell? ⟨w2.heap.size, 1, none⟩ = some (.slice bG D.length eG) := fun o => (QG_3.out.keep (bAlloc (Below.refl _ _) o)).c1
  by_cases hc : C = 0
  · obtain ⟨x3, hSS, hS3, hDL, hDL3, hA⟩ := FG.out hc
    subst hc x3
    have HSS : Hid (S = t) := hSS
    have HS3 : Hid (S3 = t) := hS3
    have HDL : Hid (D.length = f.length) := hDL
    have HDL3 : Hid (D3.length = f.length) := hDL3
    have HA : Hid (∀ i, i < f.length → ∃ m : Nat, m ≤ d.length ∧ D.getD i 0 = (m : Int) ∧ D3.getD i 0 = (if m < d.length then 1 else 0) ∧ (m < d.length → d.getD m 0 = f.getD i 0) ∧ ∀ j, j < m → d.getD j 0 ≠ f.getD i 0) := hA
    clear hSS hS3 hDL hDL3 hA FG FB
    go_wp2_with fail
    refine (E3.out _ _ ((M_3.out.arrI).keep (bAlloc (Below.refl _ _) _)) _ ((N_3.out.arrI).keep (bAlloc (Below.refl _ _) _))).mono ?_
    rintro r w4 ⟨vV, rfl, ha, hb⟩
    obtain ⟨aV, cV, bV, eV, rfl, _, _, _, _⟩ := ha.arrI
    have V_4 : Hid (Arr (w3.heap.size + 1) w4.heap.size w4 (.agg #[.slice aV S3.length cV, .slice bV D3.length eV]) S3 D3) := ha.mono (by first | exact Nat.le_refl _ | simp | (simp; omega)) (Nat.le_refl _)
    clear ha
    have HB4 : Hid (Below w3.heap.size w3 w4) := bTrans (bAlloc (Below.refl _ _) _) hb
    have HT4 : Hid (Below w.heap.size w w4) := bTrans HT3.out HB4.out
    have SZ4 : Hid (w3.heap.size ≤ w4.heap.size) := HB4.out.size
    have QN_4 : Hid (Box w4 w1.heap.size (.slice a1 s.length c1) (.slice b1 d.length e1) 26) := QN_3.out.keep HB4.out
    have QM_4 : Hid (Box w4 (w1.heap.size + 1) (.slice a2 t.length c2) (.slice b2 f.length e2) 26) := QM_3.out.keep HB4.out
    have QG_4 : Hid (Box w4 w2.heap.size (.slice aG S.length cG) (.slice bG D.length eG) 26) := QG_3.out.keep HB4.out
    have N_4 : Hid (Arr w.heap.size w1.heap.size w4 (.agg #[.slice a1 s.length c1, .slice b1 d.length e1]) s d) := N_3.out.keep HB4.out
    have M_4 : Hid (Arr w.heap.size w1.heap.size w4 (.agg #[.slice a2 t.length c2, .slice b2 f.length e2]) t f) := M_3.out.keep HB4.out
    have G_4 : Hid (Arr (w1.heap.size + 2) w2.heap.size w4 (.agg #[.slice aG S.length cG, .slice bG D.length eG]) S D) := G_3.out.keep HB4.out
    have QW_4 : Hid (Box w4 w3.heap.size (.slice aW S.length cW) (.slice bW D.length eW) 26) := (box_new w3 _ _ _).keep hb
    have LTQW : Hid (w3.heap.size < w4.heap.size) := QW_4.out.lt
    clear QN_3 QM_3 QG_3 N_3 M_3 G_3 QNc0 QNc1 QNd0 QNd1 QMc0 QMc1 QMd0 QMd1 QGc0 QGc1 QGd0 QGd1 hb
    have QNc0 := QN_4.out.c0
    have QNc1 := QN_4.out.c1
    have QNd0 : ∀ o : Obj, (w4.alloc o).cell? ⟨w1.heap.size, 0, none⟩ = some (.slice a1 s.length c1) := fun o => (QN_4.out.keep (bAlloc (Below.refl _ _) o)).c0
    have QNd1 : ∀ o : Obj, (w4.alloc o).cell? ⟨w1.heap.size, 1, none⟩ = some (.slice b1 d.length e1) := fun o => (QN_4.out.keep (bAlloc (Below.refl _ _) o)).c1
    have QMc0 := QM_4.out.c0
    have QMc1 := QM_4.out.c1
    have QMd0 : ∀ o : Obj, (w4.alloc o).cell? ⟨(w1.heap.size + 1), 0, none⟩ = some (.slice a2 t.length c2) := fun o => (QM_4.out.keep (bAlloc (Below.refl _ _) o)).c0
    have QMd1 : ∀ o : Obj, (w4.alloc o).cell? ⟨(w1.heap.size + 1), 1, none⟩ = some (.slice b2 f.length e2) := fun o => (QM_4.out.keep (bAlloc (Below.refl _ _) o)).c1
    have QGc0 := QG_4.out.c0
    have QGc1 := QG_4.out.c1
    have QGd0 : ∀ o : Obj, (w4.alloc o).cell? ⟨w2.heap.size, 0, none⟩ = some (.slice aG S.length cG) := fun o => (QG_4.out.keep (bAlloc (Below.refl _ _) o)).c0
    have QGd1 : ∀ o : Obj, (w4.alloc o).cell? ⟨w2.heap.size, 1, none⟩ = some (.slice bG D.length eG) := fun o => (QG_4.out.keep (bAlloc (Below.refl _ _) o)).c1
    have QWc0 := QW_4.out.c0
    have QWc1 := QW_4.out.c1
    have QWd0 : ∀ o : Obj, (w4.alloc o).cell? ⟨w3.heap.size, 0, none⟩ = some (.slice aW S.length cW) := fun o => (QW_4.out.keep (bAlloc (Below.refl _ _) o)).c0
    have QWd1 : ∀ o : Obj, (w4.alloc o).cell? ⟨w3.heap.size, 1, none⟩ = some (.slice bW D.length eW) := fun o => (QW_4.out.keep (bAlloc (Below.refl _ _) o)).c1
    go_wp2_with fail
    generalize hW : w4.alloc (.cells #[.slice aV S3.length cV, .slice bV D3.length eV] 26) = WL
    have BL : Hid (Below w4.heap.size w4 WL) := by rw [← hW]; exact bAlloc (Below.refl _ _) _
    have QV : Hid (Box WL w4.heap.size (.slice aV S3.length cV) (.slice bV D3.length eV) 26) := by rw [← hW]; exact box_new w4 _ _ _
    have QA0 : Hid (Box WL w1.heap.size (.slice a1 s.length c1) (.slice b1 d.length e1) 26) := QN_4.out.keep BL.out
    have QM0 : Hid (Box WL ((w1.heap.size + 1)) (.slice a2 t.length c2) (.slice b2 f.length e2) 26) := QM_4.out.keep BL.out
    have QB0 : Hid (Box WL w2.heap.size (.slice aG S.length cG) (.slice bG D.length eG) 26) := QG_4.out.keep BL.out
    have NA0 : Hid (ArrI WL (.agg #[.slice a1 s.length c1, .slice b1 d.length e1]) s d) := N_4.out.arrI.keep BL.out
    have NM0 : Hid (ArrI WL (.agg #[.slice a2 t.length c2, .slice b2 f.length e2]) t f) := M_4.out.arrI.keep BL.out
    have NB0 : Hid (ArrI WL (.agg #[.slice aG S.length cG, .slice bG D.length eG]) S D) := G_4.out.arrI.keep BL.out
    have NV0 : Hid (ArrI WL (.agg #[.slice aV S3.length cV, .slice bV D3.length eV]) S3 D3) := V_4.out.arrI.keep BL.out
    have HTL : Hid (Below w.heap.size w WL) := bTrans HT4.out BL.out
    clear hW
    clear QNc0 QNc1 QNd0 QNd1 QMc0 QMc1 QMd0 QMd1 QGc0 QGc1 QGd0 QGd1 QWc0 QWc1 QWd0 QWd1
    have y0 := QM0.out.c0
    have y1 := QB0.out.c0
    have y2 := QV.out.c0
    have SI : Hid (∀ W, Below WL.heap.size WL W → Calls Try.prog 21 #[.slice aV S3.length cV, .slice a2 t.length c2] W fun e w' => e = .returned (.bool true) ∧ Below W.heap.size W w') := fun W h => by
      obtain ⟨_, _, _, _, ev, i1, _, _, _⟩ := NV0.out
      cases ev
      obtain ⟨_, _, _, _, ev, i2, _, _, _⟩ := NM0.out
      cases ev
      refine (same_ints cV c2 (by have := LB.out.1; omega) (i1.keep h) (i2.keep h)).mono ?_
      rintro r w' ⟨rfl, n, rfl⟩
      exact ⟨by simp [HS3.out], bDrewN (Below.refl _ _) n⟩
    have SJ : Hid (∀ W, Below WL.heap.size WL W → Calls Try.prog 21 #[.slice aG S.length cG, .slice a2 t.length c2] W fun e w' => e = .returned (.bool true) ∧ Below W.heap.size W w') := fun W h => by
      obtain ⟨_, _, _, _, ev, i1, _, _, _⟩ := NB0.out
      cases ev
      obtain ⟨_, _, _, _, ev, i2, _, _, _⟩ := NM0.out
      cases ev
      refine (same_ints cG c2 (by have := LA.out.1; omega) (i1.keep h) (i2.keep h)).mono ?_
      rintro r w' ⟨rfl, n, rfl⟩
      exact ⟨by simp [HSS.out], bDrewN (Below.refl _ _) n⟩
    go_wp2_with fail
    refine (SI.out _ (Below.refl _ _)).mono ?_
    rintro r wy ⟨rfl, hb⟩
    have BY : Hid (Below WL.heap.size WL wy) := hb
    have z0 := (QM0.out.keep hb).c0
    have z1 := (QB0.out.keep hb).c0
    have z2 := (QV.out.keep hb).c0
    clear y0 y1 y2 hb
    go_wp2_with fail
    refine (SJ.out _ BY.out).mono ?_
    rintro r wz ⟨rfl, hb⟩
    have BZ : Hid (Below WL.heap.size WL wz) := bTrans BY.out hb
    clear z0 z1 z2 hb SI SJ BY
    go_wp2
    go_loopw [11] (fun i w' => ∃ k : Nat, k ≤ f.length ∧ i = .int .i64 (k : Int) ∧ Below WL.heap.size WL w') (fun i _ => f.length - (intOf i).toNat)
    case atStart => exact ⟨0, by omega, rfl, BZ.out⟩
    case round =>
      obtain ⟨k, hk, rfl, hB⟩ := hrel
      have HC : Hid (Below WL.heap.size WL wr) := hB
      have QA : Hid (Box wr w1.heap.size (.slice a1 s.length c1) (.slice b1 d.length e1) 26) := QA0.out.keep hB
      have QM : Hid (Box wr ((w1.heap.size + 1)) (.slice a2 t.length c2) (.slice b2 f.length e2) 26) := QM0.out.keep hB
      have QB : Hid (Box wr w2.heap.size (.slice aG S.length cG) (.slice bG D.length eG) 26) := QB0.out.keep hB
      have QC : Hid (Box wr w4.heap.size (.slice aV S3.length cV) (.slice bV D3.length eV) 26) := QV.out.keep hB
      have NA : Hid (ArrI wr (.agg #[.slice a1 s.length c1, .slice b1 d.length e1]) s d) := NA0.out.keep hB
      have NM : Hid (ArrI wr (.agg #[.slice a2 t.length c2, .slice b2 f.length e2]) t f) := NM0.out.keep hB
      have NB : Hid (ArrI wr (.agg #[.slice aG S.length cG, .slice bG D.length eG]) S D) := NB0.out.keep hB
      have NV : Hid (ArrI wr (.agg #[.slice aV S3.length cV, .slice bV D3.length eV]) S3 D3) := NV0.out.keep hB
      clear hB
      have q1 := QA.out.c1
      have q3 := QB.out.c1
      have q5 := QC.out.c1
      have q7 := QM.out.c1
      by_cases hlt : (k : Int) < (f.length : Int)
      · have L : k < f.length := by omega
        have hkb : k ≤ 1048576 := by have := Lf.out; omega
        have hltD : (k : Int) < (D.length : Int) := by have := HDL.out; omega
        have hltV : (k : Int) < (D3.length : Int) := by have := HDL3.out; omega
        obtain ⟨m, m1, m2, m3, m4, m5⟩ := HA.out k L
        have hmb : m ≤ 1048576 := by have := Ld.out; omega
        obtain ⟨_, _, _, _, ev, _, i1, _, _⟩ := NA.out
        cases ev
        obtain ⟨_, _, _, _, ev, _, i2, _, _⟩ := NM.out
        cases ev
        obtain ⟨_, _, _, _, ev, _, i3, _, _⟩ := NB.out
        cases ev
        obtain ⟨_, _, _, _, ev, _, i4, _, _⟩ := NV.out
        cases ev
        obtain ⟨p2, o2, rfl, hp2, t2⟩ := i2.at L
        obtain ⟨p3, o3, rfl, hp3, t3⟩ := i3.at (k := k) (by have := HDL.out; omega)
        obtain ⟨p4, o4, rfl, hp4, t4⟩ := i4.at (k := k) (by have := HDL3.out; omega)
        rw [m2] at t3
        rw [m3] at t4
        generalize hu : f.getD k 0 = u at *
        have HU : Hid (f.getD k 0 = u) := hu
        have huu : (u != u) = false := by simp
        have I1 : Hid (Ints wr b1 d) := i1
        have M5 : Hid (∀ j, j < m → d.getD j 0 ≠ u) := m5
        by_cases hmd : (m : Int) < (d.length : Int)
        · have hm' : m < d.length := by omega
          have m4' := m4 hm'
          rw [if_pos hm'] at t4
          obtain ⟨p1, o1, rfl, hp1, t1⟩ := i1.at hm'
          rw [m4'] at t1
          have hdm : decide (m < d.length) = true := by simpa using hm'
          have hdm2 : decide ((m : Int) < (d.length : Int)) = true := by simpa using hm'
          clear m2 m3 m4 m4' i1 i2 i3 i4 hu
          go_wp2_with fail
          go_quiet (fail)
          go_wp2
          clear q1 q3 q5 q7 t2 t3 t4
          go_loopw [13] (fun j w' => ∃ n : Nat, n ≤ m ∧ j = .int .i64 (n : Int) ∧ Below WL.heap.size WL w') (fun j _ => m - (intOf j).toNat)
          case atStart => exact ⟨0, by omega, rfl, bDrewN HC.out _⟩
          case round =>
            obtain ⟨n, hn, rfl, hB⟩ := hrel
            have HE : Hid (Below WL.heap.size WL wr) := hB
            have j1 := (QA0.out.keep hB).c1
            have j7 := (QM0.out.keep hB).c1
            by_cases hln : (n : Int) < (m : Int)
            · obtain ⟨_, _, _, _, ev, _, i1, _, _⟩ := NA0.out.keep hB
              cases ev
              obtain ⟨_, _, _, _, ev, _, i2, _, _⟩ := NM0.out.keep hB
              cases ev
              obtain ⟨r1, u1, e1', hr1, s1⟩ := i1.at (k := n) (by omega)
              obtain ⟨r2, u2, e2', hr2, s2⟩ := i2.at L
              cases e1'
              cases e2'
              have hne : (d.getD n 0 == u) = false := by have := M5.out n (by omega); simpa using this
              have hnd : (n : Int) < (d.length : Int) := by omega
              rw [HU.out] at s2
              generalize d.getD n 0 = x at *
              clear i1 i2 hB
              go_wp2_with fail
              go_quiet (fail)
              go_wp2
              go_roundw
              case rel => exact ⟨n + 1, by omega, by go_num, bDrewN HE.out _⟩
              case measure => simp [intOf]; omega
            · clear hB
              go_wp2
              go_roundw
              case rel => exact ⟨k + 1, by omega, by go_num, HE.out⟩
              case measure => simp [intOf]; omega
        · have hm' : ¬ m < d.length := by omega
          rw [if_neg hm'] at t4
          have hdm : decide (m < d.length) = false := by simpa using hm'
          have hdm2 : decide ((m : Int) < (d.length : Int)) = false := by simpa using hm'
          clear m2 m3 m4 i1 i2 i3 i4 hu
          go_wp2_with fail
          go_quiet (fail)
          go_wp2
          clear q1 q3 q5 q7 t2 t3 t4
          go_loopw [13] (fun j w' => ∃ n : Nat, n ≤ m ∧ j = .int .i64 (n : Int) ∧ Below WL.heap.size WL w') (fun j _ => m - (intOf j).toNat)
          case atStart => exact ⟨0, by omega, rfl, bDrewN HC.out _⟩
          case round =>
            obtain ⟨n, hn, rfl, hB⟩ := hrel
            have HE : Hid (Below WL.heap.size WL wr) := hB
            have j1 := (QA0.out.keep hB).c1
            have j7 := (QM0.out.keep hB).c1
            by_cases hln : (n : Int) < (m : Int)
            · obtain ⟨_, _, _, _, ev, _, i1, _, _⟩ := NA0.out.keep hB
              cases ev
              obtain ⟨_, _, _, _, ev, _, i2, _, _⟩ := NM0.out.keep hB
              cases ev
              obtain ⟨r1, u1, e1', hr1, s1⟩ := i1.at (k := n) (by omega)
              obtain ⟨r2, u2, e2', hr2, s2⟩ := i2.at L
              cases e1'
              cases e2'
              have hne : (d.getD n 0 == u) = false := by have := M5.out n (by omega); simpa using this
              have hnd : (n : Int) < (d.length : Int) := by omega
              rw [HU.out] at s2
              generalize d.getD n 0 = x at *
              clear i1 i2 hB
              go_wp2_with fail
              go_quiet (fail)
              go_wp2
              go_roundw
              case rel => exact ⟨n + 1, by omega, by go_num, bDrewN HE.out _⟩
              case measure => simp [intOf]; omega
            · clear hB
              go_wp2
              go_roundw
              case rel => exact ⟨k + 1, by omega, by go_num, HE.out⟩
              case measure => simp [intOf]; omega
      · go_wp2
        go_ret
        exact ⟨rfl, bTrans HTL.out HC.out⟩
  · have n0 : (C != 0) = true := by simpa using hc
    have hl : ((D.length : Int) == 0) = true := by rw [FB.out hc]; rfl
    have hl2 : D.length = 0 := FB.out hc
    clear FG FB
    go_wp2
    go_ret
    exact ⟨rfl, bTrans HT3.out (bAlloc (Below.refl _ _) _)⟩

/-! ### THE ROW's STEP: WRITTEN OUT: LEAVE IT -/
set_option maxRecDepth 100000 in
theorem lifted (os : Os) (started : os.Started) (H : Type) (enc : TypeId × Value → H) :
    ReturnsInHanded {} Try.checked os 6 .any (Rows.fnFoundSpec.pre6 enc Try.prog Try.f6 Rows.fnFoundRow.domain false) (Rows.fnFoundSpec.post enc Try.prog Try.f6 false true false false) := by
  refine returnsInHanded_of_change (C := Try.checked) own started (by kernel_rfl) Try.func6
    (ChangeSpec.witness6 (enc := enc) (C := Try.checked) false ⟨#[], #[.slice none 0 0], []⟩ 8 (by kernel_rfl) (by kernel_rfl) (by kernel_rfl) (by kernel_rfl)) ?_
  intro W base args ds gs before hval0 hW hcnd _
  have hval : ∀ (j : Nat) t v, Try.f6.params[j]? = some t → args[j]? = some v → Value.okWide Try.prog W .any base t v := hval0
  have hW' := hW
  obtain ⟨p, q, hA0, hV, rfl, hfz, hnd⟩ := hW
  have hA : DataW.TrodAll enc Try.prog W 0 (fun _ => true) true Try.f6.params.toList args.toList ds p := hA0
  rw [Try.params6] at hA hval
  obtain ⟨v0, vs0, d0, ds0, p0, q0, hargs, rfl, rfl, h0, r0⟩ := trodAll_cons hA
  obtain ⟨rfl, rfl, rfl⟩ := trodAll_nil r0
  obtain rfl : args = #[v0] := by cases args; simp_all
  obtain ⟨rfl, rfl⟩ := trodVars_none hV
  obtain ⟨a0, len0, cap0, rfl⟩ := okWide_slice Try.underlying22 (hval 0 22 v0 rfl rfl)
  have k0 := h0
  have lt0 : ∀ x ∈ p0, x.block < W.heap.size := by obtain ⟨m, hm⟩ := k0; exact DataW.trod_lt m _ _ _ hm
  obtain ⟨z0, w0⟩ : ∃ zs, IsRow .u8 W a0 len0 cap0 zs := by
    obtain ⟨fuel, hf⟩ := h0
    rcases open_ints Try.underlying22 Try.underlying5 (by kernel_rfl) hf with ⟨hcs, _⟩ | ⟨x, l, c, zs, hcs, _, hl, hm, hz, _, hcell, hwz⟩
    · simp [Value.cells] at hcs
      obtain ⟨rfl, rfl, rfl⟩ := hcs
      exact ⟨[], .inl ⟨rfl, rfl, rfl, rfl⟩⟩
    · simp [Value.cells] at hcs
      obtain ⟨rfl, rfl, rfl⟩ := hcs
      exact ⟨zs, .inr ⟨_, rfl, hl, hm, by simpa using hz, hcell, hwz⟩⟩
  clear hA0 hval0
  refine (walk a0 len0 cap0 z0 W w0).mono fun e W' ⟨he, bel⟩ => ?_
  subst he
  exact ⟨_, rfl, _, _, _, [], _, [], hW', trodAll_mk1 (shut_bool Try.underlying4 _), (trodAll_cons_mk (Below.trod laidOut (by kernel_rfl) (of_decide_eq_true (by kernel_rfl)) k0 bel lt0) trodAll_mk0), rfl, bel.frame _, fun h => by cases h⟩

theorem over : Rows.fnFoundRow.holds Try.pinned (OpenSpec.ofChange Rows.fnFoundSpec) :=
  OpenClaim.holds_of_wide 6 Try.f6 rfl rfl rfl rfl rfl rfl rfl ⟨rfl, rfl, rfl, rfl, rfl⟩ rfl rfl rfl rfl rfl (by kernel_rfl) Try.func6 (by kernel_rfl)
    (of_decide_eq_true (by kernel_rfl)) (by unfold Func.isWrapper; first | (rw [if_pos (by decide +kernel)]; kernel_rfl) | (rw [if_neg (by decide +kernel)]; exact ⟨rfl, rfl⟩))
    (fun os started H enc _ => lifted os started H enc)

/-- ████ THE STATEMENT ████ -/
theorem proved : Rows.FnFoundSaid := over
end Go.Proofs.Ythjjjnapcbkhjaa.fnFound
namespace Go.Proofs.Ythjjjnapcbkhjaa
theorem fnFound_holds : Rows.FnFoundSaid := fnFound.proved
#print axioms fnFound_holds
end Go.Proofs.Ythjjjnapcbkhjaa
