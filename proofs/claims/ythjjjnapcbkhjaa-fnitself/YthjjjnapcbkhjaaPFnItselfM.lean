/-
  Proved: whatever code it is given, the law FnItself returns true (all numbers of a drawn array lie within itself, and each is found in its own row at or ahead of its place). No condition.
-/
import Derived.Test.YthjjjnapcbkhjaaRows
import Derived.WalkKit
import Derived.ProofKit
import Derived.OpenShut
import Derived.ShutString
import Derived.ChangeOld
import Derived.Below
import Derived.Test.YthjjjnapcbkhjaaFoundFM
import Derived.Test.YthjjjnapcbkhjaaDrawTwoAM
import Derived.Test.YthjjjnapcbkhjaaSpecLook3M
import Derived.Test.YthjjjnapcbkhjaaImplWithinM
import Derived.Test.YthjjjnapcbkhjaaImplFindM
import Derived.Test.YthjjjnapcbkhjaaImplMake1M
import Derived.Test.YthjjjnapcbkhjaaLaw3M
namespace Go.Proofs.Ythjjjnapcbkhjaa.fnItself
open Go.ChangeShapes Go.WideShapes Go.ChangeAt Go.RowKit
open Go.ChangeMaps (open_string shut_string)
set_option linter.unusedVariables false
set_option linter.unusedSimpArgs false
set_option linter.unusedVariables false

theorem own : ownKnob Try.prog.godebug = none := by kernel_rfl
theorem laidOut : laidOutB Try.prog = true := by kernel_rfl

/-! ### STEP 1: THE WALK: the Go text returns true, AND WRITES NOTHING THAT WAS THERE: 'Below w.heap.size w w'' (Derived/Below.lean: '.refl', '.alloc', '.drew', '.setCell' at a new block, '.trans'). Open each 'IsRow' by 'rcases' AHEAD of 'go_enter'; part every test ahead of the walk. -/
set_option maxRecDepth 20000 in
set_option maxHeartbeats 8000000 in
theorem walk (a0 : Option Addr) (len0 cap0 : Nat) (z0 : List Int) (w : World) (w0 : IsRow .u8 w a0 len0 cap0 z0) :
    Calls Try.prog 8 #[.slice a0 len0 cap0] w fun e w' => e = .returned (.bool true) ∧ Below w.heap.size w w' := by
  have HS : Hid (Src w.heap.size w a0 len0) := src_of_row w0
  clear w0
  by_cases hbig : (1048576 : Int) < (len0 : Int)
  · go_enter Try.func8, Try.ntmps8
    go_wp2_with (go_at_call 9; refine (big_laws _ _ _ _).mono ?_; rintro e w' ⟨rfl, hw⟩; subst w')
    go_ret
    exact ⟨rfl, Below.refl _ _⟩
  have hb20 : len0 ≤ 1048576 := by omega
  go_enter Try.func8, Try.ntmps8
  go_wp2_with (go_at_call 9; refine (big_laws _ _ _ _).mono ?_; rintro e w' ⟨rfl, hw⟩; subst w')
  refine (drawWithin_spec HS.out hb20).mono ?_
  rintro r w1 ⟨v1, v2, s, d, t, f, rfl, ha, hc0, ⟨hls, hld, hlt, hlf⟩, hb⟩
  obtain ⟨a1, c1, b1, e1, rfl, _, _, _, _⟩ := ha.arrI
  obtain ⟨a2, c2, b2, e2, rfl, _, _, _, _⟩ := hc0.arrI
  have N_1 : Hid (Arr w.heap.size w1.heap.size w1 (.agg #[.slice a1 s.length c1, .slice b1 d.length e1]) s d) := ha
  have M_1 : Hid (Arr w.heap.size w1.heap.size w1 (.agg #[.slice a2 t.length c2, .slice b2 f.length e2]) t f) := hc0
  have Ls : Hid (s.length ≤ 1048576) := by show _ ≤ _; omega
  have Ld : Hid (d.length ≤ 1048576) := by show _ ≤ _; omega
  have Lt : Hid (t.length ≤ 1048576) := by show _ ≤ _; omega
  have Lf : Hid (f.length ≤ 1048576) := by show _ ≤ _; omega
  have HT1 : Hid (Below w.heap.size w w1) := hb
  have SZ1 : Hid (w.heap.size ≤ w1.heap.size) := hb.size
  clear hb ha hc0 hls hld hlt hlf
  obtain ⟨C, hC⟩ : ∃ y, y = (withinR s d s d).1 := ⟨_, rfl⟩
  obtain ⟨S, hS⟩ : ∃ y, y = (withinR s d s d).2.1 := ⟨_, rfl⟩
  obtain ⟨D, hD⟩ : ∃ y, y = (withinR s d s d).2.2 := ⟨_, rfl⟩
  obtain ⟨C3, hC3⟩ : ∃ y, y = (ravelR s d).1 := ⟨_, rfl⟩
  obtain ⟨S3, hS3⟩ : ∃ y, y = (ravelR s d).2.1 := ⟨_, rfl⟩
  obtain ⟨D3, hD3⟩ : ∃ y, y = (ravelR s d).2.2 := ⟨_, rfl⟩
  obtain ⟨C4, hC4⟩ : ∃ y, y = (findR S3 D3 S3 D3).1 := ⟨_, rfl⟩
  obtain ⟨S4, hS4⟩ : ∃ y, y = (findR S3 D3 S3 D3).2.1 := ⟨_, rfl⟩
  obtain ⟨D4, hD4⟩ : ∃ y, y = (findR S3 D3 S3 D3).2.2 := ⟨_, rfl⟩
  have LA : Hid (S.length ≤ 1048576 ∧ D.length ≤ 1048576) := by show _ ∧ _; rw [hS, hD]; exact mkR_len (fun _ => Ls.out) (fun _ => by simp; exact Ld.out)
  have LB : Hid (S3.length ≤ 1048576 ∧ D3.length ≤ 1048576) := by show _ ∧ _; rw [hS3, hD3]; exact mkR_len (fun _ => by simp) (fun _ => Ld.out)
  have EI : Hid (∀ (W : World) (u0 : Value) (_ : ArrI W u0 s d) (u1 : Value) (_ : ArrI W u1 s d), Calls Try.prog 26 #[u0, u1] W fun e w' => ∃ v, e = .returned (.tuple #[v, .int .i64 C]) ∧ Arr W.heap.size w'.heap.size w' v S D ∧ Below W.heap.size W w') := by
    intro W u0 h0 u1 h1
    rw [hC, hS, hD]
    exact within_impl h0 h1 Ls.out Ld.out Ls.out Ld.out
  have ES : Hid (∀ (W : World) (u0 : Value) (_ : ArrI W u0 s d) (u1 : Value) (_ : ArrI W u1 s d), Calls Try.prog 33 #[u0, u1] W fun e w' => ∃ v, e = .returned (.tuple #[v, .int .i64 C]) ∧ Arr W.heap.size w'.heap.size w' v S D ∧ Below W.heap.size W w') := by
    intro W u0 h0 u1 h1
    rw [hC, hS, hD]
    exact within_spec h0 h1 Ls.out Ld.out Ld.out
  have E3 : Hid (∀ (W : World) (u0 : Value) (_ : ArrI W u0 s d), Calls Try.prog 34 #[u0] W fun e w' => ∃ v, e = .returned (.tuple #[v, .int .i64 C3]) ∧ Arr W.heap.size w'.heap.size w' v S3 D3 ∧ Below W.heap.size W w') := by
    intro W u0 h0
    rw [hC3, hS3, hD3]
    exact ravel_impl h0 Ls.out Ld.out
  have E4 : Hid (∀ (W : World) (u0 : Value) (_ : ArrI W u0 S3 D3) (u1 : Value) (_ : ArrI W u1 S3 D3), Calls Try.prog 24 #[u0, u1] W fun e w' => ∃ v, e = .returned (.tuple #[v, .int .i64 C4]) ∧ Arr W.heap.size w'.heap.size w' v S4 D4 ∧ Below W.heap.size W w') := by
    intro W u0 h0 u1 h1
    rw [hC4, hS4, hD4]
    exact find_impl h0 h1 LB.out.1 LB.out.2 LB.out.1 LB.out.2
  have FG : Hid (C = 0 → C4 = 0 ∧ S = s ∧ D.length = d.length ∧ D4.length = d.length ∧ ∀ i, i < d.length → D.getD i 0 = 1 ∧ ∃ m : Nat, m ≤ i ∧ D4.getD i 0 = (m : Int) ∧ d.getD m 0 = d.getD i 0) := by
    intro h
    rw [hC] at h
    obtain ⟨q1, q2, q3, q4, q5, q6⟩ := itself_good h
    rw [q1] at hS3 hD3
    dsimp only at hS3 hD3
    rw [hS3, hD3] at hC4 hD4
    rw [hC4, hS, hD, hD4]
    exact ⟨q2, q3, q4, q5, q6⟩
  have FB : Hid (C ≠ 0 → D.length = 0) := by
    intro h
    rw [hC] at h
    rw [hD, within_bad h]
    rfl
  have hneC : (C != C) = false := by simp
  clear hC hS hD hC3 hS3 hD3 hC4 hS4 hD4
  go_wp2_with fail
  refine (EI.out _ _ ((N_1.out.arrI).keep (bAlloc (bAlloc (Below.refl _ _) _) _)) _ ((N_1.out.arrI).keep (bAlloc (bAlloc (Below.refl _ _) _) _))).mono ?_
  rintro r w2 ⟨vG, rfl, ha, hb⟩
  obtain ⟨aG, cG, bG, eG, rfl, _, _, _, _⟩ := ha.arrI
  have G_2 : Hid (Arr (w1.heap.size + 2) w2.heap.size w2 (.agg #[.slice aG S.length cG, .slice bG D.length eG]) S D) := ha.mono (by first | exact Nat.le_refl _ | simp | (simp; omega)) (Nat.le_refl _)
  clear ha
  have HB2 : Hid (Below w1.heap.size w1 w2) := bTrans (bAlloc (bAlloc (Below.refl _ _) _) _) hb
  have HT2 : Hid (Below w.heap.size w w2) := bTrans HT1.out HB2.out
  have SZ2 : Hid (w1.heap.size ≤ w2.heap.size) := HB2.out.size
  have N_2 : Hid (Arr w.heap.size w1.heap.size w2 (.agg #[.slice a1 s.length c1, .slice b1 d.length e1]) s d) := N_1.out.keep HB2.out
  have QN_2 : Hid (Box w2 w1.heap.size (.slice a1 s.length c1) (.slice b1 d.length e1) 26) := ((box_new w1 _ _ _).keep (bAlloc (Below.refl _ _) _)).keep hb
  have LTQN : Hid (w1.heap.size < w2.heap.size) := QN_2.out.lt
  have QM_2 : Hid (Box w2 (w1.heap.size + 1) (.slice a2 t.length c2) (.slice b2 f.length e2) 26) := (box_new2 w1 _ _ _ _).keep hb
  have LTQM : Hid ((w1.heap.size + 1) < w2.heap.size) := QM_2.out.lt
  clear N_1 hb
  have QNc0 := QN_2.out.c0
  have QNc1 := QN_2.out.c1
  have QNd0 : ∀ o : Obj, (w2.alloc o).cell? ⟨w1.heap.size, 0, none⟩ = some (.slice a1 s.length c1) := fun o => (QN_2.out.keep (bAlloc (Below.refl _ _) o)).c0
  have QNd1 : ∀ o : Obj, (w2.alloc o).cell? ⟨w1.heap.size, 1, none⟩ = some (.slice b1 d.length e1) := fun o => (QN_2.out.keep (bAlloc (Below.refl _ _) o)).c1
  have QMc0 := QM_2.out.c0
  have QMc1 := QM_2.out.c1
  have QMd0 : ∀ o : Obj, (w2.alloc o).cell? ⟨(w1.heap.size + 1), 0, none⟩ = some (.slice a2 t.length c2) := fun o => (QM_2.out.keep (bAlloc (Below.refl _ _) o)).c0
  have QMd1 : ∀ o : Obj, (w2.alloc o).cell? ⟨(w1.heap.size + 1), 1, none⟩ = some (.slice b2 f.length e2) := fun o => (QM_2.out.keep (bAlloc (Below.refl _ _) o)).c1
  go_wp2_with fail
  refine (ES.out _ _ ((N_2.out.arrI).keep (bAlloc (Below.refl _ _) _)) _ ((N_2.out.arrI).keep (bAlloc (Below.refl _ _) _))).mono ?_
  rintro r w3 ⟨vW, rfl, ha, hb⟩
  obtain ⟨aW, cW, bW, eW, rfl, _, _, _, _⟩ := ha.arrI
  have W_3 : Hid (Arr (w2.heap.size + 1) w3.heap.size w3 (.agg #[.slice aW S.length cW, .slice bW D.length eW]) S D) := ha.mono (by first | exact Nat.le_refl _ | simp | (simp; omega)) (Nat.le_refl _)
  clear ha
  have HB3 : Hid (Below w2.heap.size w2 w3) := bTrans (bAlloc (Below.refl _ _) _) hb
  have HT3 : Hid (Below w.heap.size w w3) := bTrans HT2.out HB3.out
  have SZ3 : Hid (w2.heap.size ≤ w3.heap.size) := HB3.out.size
  have QN_3 : Hid (Box w3 w1.heap.size (.slice a1 s.length c1) (.slice b1 d.length e1) 26) := QN_2.out.keep HB3.out
  have QM_3 : Hid (Box w3 (w1.heap.size + 1) (.slice a2 t.length c2) (.slice b2 f.length e2) 26) := QM_2.out.keep HB3.out
  have N_3 : Hid (Arr w.heap.size w1.heap.size w3 (.agg #[.slice a1 s.length c1, .slice b1 d.length e1]) s d) := N_2.out.keep HB3.out
  have G_3 : Hid (Arr (w1.heap.size + 2) w2.heap.size w3 (.agg #[.slice aG S.length cG, .slice bG D.length eG]) S D) := G_2.out.keep HB3.out
  have QG_3 : Hid (Box w3 w2.heap.size (.slice aG S.length cG) (.slice bG D.length eG) 26) := (box_new w2 _ _ _).keep hb
  have LTQG : Hid (w2.heap.size < w3.heap.size) := QG_3.out.lt
  clear QN_2 QM_2 N_2 G_2 QNc0 QNc1 QNd0 QNd1 QMc0 QMc1 QMd0 QMd1 hb
  have QNc0 := QN_3.out.c0
  have QNc1 := QN_3.out.c1
  have QNd0 : ∀ o : Obj, (w3.alloc o).cell? ⟨w1.heap.size, 0, none⟩ = some (.slice a1 s.length c1) := fun o => (QN_3.out.keep (bAlloc (Below.refl _ _) o)).c0
  have QNd1 : ∀ o : Obj, (w3.alloc o).cell? ⟨w1.heap.size, 1, none⟩ = some (.slice b1 d.length e1) := fun o => (QN_3.out.keep (bAlloc (Below.refl _ _) o)).c1
  have QMc0 := QM_3.out.c0
  have QMc1 := QM_3.out.c1
  have QMd0 : ∀ o : Obj, (w3.alloc o).cell? ⟨(w1.heap.size + 1), 0, none⟩ = some (.slice a2 t.length c2) := fun o => (QM_3.out.keep (bAlloc (Below.refl _ _) o)).c0
  have QMd1 : ∀ o : Obj, (w3.alloc o).cell? ⟨(w1.heap.size + 1), 1, none⟩ = some (.slice b2 f.length e2) := fun o => (QM_3.out.keep (bAlloc (Below.refl _ _) o)).c1
  have QGc0 := QG_3.out.c0
  have QGc1 := QG_3.out.c1
  have QGd0 : ∀ o : Obj, (w3.alloc o).cell? ⟨w2.heap.size, 0, none⟩ = some (.slice aG S.length cG) := fun o => (QG_3.out.keep (bAlloc (Below.refl _ _) o)).c0
  have QGd1 : ∀ o : Obj, (w3.alloc o).cell? ⟨w2.heap.size, 1, none⟩ = some (.slice bG D.length eG) := fun o => (QG_3.out.keep (bAlloc (Below.refl _ _) o)).c1
  by_cases hc : C = 0
  · obtain ⟨x4, hSS, hDL, hFL, hA⟩ := FG.out hc
    subst hc x4
    have HSS : Hid (S = s) := hSS
    have HDL : Hid (D.length = d.length) := hDL
    have HFL : Hid (D4.length = d.length) := hFL
    have HA : Hid (∀ i, i < d.length → D.getD i 0 = 1 ∧ ∃ m : Nat, m ≤ i ∧ D4.getD i 0 = (m : Int) ∧ d.getD m 0 = d.getD i 0) := hA
    clear hSS hDL hFL hA FG FB
    go_wp2_with fail
    refine (E3.out _ _ ((N_3.out.arrI).keep (bAlloc (Below.refl _ _) _))).mono ?_
    rintro r w4 ⟨vR, rfl, ha, hb⟩
    obtain ⟨aR, cR, bR, eR, rfl, _, _, _, _⟩ := ha.arrI
    have R_4 : Hid (Arr (w3.heap.size + 1) w4.heap.size w4 (.agg #[.slice aR S3.length cR, .slice bR D3.length eR]) S3 D3) := ha.mono (by first | exact Nat.le_refl _ | simp | (simp; omega)) (Nat.le_refl _)
    clear ha
    have HB4 : Hid (Below w3.heap.size w3 w4) := bTrans (bAlloc (Below.refl _ _) _) hb
    have HT4 : Hid (Below w.heap.size w w4) := bTrans HT3.out HB4.out
    have SZ4 : Hid (w3.heap.size ≤ w4.heap.size) := HB4.out.size
    have QN_4 : Hid (Box w4 w1.heap.size (.slice a1 s.length c1) (.slice b1 d.length e1) 26) := QN_3.out.keep HB4.out
    have QM_4 : Hid (Box w4 (w1.heap.size + 1) (.slice a2 t.length c2) (.slice b2 f.length e2) 26) := QM_3.out.keep HB4.out
    have QG_4 : Hid (Box w4 w2.heap.size (.slice aG S.length cG) (.slice bG D.length eG) 26) := QG_3.out.keep HB4.out
    have N_4 : Hid (Arr w.heap.size w1.heap.size w4 (.agg #[.slice a1 s.length c1, .slice b1 d.length e1]) s d) := N_3.out.keep HB4.out
    have G_4 : Hid (Arr (w1.heap.size + 2) w2.heap.size w4 (.agg #[.slice aG S.length cG, .slice bG D.length eG]) S D) := G_3.out.keep HB4.out
    have QW_4 : Hid (Box w4 w3.heap.size (.slice aW S.length cW) (.slice bW D.length eW) 26) := (box_new w3 _ _ _).keep hb
    have LTQW : Hid (w3.heap.size < w4.heap.size) := QW_4.out.lt
    clear QN_3 QM_3 QG_3 N_3 G_3 QNc0 QNc1 QNd0 QNd1 QMc0 QMc1 QMd0 QMd1 QGc0 QGc1 QGd0 QGd1 hb
    have QNc0 := QN_4.out.c0
    have QNc1 := QN_4.out.c1
    have QNd0 : ∀ o : Obj, (w4.alloc o).cell? ⟨w1.heap.size, 0, none⟩ = some (.slice a1 s.length c1) := fun o => (QN_4.out.keep (bAlloc (Below.refl _ _) o)).c0
    have QNd1 : ∀ o : Obj, (w4.alloc o).cell? ⟨w1.heap.size, 1, none⟩ = some (.slice b1 d.length e1) := fun o => (QN_4.out.keep (bAlloc (Below.refl _ _) o)).c1
    have QMc0 := QM_4.out.c0
    have QMc1 := QM_4.out.c1
    have QMd0 : ∀ o : Obj, (w4.alloc o).cell? ⟨(w1.heap.size + 1), 0, none⟩ = some (.slice a2 t.length c2) := fun o => (QM_4.out.keep (bAlloc (Below.refl _ _) o)).c0
    have QMd1 : ∀ o : Obj, (w4.alloc o).cell? ⟨(w1.heap.size + 1), 1, none⟩ = some (.slice b2 f.length e2) := fun o => (QM_4.out.keep (bAlloc (Below.refl _ _) o)).c1
    have QGc0 := QG_4.out.c0
    have QGc1 := QG_4.out.c1
    have QGd0 : ∀ o : Obj, (w4.alloc o).cell? ⟨w2.heap.size, 0, none⟩ = some (.slice aG S.length cG) := fun o => (QG_4.out.keep (bAlloc (Below.refl _ _) o)).c0
    have QGd1 : ∀ o : Obj, (w4.alloc o).cell? ⟨w2.heap.size, 1, none⟩ = some (.slice bG D.length eG) := fun o => (QG_4.out.keep (bAlloc (Below.refl _ _) o)).c1
    have QWc0 := QW_4.out.c0
    have QWc1 := QW_4.out.c1
    have QWd0 : ∀ o : Obj, (w4.alloc o).cell? ⟨w3.heap.size, 0, none⟩ = some (.slice aW S.length cW) := fun o => (QW_4.out.keep (bAlloc (Below.refl _ _) o)).c0
    have QWd1 : ∀ o : Obj, (w4.alloc o).cell? ⟨w3.heap.size, 1, none⟩ = some (.slice bW D.length eW) := fun o => (QW_4.out.keep (bAlloc (Below.refl _ _) o)).c1
    go_wp2_with fail
    refine (E4.out _ _ ((R_4.out.arrI).keep (bAlloc (Below.refl _ _) _)) _ ((R_4.out.arrI).keep (bAlloc (Below.refl _ _) _))).mono ?_
    rintro r w5 ⟨vF, rfl, ha, hb⟩
    obtain ⟨aF, cF, bF, eF, rfl, _, _, _, _⟩ := ha.arrI
    have F_5 : Hid (Arr (w4.heap.size + 1) w5.heap.size w5 (.agg #[.slice aF S4.length cF, .slice bF D4.length eF]) S4 D4) := ha.mono (by first | exact Nat.le_refl _ | simp | (simp; omega)) (Nat.le_refl _)
    clear ha
    have HB5 : Hid (Below w4.heap.size w4 w5) := bTrans (bAlloc (Below.refl _ _) _) hb
    have HT5 : Hid (Below w.heap.size w w5) := bTrans HT4.out HB5.out
    have SZ5 : Hid (w4.heap.size ≤ w5.heap.size) := HB5.out.size
    have QN_5 : Hid (Box w5 w1.heap.size (.slice a1 s.length c1) (.slice b1 d.length e1) 26) := QN_4.out.keep HB5.out
    have QM_5 : Hid (Box w5 (w1.heap.size + 1) (.slice a2 t.length c2) (.slice b2 f.length e2) 26) := QM_4.out.keep HB5.out
    have QG_5 : Hid (Box w5 w2.heap.size (.slice aG S.length cG) (.slice bG D.length eG) 26) := QG_4.out.keep HB5.out
    have QW_5 : Hid (Box w5 w3.heap.size (.slice aW S.length cW) (.slice bW D.length eW) 26) := QW_4.out.keep HB5.out
    have N_5 : Hid (Arr w.heap.size w1.heap.size w5 (.agg #[.slice a1 s.length c1, .slice b1 d.length e1]) s d) := N_4.out.keep HB5.out
    have G_5 : Hid (Arr (w1.heap.size + 2) w2.heap.size w5 (.agg #[.slice aG S.length cG, .slice bG D.length eG]) S D) := G_4.out.keep HB5.out
    have R_5 : Hid (Arr (w3.heap.size + 1) w4.heap.size w5 (.agg #[.slice aR S3.length cR, .slice bR D3.length eR]) S3 D3) := R_4.out.keep HB5.out
    have QR_5 : Hid (Box w5 w4.heap.size (.slice aR S3.length cR) (.slice bR D3.length eR) 26) := (box_new w4 _ _ _).keep hb
    have LTQR : Hid (w4.heap.size < w5.heap.size) := QR_5.out.lt
    clear QN_4 QM_4 QG_4 QW_4 N_4 G_4 R_4 QNc0 QNc1 QNd0 QNd1 QMc0 QMc1 QMd0 QMd1 QGc0 QGc1 QGd0 QGd1 QWc0 QWc1 QWd0 QWd1 hb
    have QNc0 := QN_5.out.c0
    have QNc1 := QN_5.out.c1
    have QNd0 : ∀ o : Obj, (w5.alloc o).cell? ⟨w1.heap.size, 0, none⟩ = some (.slice a1 s.length c1) := fun o => (QN_5.out.keep (bAlloc (Below.refl _ _) o)).c0
    have QNd1 : ∀ o : Obj, (w5.alloc o).cell? ⟨w1.heap.size, 1, none⟩ = some (.slice b1 d.length e1) := fun o => (QN_5.out.keep (bAlloc (Below.refl _ _) o)).c1
    have QMc0 := QM_5.out.c0
    have QMc1 := QM_5.out.c1
    have QMd0 : ∀ o : Obj, (w5.alloc o).cell? ⟨(w1.heap.size + 1), 0, none⟩ = some (.slice a2 t.length c2) := fun o => (QM_5.out.keep (bAlloc (Below.refl _ _) o)).c0
    have QMd1 : ∀ o : Obj, (w5.alloc o).cell? ⟨(w1.heap.size + 1), 1, none⟩ = some (.slice b2 f.length e2) := fun o => (QM_5.out.keep (bAlloc (Below.refl _ _) o)).c1
    have QGc0 := QG_5.out.c0
    have QGc1 := QG_5.out.c1
    have QGd0 : ∀ o : Obj, (w5.alloc o).cell? ⟨w2.heap.size, 0, none⟩ = some (.slice aG S.length cG) := fun o => (QG_5.out.keep (bAlloc (Below.refl _ _) o)).c0
    have QGd1 : ∀ o : Obj, (w5.alloc o).cell? ⟨w2.heap.size, 1, none⟩ = some (.slice bG D.length eG) := fun o => (QG_5.out.keep (bAlloc (Below.refl _ _) o)).c1
    have QWc0 := QW_5.out.c0
    have QWc1 := QW_5.out.c1
    have QWd0 : ∀ o : Obj, (w5.alloc o).cell? ⟨w3.heap.size, 0, none⟩ = some (.slice aW S.length cW) := fun o => (QW_5.out.keep (bAlloc (Below.refl _ _) o)).c0
    have QWd1 : ∀ o : Obj, (w5.alloc o).cell? ⟨w3.heap.size, 1, none⟩ = some (.slice bW D.length eW) := fun o => (QW_5.out.keep (bAlloc (Below.refl _ _) o)).c1
    have QRc0 := QR_5.out.c0
    have QRc1 := QR_5.out.c1
    have QRd0 : ∀ o : Obj, (w5.alloc o).cell? ⟨w4.heap.size, 0, none⟩ = some (.slice aR S3.length cR) := fun o => (QR_5.out.keep (bAlloc (Below.refl _ _) o)).c0
    have QRd1 : ∀ o : Obj, (w5.alloc o).cell? ⟨w4.heap.size, 1, none⟩ = some (.slice bR D3.length eR) := fun o => (QR_5.out.keep (bAlloc (Below.refl _ _) o)).c1
    go_wp2_with fail
    generalize hW : w5.alloc (.cells #[.slice aF S4.length cF, .slice bF D4.length eF] 26) = WL
    have BL : Hid (Below w5.heap.size w5 WL) := by rw [← hW]; exact bAlloc (Below.refl _ _) _
    have QF : Hid (Box WL w5.heap.size (.slice aF S4.length cF) (.slice bF D4.length eF) 26) := by rw [← hW]; exact box_new w5 _ _ _
    have QA0 : Hid (Box WL w1.heap.size (.slice a1 s.length c1) (.slice b1 d.length e1) 26) := QN_5.out.keep BL.out
    have QB0 : Hid (Box WL w2.heap.size (.slice aG S.length cG) (.slice bG D.length eG) 26) := QG_5.out.keep BL.out
    have NA0 : Hid (ArrI WL (.agg #[.slice a1 s.length c1, .slice b1 d.length e1]) s d) := N_5.out.arrI.keep BL.out
    have NB0 : Hid (ArrI WL (.agg #[.slice aG S.length cG, .slice bG D.length eG]) S D) := G_5.out.arrI.keep BL.out
    have NF0 : Hid (ArrI WL (.agg #[.slice aF S4.length cF, .slice bF D4.length eF]) S4 D4) := F_5.out.arrI.keep BL.out
    have HTL : Hid (Below w.heap.size w WL) := bTrans HT5.out BL.out
    clear hW
    clear QNc0 QNc1 QNd0 QNd1 QMc0 QMc1 QMd0 QMd1 QGc0 QGc1 QGd0 QGd1 QWc0 QWc1 QWd0 QWd1 QRc0 QRc1 QRd0 QRd1
    go_loopw [13] (fun i w' => ∃ k : Nat, k ≤ d.length ∧ i = .int .i64 (k : Int) ∧ Below WL.heap.size WL w') (fun i _ => d.length - (intOf i).toNat)
    case atStart => exact ⟨0, by omega, rfl, Below.refl _ _⟩
    case round =>
      obtain ⟨k, hk, rfl, hB⟩ := hrel
      have HC : Hid (Below WL.heap.size WL wr) := hB
      have QA : Hid (Box wr w1.heap.size (.slice a1 s.length c1) (.slice b1 d.length e1) 26) := QA0.out.keep hB
      have QB : Hid (Box wr w2.heap.size (.slice aG S.length cG) (.slice bG D.length eG) 26) := QB0.out.keep hB
      have QC : Hid (Box wr w5.heap.size (.slice aF S4.length cF) (.slice bF D4.length eF) 26) := QF.out.keep hB
      have NA : Hid (ArrI wr (.agg #[.slice a1 s.length c1, .slice b1 d.length e1]) s d) := NA0.out.keep hB
      have NB : Hid (ArrI wr (.agg #[.slice aG S.length cG, .slice bG D.length eG]) S D) := NB0.out.keep hB
      have NF : Hid (ArrI wr (.agg #[.slice aF S4.length cF, .slice bF D4.length eF]) S4 D4) := NF0.out.keep hB
      clear hB
      have q0 := QA.out.c0
      have q1 := QA.out.c1
      have q2 := QB.out.c0
      have q3 := QB.out.c1
      have q4 := QC.out.c0
      have q5 := QC.out.c1
      by_cases hlt : (k : Int) < (d.length : Int)
      · have L : k < d.length := by omega
        have hkb : k ≤ 1048576 := by have := Ld.out; omega
        have hltD : (k : Int) < (D.length : Int) := by have := HDL.out; omega
        have hltF : (k : Int) < (D4.length : Int) := by have := HFL.out; omega
        obtain ⟨z1, m, z2, z3, z4⟩ := HA.out k L
        have hmd : (m : Int) < (d.length : Int) := by omega
        have hgt : (decide ((k : Int) < (m : Int))) = false := by simp; omega
        have hgt2 : ¬ (k : Int) < (m : Int) := by omega
        have hgt3 : decide (k < m) = false := by simp; omega
        have hgt4 : decide ((m : Int) > (k : Int)) = false := by simp; omega
        obtain ⟨_, _, _, _, ev, _, i1, _, _⟩ := NA.out
        cases ev
        obtain ⟨_, _, _, _, ev, _, i2, _, _⟩ := NB.out
        cases ev
        obtain ⟨_, _, _, _, ev, _, i3, _, _⟩ := NF.out
        cases ev
        obtain ⟨p1, o1, rfl, hp1, t1⟩ := i1.at L
        obtain ⟨p4, o4, he, hp4, t4⟩ := i1.at (k := m) (by omega)
        cases he
        obtain ⟨p2, o2, rfl, hp2, t2⟩ := i2.at (k := k) (by have := HDL.out; omega)
        obtain ⟨p3, o3, rfl, hp3, t3⟩ := i3.at (k := k) (by have := HFL.out; omega)
        rw [z1] at t2
        rw [z3] at t3
        rw [z4] at t4
        generalize d.getD k 0 = u at *
        have huu : (u != u) = false := by simp
        clear z1 z2 z3 z4 i1 i2 i3
        go_wp2_with fail
        go_quiet (fail)
        go_wp2
        go_roundw
        case rel => exact ⟨k + 1, by omega, by go_num, bDrewN HC.out _⟩
        case measure => simp [intOf]; omega
      · obtain ⟨_, _, _, _, ev, i1, _, _, _⟩ := NA.out
        cases ev
        obtain ⟨_, _, _, _, ev, i2, _, _, _⟩ := NB.out
        cases ev
        have SI : Hid (∀ W, Below wr.heap.size wr W → Calls Try.prog 21 #[.slice aG S.length cG, .slice a1 s.length c1] W fun e w' => e = .returned (.bool true) ∧ Below W.heap.size W w') := fun W h => by
          refine (same_ints cG c1 (by have := LA.out.1; omega) (i2.keep h) (i1.keep h)).mono ?_
          rintro r w' ⟨rfl, n, rfl⟩
          exact ⟨by simp [HSS.out], bDrewN (Below.refl _ _) n⟩
        clear i1 i2
        go_wp2_with fail
        refine (SI.out _ (Below.refl _ _)).mono ?_
        rintro r wn ⟨rfl, hb⟩
        go_wp2
        go_ret
        exact ⟨rfl, bTrans HTL.out (bTrans HC.out hb)⟩
  · have n0 : (C != 0) = true := by simpa using hc
    have hl : ((D.length : Int) == 0) = true := by rw [FB.out hc]; rfl
    have hl2 : D.length = 0 := FB.out hc
    clear FG FB
    go_wp2
    go_ret
    exact ⟨rfl, bTrans HT3.out (bAlloc (Below.refl _ _) _)⟩

/-! ### THE ROW's STEP: WRITTEN OUT: LEAVE IT -/
set_option maxRecDepth 100000 in
theorem lifted (os : Os) (started : os.Started) (H : Type) (enc : TypeId × Value → H) :
    ReturnsInHanded {} Try.checked os 8 .any (Rows.fnItselfSpec.pre6 enc Try.prog Try.f8 Rows.fnItselfRow.domain false) (Rows.fnItselfSpec.post enc Try.prog Try.f8 false true false false) := by
  refine returnsInHanded_of_change (C := Try.checked) own started (by kernel_rfl) Try.func8
    (ChangeSpec.witness6 (enc := enc) (C := Try.checked) false ⟨#[], #[.slice none 0 0], []⟩ 8 (by kernel_rfl) (by kernel_rfl) (by kernel_rfl) (by kernel_rfl)) ?_
  intro W base args ds gs before hval0 hW hcnd _
  have hval : ∀ (j : Nat) t v, Try.f8.params[j]? = some t → args[j]? = some v → Value.okWide Try.prog W .any base t v := hval0
  have hW' := hW
  obtain ⟨p, q, hA0, hV, rfl, hfz, hnd⟩ := hW
  have hA : DataW.TrodAll enc Try.prog W 0 (fun _ => true) true Try.f8.params.toList args.toList ds p := hA0
  rw [Try.params8] at hA hval
  obtain ⟨v0, vs0, d0, ds0, p0, q0, hargs, rfl, rfl, h0, r0⟩ := trodAll_cons hA
  obtain ⟨rfl, rfl, rfl⟩ := trodAll_nil r0
  obtain rfl : args = #[v0] := by cases args; simp_all
  obtain ⟨rfl, rfl⟩ := trodVars_none hV
  obtain ⟨a0, len0, cap0, rfl⟩ := okWide_slice Try.underlying22 (hval 0 22 v0 rfl rfl)
  have k0 := h0
  have lt0 : ∀ x ∈ p0, x.block < W.heap.size := by obtain ⟨m, hm⟩ := k0; exact DataW.trod_lt m _ _ _ hm
  obtain ⟨z0, w0⟩ : ∃ zs, IsRow .u8 W a0 len0 cap0 zs := by
    obtain ⟨fuel, hf⟩ := h0
    rcases open_ints Try.underlying22 Try.underlying5 (by kernel_rfl) hf with ⟨hcs, _⟩ | ⟨x, l, c, zs, hcs, _, hl, hm, hz, _, hcell, hwz⟩
    · simp [Value.cells] at hcs
      obtain ⟨rfl, rfl, rfl⟩ := hcs
      exact ⟨[], .inl ⟨rfl, rfl, rfl, rfl⟩⟩
    · simp [Value.cells] at hcs
      obtain ⟨rfl, rfl, rfl⟩ := hcs
      exact ⟨zs, .inr ⟨_, rfl, hl, hm, by simpa using hz, hcell, hwz⟩⟩
  clear hA0 hval0
  refine (walk a0 len0 cap0 z0 W w0).mono fun e W' ⟨he, bel⟩ => ?_
  subst he
  exact ⟨_, rfl, _, _, _, [], _, [], hW', trodAll_mk1 (shut_bool Try.underlying4 _), (trodAll_cons_mk (Below.trod laidOut (by kernel_rfl) (of_decide_eq_true (by kernel_rfl)) k0 bel lt0) trodAll_mk0), rfl, bel.frame _, fun h => by cases h⟩

theorem over : Rows.fnItselfRow.holds Try.pinned (OpenSpec.ofChange Rows.fnItselfSpec) :=
  OpenClaim.holds_of_wide 8 Try.f8 rfl rfl rfl rfl rfl rfl rfl ⟨rfl, rfl, rfl, rfl, rfl⟩ rfl rfl rfl rfl rfl (by kernel_rfl) Try.func8 (by kernel_rfl)
    (of_decide_eq_true (by kernel_rfl)) (by unfold Func.isWrapper; first | (rw [if_pos (by decide +kernel)]; kernel_rfl) | (rw [if_neg (by decide +kernel)]; exact ⟨rfl, rfl⟩))
    (fun os started H enc _ => lifted os started H enc)

/-- ████ THE STATEMENT ████ -/
theorem proved : Rows.FnItselfSaid := over
end Go.Proofs.Ythjjjnapcbkhjaa.fnItself
namespace Go.Proofs.Ythjjjnapcbkhjaa
theorem fnItself_holds : Rows.FnItselfSaid := fnItself.proved
#print axioms fnItself_holds
end Go.Proofs.Ythjjjnapcbkhjaa
