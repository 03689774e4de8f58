/-
  Proved: whatever code it is given, the law FnCopied returns true (what is copied of a drawn array are its rows as often as told; by ones it is itself, by noughts nothing). No condition.
-/
import Derived.Test.YthjjjnapcbkhjaaRows
import Derived.WalkKit
import Derived.ProofKit
import Derived.OpenShut
import Derived.ShutString
import Derived.ChangeOld
import Derived.Below
import Derived.Test.YthjjjnapcbkhjaaZ1
import Derived.Test.YthjjjnapcbkhjaaZ2
import Derived.Test.YthjjjnapcbkhjaaSpecCopy6
import Derived.Test.YthjjjnapcbkhjaaImplArr3
import Derived.Test.YthjjjnapcbkhjaaLaw3
namespace Go.Proofs.Ythjjjnapcbkhjaa.fnCopied
open Go.ChangeShapes Go.WideShapes Go.ChangeAt Go.RowKit
open Go.ChangeMaps (open_string shut_string)
set_option linter.unusedVariables false
set_option linter.unusedSimpArgs false
set_option linter.unusedVariables false

theorem own : ownKnob Try.prog.godebug = none := by kernel_rfl
theorem laidOut : laidOutB Try.prog = true := by kernel_rfl

/-! ### STEP 1: THE WALK: the Go text returns true, AND WRITES NOTHING THAT WAS THERE: 'Below w.heap.size w w'' (Derived/Below.lean: '.refl', '.alloc', '.drew', '.setCell' at a new block, '.trans'). Open each 'IsRow' by 'rcases' AHEAD of 'go_enter'; part every test ahead of the walk. -/
set_option maxRecDepth 20000 in
set_option maxHeartbeats 8000000 in
theorem walk (a0 : Option Addr) (len0 cap0 : Nat) (z0 : List Int) (w : World) (w0 : IsRow .u8 w a0 len0 cap0 z0) :
    Calls Try.prog 7 #[.slice a0 len0 cap0] w fun e w' => e = .returned (.bool true) ∧ Below w.heap.size w w' := by
  have HS : Hid (Src w.heap.size w a0 len0) := src_of_row w0
  clear w0
  by_cases hbig : (1048576 : Int) < (len0 : Int)
  · go_enter Try.func7, Try.ntmps7
    go_wp2_with (go_at_call 9; refine (big_laws _ _ _ _).mono ?_; rintro e w' ⟨rfl, hw⟩; subst w')
    go_ret
    exact ⟨rfl, Below.refl _ _⟩
  have hb20 : len0 ≤ 1048576 := by omega
  go_enter Try.func7, Try.ntmps7
  go_wp2_with (go_at_call 9; refine (big_laws _ _ _ _).mono ?_; rintro e w' ⟨rfl, hw⟩; subst w')
  refine (drawCopy_spec HS.out hb20).mono ?_
  rintro r w1 ⟨v1, v2, s, d, t, f, rfl, ha, hc0, ⟨hls, hld, hlt, hlf⟩, hb⟩
  obtain ⟨a1, c1, b1, e1, rfl, _, _, _, _⟩ := ha.arrI
  obtain ⟨a2, c2, b2, e2, rfl, _, _, _, _⟩ := hc0.arrI
  have N_1 : Hid (Arr w.heap.size w1.heap.size w1 (.agg #[.slice a1 s.length c1, .slice b1 d.length e1]) s d) := ha
  have M_1 : Hid (Arr w.heap.size w1.heap.size w1 (.agg #[.slice a2 t.length c2, .slice b2 f.length e2]) t f) := hc0
  have Ls : Hid (s.length ≤ 1048576) := by show _ ≤ _; omega
  have Ld : Hid (d.length ≤ 1048576) := by show _ ≤ _; omega
  have Lt : Hid (t.length ≤ 1048576) := by show _ ≤ _; omega
  have Lf : Hid (f.length ≤ 1048576) := by show _ ≤ _; omega
  have HT1 : Hid (Below w.heap.size w w1) := hb
  have SZ1 : Hid (w.heap.size ≤ w1.heap.size) := hb.size
  clear hb ha hc0 hls hld hlt hlf
  obtain ⟨C, hC⟩ : ∃ y, y = (copyR s d t f).1 := ⟨_, rfl⟩
  obtain ⟨S, hS⟩ : ∃ y, y = (copyR s d t f).2.1 := ⟨_, rfl⟩
  obtain ⟨D, hD⟩ : ∃ y, y = (copyR s d t f).2.2 := ⟨_, rfl⟩
  obtain ⟨F, hF⟩ : ∃ x, x = rowsF t f := ⟨_, rfl⟩
  obtain ⟨T0, hT0⟩ : ∃ x, x = 0 :: t.drop 1 := ⟨_, rfl⟩
  obtain ⟨DZ, hDZ⟩ : ∃ x : List Int, x = [] := ⟨_, rfl⟩
  have CI : Hid (∀ (W : World) (u : Value), ArrI W u t f → Calls Try.prog 20 #[u] W fun e w' => ∃ v, e = .returned v ∧ Arrs W.heap.size w'.heap.size w' v F ∧ Below W.heap.size W w') := by
    intro W u h
    rw [hF]
    exact rows_impl h Lt.out Lf.out
  have SK1 : Hid (∀ W, Calls Try.prog 30 #[.int .i64 1] W fun e w' => ∃ v, e = .returned (.tuple #[v, .bool true]) ∧ Arr W.heap.size w'.heap.size w' v [] [1] ∧ Below W.heap.size W w') := fun W => scalarOf_impl 1 W
  have SK0 : Hid (∀ W, Calls Try.prog 30 #[.int .i64 0] W fun e w' => ∃ v, e = .returned (.tuple #[v, .bool true]) ∧ Arr W.heap.size w'.heap.size w' v [] [0] ∧ Below W.heap.size W w') := fun W => scalarOf_impl 0 W
  have OKS : Hid (∀ (W : World) (u : Value), ArrI W u t f → Calls Try.prog 31 #[u] W fun e w' => e = .returned (.bool (arrOk t f)) ∧ Below W.heap.size W w') := fun W u h => arrOk_spec h Lf.out
  have SA : Hid (∀ (W : World) (u v : Value), ArrI W u t f → ArrI W v t f → Calls Try.prog 14 #[u, v] W fun e w' => e = .returned (.bool true) ∧ Below W.heap.size W w') := fun W u v h k => by
    have q := same_arr h k Lt.out Lf.out
    simpa using q
  have E1 : Hid (arrOk t f = true → t ≠ [] → ∀ (W : World) (u0 : Value) (_ : ArrI W u0 [] [1]) (u1 : Value) (_ : ArrI W u1 t f), Calls Try.prog 28 #[u0, u1] W fun e w' => ∃ v, e = .returned (.tuple #[v, .int .i64 0]) ∧ Arr W.heap.size w'.heap.size w' v t f ∧ Below W.heap.size W w') := by
    intro ho ht W u0 h0 u1 h1
    have q := copy6_impl h0 h1 (by simp) (by simp) Lt.out Lf.out
    rw [copy_one ho ht] at q
    exact q
  have E0 : Hid (arrOk t f = true → t ≠ [] → ∀ (W : World) (u0 : Value) (_ : ArrI W u0 [] [0]) (u1 : Value) (_ : ArrI W u1 t f), Calls Try.prog 28 #[u0, u1] W fun e w' => ∃ v, e = .returned (.tuple #[v, .int .i64 0]) ∧ Arr W.heap.size w'.heap.size w' v T0 DZ ∧ Below W.heap.size W w') := by
    intro ho ht W u0 h0 u1 h1
    have q := copy6_impl h0 h1 (by simp) (by simp) Lt.out Lf.out
    rw [copy_none ho ht] at q
    rw [hT0, hDZ]
    exact q
  have hDZb : ((DZ.length : Int) != 0) = false := by rw [hDZ]; rfl
  have EI : Hid (∀ (W : World) (u0 : Value) (_ : ArrI W u0 s d) (u1 : Value) (_ : ArrI W u1 t f), Calls Try.prog 28 #[u0, u1] W fun e w' => ∃ v, e = .returned (.tuple #[v, .int .i64 C]) ∧ Arr W.heap.size w'.heap.size w' v S D ∧ Below W.heap.size W w') := by
    intro W u0 h0 u1 h1
    rw [hC, hS, hD]
    exact copy6_impl h0 h1 Ls.out Ld.out Lt.out Lf.out
  have ES : Hid (∀ (W : World) (u0 : Value) (_ : ArrI W u0 s d) (u1 : Value) (_ : ArrI W u1 t f), Calls Try.prog 29 #[u0, u1] W fun e w' => ∃ v, e = .returned (.tuple #[v, .int .i64 C]) ∧ Arr W.heap.size w'.heap.size w' v S D ∧ Below W.heap.size W w') := by
    intro W u0 h0 u1 h1
    rw [hC, hS, hD]
    exact copy6_spec h0 h1 Ld.out Lf.out
  have FG : Hid (C = 0 → arrOk s d = true ∧ arrOk t f = true ∧ t ≠ [] ∧ D = toldTo d (fun i => rowAt t f i) (rowsN t) ∧ arrOk S D = true ∧ (0 < rowsN t → 0 < d.length) ∧ (∀ i, 0 ≤ often d i ∧ often d i ≤ 1000000000000) ∧ (∀ i, i < rowsN t → often d i ≤ 300 ∧ 0 ≤ tot d i ∧ tot d i ≤ 300)) := by
    intro h
    rw [hC] at h
    rw [hS, hD]
    exact copied_good h
  have FL : Hid (C = 0 → ∀ i, i ≤ rowsN t → (toldTo d (fun i => rowAt t f i) i).length ≤ 90000) := by
    intro h
    have q := FG.out h
    have hq := h
    rw [hC] at hq
    unfold copyR at hq
    rw [mkR_code] at hq
    obtain ⟨c1, c2, c3, c4, c5⟩ := copyC_zero hq
    intro i hi
    have l1 := told_len c1 c4 (fun i => rowAt t f i) 300 (fun i => by have := arrOk_len c2; unfold rowAt; rw [List.length_take, List.length_drop]; omega) i
    have l2 := tot_mono c1 c4 hi
    have l3 := (dim5 c5).2
    have l4 : tot d i * ((300 : Nat) : Int) ≤ 300 * 300 := Int.mul_le_mul_of_nonneg_right (by omega) (by decide)
    omega
  have FB : Hid (C ≠ 0 → D.length = 0) := by
    intro h
    rw [hC] at h
    rw [hD, copy_bad h]
    rfl
  have HF : Hid (F = rowsF t f) := hF
  have hneC : (C != C) = false := by simp
  clear hC hS hD hF hT0 hDZ
  go_wp2_with fail
  refine (EI.out _ _ ((N_1.out.arrI).keep (bAlloc (bAlloc (Below.refl _ _) _) _)) _ ((M_1.out.arrI).keep (bAlloc (bAlloc (Below.refl _ _) _) _))).mono ?_
  rintro r w2 ⟨vG, rfl, ha, hb⟩
  obtain ⟨aG, cG, bG, eG, rfl, _, _, _, _⟩ := ha.arrI
  have G_2 : Hid (Arr (w1.heap.size + 2) w2.heap.size w2 (.agg #[.slice aG S.length cG, .slice bG D.length eG]) S D) := ha.mono (by first | exact Nat.le_refl _ | simp | (simp; omega)) (Nat.le_refl _)
  clear ha
  have HB2 : Hid (Below w1.heap.size w1 w2) := bTrans (bAlloc (bAlloc (Below.refl _ _) _) _) hb
  have HT2 : Hid (Below w.heap.size w w2) := bTrans HT1.out HB2.out
  have SZ2 : Hid (w1.heap.size ≤ w2.heap.size) := HB2.out.size
  have N_2 : Hid (Arr w.heap.size w1.heap.size w2 (.agg #[.slice a1 s.length c1, .slice b1 d.length e1]) s d) := N_1.out.keep HB2.out
  have M_2 : Hid (Arr w.heap.size w1.heap.size w2 (.agg #[.slice a2 t.length c2, .slice b2 f.length e2]) t f) := M_1.out.keep HB2.out
  have QN_2 : Hid (Box w2 w1.heap.size (.slice a1 s.length c1) (.slice b1 d.length e1) 26) := ((box_new w1 _ _ _).keep (bAlloc (Below.refl _ _) _)).keep hb
  have LTQN : Hid (w1.heap.size < w2.heap.size) := QN_2.out.lt
  have QM_2 : Hid (Box w2 (w1.heap.size + 1) (.slice a2 t.length c2) (.slice b2 f.length e2) 26) := (box_new2 w1 _ _ _ _).keep hb
  have LTQM : Hid ((w1.heap.size + 1) < w2.heap.size) := QM_2.out.lt
  clear N_1 M_1 hb
  have QNc0 := QN_2.out.c0
  have QNc1 := QN_2.out.c1
  have QNd0 : ∀ o : Obj, (w2.alloc o).cell? ⟨w1.heap.size, 0, none⟩ = some (.slice a1 s.length c1) := fun o => (QN_2.out.keep (bAlloc (Below.refl _ _) o)).c0
  have QNd1 : ∀ o : Obj, (w2.alloc o).cell? ⟨w1.heap.size, 1, none⟩ = some (.slice b1 d.length e1) := fun o => (QN_2.out.keep (bAlloc (Below.refl _ _) o)).c1
  have QMc0 := QM_2.out.c0
  have QMc1 := QM_2.out.c1
  have QMd0 : ∀ o : Obj, (w2.alloc o).cell? ⟨(w1.heap.size + 1), 0, none⟩ = some (.slice a2 t.length c2) := fun o => (QM_2.out.keep (bAlloc (Below.refl _ _) o)).c0
  have QMd1 : ∀ o : Obj, (w2.alloc o).cell? ⟨(w1.heap.size + 1), 1, none⟩ = some (.slice b2 f.length e2) := fun o => (QM_2.out.keep (bAlloc (Below.refl _ _) o)).c1
  go_wp2_with fail
  refine (ES.out _ _ ((N_2.out.arrI).keep (bAlloc (Below.refl _ _) _)) _ ((M_2.out.arrI).keep (bAlloc (Below.refl _ _) _))).mono ?_
  rintro r w3 ⟨vW, rfl, ha, hb⟩
  obtain ⟨aW, cW, bW, eW, rfl, _, _, _, _⟩ := ha.arrI
  have W_3 : Hid (Arr (w2.heap.size + 1) w3.heap.size w3 (.agg #[.slice aW S.length cW, .slice bW D.length eW]) S D) := ha.mono (by first | exact Nat.le_refl _ | simp | (simp; omega)) (Nat.le_refl _)
  clear ha
  have HB3 : Hid (Below w2.heap.size w2 w3) := bTrans (bAlloc (Below.refl _ _) _) hb
  have HT3 : Hid (Below w.heap.size w w3) := bTrans HT2.out HB3.out
  have SZ3 : Hid (w2.heap.size ≤ w3.heap.size) := HB3.out.size
  have QN_3 : Hid (Box w3 w1.heap.size (.slice a1 s.length c1) (.slice b1 d.length e1) 26) := QN_2.out.keep HB3.out
  have QM_3 : Hid (Box w3 (w1.heap.size + 1) (.slice a2 t.length c2) (.slice b2 f.length e2) 26) := QM_2.out.keep HB3.out
  have N_3 : Hid (Arr w.heap.size w1.heap.size w3 (.agg #[.slice a1 s.length c1, .slice b1 d.length e1]) s d) := N_2.out.keep HB3.out
  have M_3 : Hid (Arr w.heap.size w1.heap.size w3 (.agg #[.slice a2 t.length c2, .slice b2 f.length e2]) t f) := M_2.out.keep HB3.out
  have G_3 : Hid (Arr (w1.heap.size + 2) w2.heap.size w3 (.agg #[.slice aG S.length cG, .slice bG D.length eG]) S D) := G_2.out.keep HB3.out
  have QG_3 : Hid (Box w3 w2.heap.size (.slice aG S.length cG) (.slice bG D.length eG) 26) := (box_new w2 _ _ _).keep hb
  have LTQG : Hid (w2.heap.size < w3.heap.size) := QG_3.out.lt
  clear QN_2 QM_2 N_2 M_2 G_2 QNc0 QNc1 QNd0 QNd1 QMc0 QMc1 QMd0 QMd1 hb
  have QNc0 := QN_3.out.c0
  have QNc1 := QN_3.out.c1
  have QNd0 : ∀ o : Obj, (w3.alloc o).cell? ⟨w1.heap.size, 0, none⟩ = some (.slice a1 s.length c1) := fun o => (QN_3.out.keep (bAlloc (Below.refl _ _) o)).c0
  have QNd1 : ∀ o : Obj, (w3.alloc o).cell? ⟨w1.heap.size, 1, none⟩ = some (.slice b1 d.length e1) := fun o => (QN_3.out.keep (bAlloc (Below.refl _ _) o)).c1
  have QMc0 := QM_3.out.c0
  have QMc1 := QM_3.out.c1
  have QMd0 : ∀ o : Obj, (w3.alloc o).cell? ⟨(w1.heap.size + 1), 0, none⟩ = some (.slice a2 t.length c2) := fun o => (QM_3.out.keep (bAlloc (Below.refl _ _) o)).c0
  have QMd1 : ∀ o : Obj, (w3.alloc o).cell? ⟨(w1.heap.size + 1), 1, none⟩ = some (.slice b2 f.length e2) := fun o => (QM_3.out.keep (bAlloc (Below.refl _ _) o)).c1
  have QGc0 := QG_3.out.c0
  have QGc1 := QG_3.out.c1
  have QGd0 : ∀ o : Obj, (w3.alloc o).cell? ⟨w2.heap.size, 0, none⟩ = some (.slice aG S.length cG) := fun o => (QG_3.out.keep (bAlloc (Below.refl _ _) o)).c0
  have QGd1 : ∀ o : Obj, (w3.alloc o).cell? ⟨w2.heap.size, 1, none⟩ = some (.slice bG D.length eG) := fun o => (QG_3.out.keep (bAlloc (Below.refl _ _) o)).c1
  go_wp2_with fail
  refine (SK1.out _).mono ?_
  rintro r w4 ⟨vO, rfl, ha, hb⟩
  obtain ⟨aO, cO, bO, eO, rfl, _, _, _, _⟩ := ha.arrI
  have O_4 : Hid (Arr (w3.heap.size + 1) w4.heap.size w4 (.agg #[.slice aO 0 cO, .slice bO 1 eO]) [] [1]) := ha.mono (by first | exact Nat.le_refl _ | simp | (simp; omega)) (Nat.le_refl _)
  clear ha
  have HB4 : Hid (Below w3.heap.size w3 w4) := bTrans (bAlloc (Below.refl _ _) _) hb
  have HT4 : Hid (Below w.heap.size w w4) := bTrans HT3.out HB4.out
  have SZ4 : Hid (w3.heap.size ≤ w4.heap.size) := HB4.out.size
  have QN_4 : Hid (Box w4 w1.heap.size (.slice a1 s.length c1) (.slice b1 d.length e1) 26) := QN_3.out.keep HB4.out
  have QM_4 : Hid (Box w4 (w1.heap.size + 1) (.slice a2 t.length c2) (.slice b2 f.length e2) 26) := QM_3.out.keep HB4.out
  have QG_4 : Hid (Box w4 w2.heap.size (.slice aG S.length cG) (.slice bG D.length eG) 26) := QG_3.out.keep HB4.out
  have N_4 : Hid (Arr w.heap.size w1.heap.size w4 (.agg #[.slice a1 s.length c1, .slice b1 d.length e1]) s d) := N_3.out.keep HB4.out
  have M_4 : Hid (Arr w.heap.size w1.heap.size w4 (.agg #[.slice a2 t.length c2, .slice b2 f.length e2]) t f) := M_3.out.keep HB4.out
  have G_4 : Hid (Arr (w1.heap.size + 2) w2.heap.size w4 (.agg #[.slice aG S.length cG, .slice bG D.length eG]) S D) := G_3.out.keep HB4.out
  have QW_4 : Hid (Box w4 w3.heap.size (.slice aW S.length cW) (.slice bW D.length eW) 26) := (box_new w3 _ _ _).keep hb
  have LTQW : Hid (w3.heap.size < w4.heap.size) := QW_4.out.lt
  clear QN_3 QM_3 QG_3 N_3 M_3 G_3 QNc0 QNc1 QNd0 QNd1 QMc0 QMc1 QMd0 QMd1 QGc0 QGc1 QGd0 QGd1 hb
  have QNc0 := QN_4.out.c0
  have QNc1 := QN_4.out.c1
  have QNd0 : ∀ o : Obj, (w4.alloc o).cell? ⟨w1.heap.size, 0, none⟩ = some (.slice a1 s.length c1) := fun o => (QN_4.out.keep (bAlloc (Below.refl _ _) o)).c0
  have QNd1 : ∀ o : Obj, (w4.alloc o).cell? ⟨w1.heap.size, 1, none⟩ = some (.slice b1 d.length e1) := fun o => (QN_4.out.keep (bAlloc (Below.refl _ _) o)).c1
  have QMc0 := QM_4.out.c0
  have QMc1 := QM_4.out.c1
  have QMd0 : ∀ o : Obj, (w4.alloc o).cell? ⟨(w1.heap.size + 1), 0, none⟩ = some (.slice a2 t.length c2) := fun o => (QM_4.out.keep (bAlloc (Below.refl _ _) o)).c0
  have QMd1 : ∀ o : Obj, (w4.alloc o).cell? ⟨(w1.heap.size + 1), 1, none⟩ = some (.slice b2 f.length e2) := fun o => (QM_4.out.keep (bAlloc (Below.refl _ _) o)).c1
  have QGc0 := QG_4.out.c0
  have QGc1 := QG_4.out.c1
  have QGd0 : ∀ o : Obj, (w4.alloc o).cell? ⟨w2.heap.size, 0, none⟩ = some (.slice aG S.length cG) := fun o => (QG_4.out.keep (bAlloc (Below.refl _ _) o)).c0
  have QGd1 : ∀ o : Obj, (w4.alloc o).cell? ⟨w2.heap.size, 1, none⟩ = some (.slice bG D.length eG) := fun o => (QG_4.out.keep (bAlloc (Below.refl _ _) o)).c1
  have QWc0 := QW_4.out.c0
  have QWc1 := QW_4.out.c1
  have QWd0 : ∀ o : Obj, (w4.alloc o).cell? ⟨w3.heap.size, 0, none⟩ = some (.slice aW S.length cW) := fun o => (QW_4.out.keep (bAlloc (Below.refl _ _) o)).c0
  have QWd1 : ∀ o : Obj, (w4.alloc o).cell? ⟨w3.heap.size, 1, none⟩ = some (.slice bW D.length eW) := fun o => (QW_4.out.keep (bAlloc (Below.refl _ _) o)).c1
  go_wp2_with fail
  refine (SK0.out _).mono ?_
  rintro r w5 ⟨vZ, rfl, ha, hb⟩
  obtain ⟨aZ, cZ, bZ, eZ, rfl, _, _, _, _⟩ := ha.arrI
  have Z_5 : Hid (Arr (w4.heap.size + 1) w5.heap.size w5 (.agg #[.slice aZ 0 cZ, .slice bZ 1 eZ]) [] [0]) := ha.mono (by first | exact Nat.le_refl _ | simp | (simp; omega)) (Nat.le_refl _)
  clear ha
  have HB5 : Hid (Below w4.heap.size w4 w5) := bTrans (bAlloc (Below.refl _ _) _) hb
  have HT5 : Hid (Below w.heap.size w w5) := bTrans HT4.out HB5.out
  have SZ5 : Hid (w4.heap.size ≤ w5.heap.size) := HB5.out.size
  have QN_5 : Hid (Box w5 w1.heap.size (.slice a1 s.length c1) (.slice b1 d.length e1) 26) := QN_4.out.keep HB5.out
  have QM_5 : Hid (Box w5 (w1.heap.size + 1) (.slice a2 t.length c2) (.slice b2 f.length e2) 26) := QM_4.out.keep HB5.out
  have QG_5 : Hid (Box w5 w2.heap.size (.slice aG S.length cG) (.slice bG D.length eG) 26) := QG_4.out.keep HB5.out
  have QW_5 : Hid (Box w5 w3.heap.size (.slice aW S.length cW) (.slice bW D.length eW) 26) := QW_4.out.keep HB5.out
  have N_5 : Hid (Arr w.heap.size w1.heap.size w5 (.agg #[.slice a1 s.length c1, .slice b1 d.length e1]) s d) := N_4.out.keep HB5.out
  have M_5 : Hid (Arr w.heap.size w1.heap.size w5 (.agg #[.slice a2 t.length c2, .slice b2 f.length e2]) t f) := M_4.out.keep HB5.out
  have G_5 : Hid (Arr (w1.heap.size + 2) w2.heap.size w5 (.agg #[.slice aG S.length cG, .slice bG D.length eG]) S D) := G_4.out.keep HB5.out
  have O_5 : Hid (Arr (w3.heap.size + 1) w4.heap.size w5 (.agg #[.slice aO 0 cO, .slice bO 1 eO]) [] [1]) := O_4.out.keep HB5.out
  have QO_5 : Hid (Box w5 w4.heap.size (.slice aO 0 cO) (.slice bO 1 eO) 26) := (box_new w4 _ _ _).keep hb
  have LTQO : Hid (w4.heap.size < w5.heap.size) := QO_5.out.lt
  clear QN_4 QM_4 QG_4 QW_4 N_4 M_4 G_4 O_4 QNc0 QNc1 QNd0 QNd1 QMc0 QMc1 QMd0 QMd1 QGc0 QGc1 QGd0 QGd1 QWc0 QWc1 QWd0 QWd1 hb
  have QNc0 := QN_5.out.c0
  have QNc1 := QN_5.out.c1
  have QNd0 : ∀ o : Obj, (w5.alloc o).cell? ⟨w1.heap.size, 0, none⟩ = some (.slice a1 s.length c1) := fun o => (QN_5.out.keep (bAlloc (Below.refl _ _) o)).c0
  have QNd1 : ∀ o : Obj, (w5.alloc o).cell? ⟨w1.heap.size, 1, none⟩ = some (.slice b1 d.length e1) := fun o => (QN_5.out.keep (bAlloc (Below.refl _ _) o)).c1
  have QMc0 := QM_5.out.c0
  have QMc1 := QM_5.out.c1
  have QMd0 : ∀ o : Obj, (w5.alloc o).cell? ⟨(w1.heap.size + 1), 0, none⟩ = some (.slice a2 t.length c2) := fun o => (QM_5.out.keep (bAlloc (Below.refl _ _) o)).c0
  have QMd1 : ∀ o : Obj, (w5.alloc o).cell? ⟨(w1.heap.size + 1), 1, none⟩ = some (.slice b2 f.length e2) := fun o => (QM_5.out.keep (bAlloc (Below.refl _ _) o)).c1
  have QGc0 := QG_5.out.c0
  have QGc1 := QG_5.out.c1
  have QGd0 : ∀ o : Obj, (w5.alloc o).cell? ⟨w2.heap.size, 0, none⟩ = some (.slice aG S.length cG) := fun o => (QG_5.out.keep (bAlloc (Below.refl _ _) o)).c0
  have QGd1 : ∀ o : Obj, (w5.alloc o).cell? ⟨w2.heap.size, 1, none⟩ = some (.slice bG D.length eG) := fun o => (QG_5.out.keep (bAlloc (Below.refl _ _) o)).c1
  have QWc0 := QW_5.out.c0
  have QWc1 := QW_5.out.c1
  have QWd0 : ∀ o : Obj, (w5.alloc o).cell? ⟨w3.heap.size, 0, none⟩ = some (.slice aW S.length cW) := fun o => (QW_5.out.keep (bAlloc (Below.refl _ _) o)).c0
  have QWd1 : ∀ o : Obj, (w5.alloc o).cell? ⟨w3.heap.size, 1, none⟩ = some (.slice bW D.length eW) := fun o => (QW_5.out.keep (bAlloc (Below.refl _ _) o)).c1
  have QOc0 := QO_5.out.c0
  have QOc1 := QO_5.out.c1
  have QOd0 : ∀ o : Obj, (w5.alloc o).cell? ⟨w4.heap.size, 0, none⟩ = some (.slice aO 0 cO) := fun o => (QO_5.out.keep (bAlloc (Below.refl _ _) o)).c0
  have QOd1 : ∀ o : Obj, (w5.alloc o).cell? ⟨w4.heap.size, 1, none⟩ = some (.slice bO 1 eO) := fun o => (QO_5.out.keep (bAlloc (Below.refl _ _) o)).c1
  go_wp2_with fail
  refine (OKS.out _ _ ((M_5.out.arrI).keep (bAlloc (Below.refl _ _) _))).mono ?_
  rintro r w6 ⟨rfl, hb⟩
  have HB6 : Hid (Below w5.heap.size w5 w6) := bTrans (bAlloc (Below.refl _ _) _) hb
  have HT6 : Hid (Below w.heap.size w w6) := bTrans HT5.out HB6.out
  have SZ6 : Hid (w5.heap.size ≤ w6.heap.size) := HB6.out.size
  have QN_6 : Hid (Box w6 w1.heap.size (.slice a1 s.length c1) (.slice b1 d.length e1) 26) := QN_5.out.keep HB6.out
  have QM_6 : Hid (Box w6 (w1.heap.size + 1) (.slice a2 t.length c2) (.slice b2 f.length e2) 26) := QM_5.out.keep HB6.out
  have QG_6 : Hid (Box w6 w2.heap.size (.slice aG S.length cG) (.slice bG D.length eG) 26) := QG_5.out.keep HB6.out
  have QW_6 : Hid (Box w6 w3.heap.size (.slice aW S.length cW) (.slice bW D.length eW) 26) := QW_5.out.keep HB6.out
  have QO_6 : Hid (Box w6 w4.heap.size (.slice aO 0 cO) (.slice bO 1 eO) 26) := QO_5.out.keep HB6.out
  have N_6 : Hid (Arr w.heap.size w1.heap.size w6 (.agg #[.slice a1 s.length c1, .slice b1 d.length e1]) s d) := N_5.out.keep HB6.out
  have M_6 : Hid (Arr w.heap.size w1.heap.size w6 (.agg #[.slice a2 t.length c2, .slice b2 f.length e2]) t f) := M_5.out.keep HB6.out
  have G_6 : Hid (Arr (w1.heap.size + 2) w2.heap.size w6 (.agg #[.slice aG S.length cG, .slice bG D.length eG]) S D) := G_5.out.keep HB6.out
  have O_6 : Hid (Arr (w3.heap.size + 1) w4.heap.size w6 (.agg #[.slice aO 0 cO, .slice bO 1 eO]) [] [1]) := O_5.out.keep HB6.out
  have Z_6 : Hid (Arr (w4.heap.size + 1) w5.heap.size w6 (.agg #[.slice aZ 0 cZ, .slice bZ 1 eZ]) [] [0]) := Z_5.out.keep HB6.out
  have QZ_6 : Hid (Box w6 w5.heap.size (.slice aZ 0 cZ) (.slice bZ 1 eZ) 26) := (box_new w5 _ _ _).keep hb
  have LTQZ : Hid (w5.heap.size < w6.heap.size) := QZ_6.out.lt
  clear QN_5 QM_5 QG_5 QW_5 QO_5 N_5 M_5 G_5 O_5 Z_5 QNc0 QNc1 QNd0 QNd1 QMc0 QMc1 QMd0 QMd1 QGc0 QGc1 QGd0 QGd1 QWc0 QWc1 QWd0 QWd1 QOc0 QOc1 QOd0 QOd1 hb
  have QNc0 := QN_6.out.c0
  have QNc1 := QN_6.out.c1
  have QMc0 := QM_6.out.c0
  have QMc1 := QM_6.out.c1
  have QGc0 := QG_6.out.c0
  have QGc1 := QG_6.out.c1
  have QWc0 := QW_6.out.c0
  have QWc1 := QW_6.out.c1
  have QOc0 := QO_6.out.c0
  have QOc1 := QO_6.out.c1
  have QZc0 := QZ_6.out.c0
  have QZc1 := QZ_6.out.c1
  by_cases ho : arrOk t f = true
  · rw [ho]
    by_cases ht : t = []
    · have hl0 : decide ((0 : Int) < (t.length : Int)) = false := by rw [ht]; rfl
      have hl1 : ¬ (0 : Int) < (t.length : Int) := by rw [ht]; simp
      have hc : C ≠ 0 := fun e => (FG.out e).2.2.1 ht
      clear ht
      have n0 : (C != 0) = true := by simpa using hc
      have hl : ((D.length : Int) == 0) = true := by rw [FB.out hc]; rfl
      have hl2 : D.length = 0 := FB.out hc
      clear FG FB FL E1 E0
      go_wp2
      go_ret
      exact ⟨rfl, bTrans HT6.out (Below.refl _ _)⟩
    · have hl1 : (0 : Int) < (t.length : Int) := by have : t.length ≠ 0 := fun e => ht (List.eq_nil_of_length_eq_zero e); omega
      have hl0 : decide ((0 : Int) < (t.length : Int)) = true := by simpa using hl1
      have E1' : Hid (∀ (W : World) (u0 : Value) (_ : ArrI W u0 [] [1]) (u1 : Value) (_ : ArrI W u1 t f), Calls Try.prog 28 #[u0, u1] W fun e w' => ∃ v, e = .returned (.tuple #[v, .int .i64 0]) ∧ Arr W.heap.size w'.heap.size w' v t f ∧ Below W.heap.size W w') := E1.out ho ht
      have E0' : Hid (∀ (W : World) (u0 : Value) (_ : ArrI W u0 [] [0]) (u1 : Value) (_ : ArrI W u1 t f), Calls Try.prog 28 #[u0, u1] W fun e w' => ∃ v, e = .returned (.tuple #[v, .int .i64 0]) ∧ Arr W.heap.size w'.heap.size w' v T0 DZ ∧ Below W.heap.size W w') := E0.out ho ht
      clear E1 E0 ho ht
      go_wp2_with fail
      refine (E1'.out _ _ (O_6.out.arrI) _ (M_6.out.arrI)).mono ?_
      rintro r w7 ⟨vX, rfl, ha, hb⟩
      obtain ⟨aX, cX, bX, eX, rfl, _, _, _, _⟩ := ha.arrI
      have X_7 : Hid (Arr w6.heap.size w7.heap.size w7 (.agg #[.slice aX t.length cX, .slice bX f.length eX]) t f) := ha.mono (by first | exact Nat.le_refl _ | simp | (simp; omega)) (Nat.le_refl _)
      clear ha
      have HB7 : Hid (Below w6.heap.size w6 w7) := hb
      have HT7 : Hid (Below w.heap.size w w7) := bTrans HT6.out HB7.out
      have SZ7 : Hid (w6.heap.size ≤ w7.heap.size) := HB7.out.size
      have QN_7 : Hid (Box w7 w1.heap.size (.slice a1 s.length c1) (.slice b1 d.length e1) 26) := QN_6.out.keep HB7.out
      have QM_7 : Hid (Box w7 (w1.heap.size + 1) (.slice a2 t.length c2) (.slice b2 f.length e2) 26) := QM_6.out.keep HB7.out
      have QG_7 : Hid (Box w7 w2.heap.size (.slice aG S.length cG) (.slice bG D.length eG) 26) := QG_6.out.keep HB7.out
      have QW_7 : Hid (Box w7 w3.heap.size (.slice aW S.length cW) (.slice bW D.length eW) 26) := QW_6.out.keep HB7.out
      have QO_7 : Hid (Box w7 w4.heap.size (.slice aO 0 cO) (.slice bO 1 eO) 26) := QO_6.out.keep HB7.out
      have QZ_7 : Hid (Box w7 w5.heap.size (.slice aZ 0 cZ) (.slice bZ 1 eZ) 26) := QZ_6.out.keep HB7.out
      have N_7 : Hid (Arr w.heap.size w1.heap.size w7 (.agg #[.slice a1 s.length c1, .slice b1 d.length e1]) s d) := N_6.out.keep HB7.out
      have M_7 : Hid (Arr w.heap.size w1.heap.size w7 (.agg #[.slice a2 t.length c2, .slice b2 f.length e2]) t f) := M_6.out.keep HB7.out
      have G_7 : Hid (Arr (w1.heap.size + 2) w2.heap.size w7 (.agg #[.slice aG S.length cG, .slice bG D.length eG]) S D) := G_6.out.keep HB7.out
      have O_7 : Hid (Arr (w3.heap.size + 1) w4.heap.size w7 (.agg #[.slice aO 0 cO, .slice bO 1 eO]) [] [1]) := O_6.out.keep HB7.out
      have Z_7 : Hid (Arr (w4.heap.size + 1) w5.heap.size w7 (.agg #[.slice aZ 0 cZ, .slice bZ 1 eZ]) [] [0]) := Z_6.out.keep HB7.out
      clear QN_6 QM_6 QG_6 QW_6 QO_6 QZ_6 N_6 M_6 G_6 O_6 Z_6 QNc0 QNc1 QMc0 QMc1 QGc0 QGc1 QWc0 QWc1 QOc0 QOc1 QZc0 QZc1 hb
      have QNc0 := QN_7.out.c0
      have QNc1 := QN_7.out.c1
      have QNd0 : ∀ o : Obj, (w7.alloc o).cell? ⟨w1.heap.size, 0, none⟩ = some (.slice a1 s.length c1) := fun o => (QN_7.out.keep (bAlloc (Below.refl _ _) o)).c0
      have QNd1 : ∀ o : Obj, (w7.alloc o).cell? ⟨w1.heap.size, 1, none⟩ = some (.slice b1 d.length e1) := fun o => (QN_7.out.keep (bAlloc (Below.refl _ _) o)).c1
      have QMc0 := QM_7.out.c0
      have QMc1 := QM_7.out.c1
      have QMd0 : ∀ o : Obj, (w7.alloc o).cell? ⟨(w1.heap.size + 1), 0, none⟩ = some (.slice a2 t.length c2) := fun o => (QM_7.out.keep (bAlloc (Below.refl _ _) o)).c0
      have QMd1 : ∀ o : Obj, (w7.alloc o).cell? ⟨(w1.heap.size + 1), 1, none⟩ = some (.slice b2 f.length e2) := fun o => (QM_7.out.keep (bAlloc (Below.refl _ _) o)).c1
      have QGc0 := QG_7.out.c0
      have QGc1 := QG_7.out.c1
      have QGd0 : ∀ o : Obj, (w7.alloc o).cell? ⟨w2.heap.size, 0, none⟩ = some (.slice aG S.length cG) := fun o => (QG_7.out.keep (bAlloc (Below.refl _ _) o)).c0
      have QGd1 : ∀ o : Obj, (w7.alloc o).cell? ⟨w2.heap.size, 1, none⟩ = some (.slice bG D.length eG) := fun o => (QG_7.out.keep (bAlloc (Below.refl _ _) o)).c1
      have QWc0 := QW_7.out.c0
      have QWc1 := QW_7.out.c1
      have QWd0 : ∀ o : Obj, (w7.alloc o).cell? ⟨w3.heap.size, 0, none⟩ = some (.slice aW S.length cW) := fun o => (QW_7.out.keep (bAlloc (Below.refl _ _) o)).c0
      have QWd1 : ∀ o : Obj, (w7.alloc o).cell? ⟨w3.heap.size, 1, none⟩ = some (.slice bW D.length eW) := fun o => (QW_7.out.keep (bAlloc (Below.refl _ _) o)).c1
      have QOc0 := QO_7.out.c0
      have QOc1 := QO_7.out.c1
      have QOd0 : ∀ o : Obj, (w7.alloc o).cell? ⟨w4.heap.size, 0, none⟩ = some (.slice aO 0 cO) := fun o => (QO_7.out.keep (bAlloc (Below.refl _ _) o)).c0
      have QOd1 : ∀ o : Obj, (w7.alloc o).cell? ⟨w4.heap.size, 1, none⟩ = some (.slice bO 1 eO) := fun o => (QO_7.out.keep (bAlloc (Below.refl _ _) o)).c1
      have QZc0 := QZ_7.out.c0
      have QZc1 := QZ_7.out.c1
      have QZd0 : ∀ o : Obj, (w7.alloc o).cell? ⟨w5.heap.size, 0, none⟩ = some (.slice aZ 0 cZ) := fun o => (QZ_7.out.keep (bAlloc (Below.refl _ _) o)).c0
      have QZd1 : ∀ o : Obj, (w7.alloc o).cell? ⟨w5.heap.size, 1, none⟩ = some (.slice bZ 1 eZ) := fun o => (QZ_7.out.keep (bAlloc (Below.refl _ _) o)).c1
      go_wp2_with fail
      refine (E0'.out _ _ ((Z_7.out.arrI).keep (bAlloc (Below.refl _ _) _)) _ ((M_7.out.arrI).keep (bAlloc (Below.refl _ _) _))).mono ?_
      rintro r w8 ⟨vY, rfl, ha, hb⟩
      obtain ⟨aY, cY, bY, eY, rfl, _, _, _, _⟩ := ha.arrI
      have Y_8 : Hid (Arr (w7.heap.size + 1) w8.heap.size w8 (.agg #[.slice aY T0.length cY, .slice bY DZ.length eY]) T0 DZ) := ha.mono (by first | exact Nat.le_refl _ | simp | (simp; omega)) (Nat.le_refl _)
      clear ha
      have HB8 : Hid (Below w7.heap.size w7 w8) := bTrans (bAlloc (Below.refl _ _) _) hb
      have HT8 : Hid (Below w.heap.size w w8) := bTrans HT7.out HB8.out
      have SZ8 : Hid (w7.heap.size ≤ w8.heap.size) := HB8.out.size
      have QN_8 : Hid (Box w8 w1.heap.size (.slice a1 s.length c1) (.slice b1 d.length e1) 26) := QN_7.out.keep HB8.out
      have QM_8 : Hid (Box w8 (w1.heap.size + 1) (.slice a2 t.length c2) (.slice b2 f.length e2) 26) := QM_7.out.keep HB8.out
      have QG_8 : Hid (Box w8 w2.heap.size (.slice aG S.length cG) (.slice bG D.length eG) 26) := QG_7.out.keep HB8.out
      have QW_8 : Hid (Box w8 w3.heap.size (.slice aW S.length cW) (.slice bW D.length eW) 26) := QW_7.out.keep HB8.out
      have QO_8 : Hid (Box w8 w4.heap.size (.slice aO 0 cO) (.slice bO 1 eO) 26) := QO_7.out.keep HB8.out
      have QZ_8 : Hid (Box w8 w5.heap.size (.slice aZ 0 cZ) (.slice bZ 1 eZ) 26) := QZ_7.out.keep HB8.out
      have N_8 : Hid (Arr w.heap.size w1.heap.size w8 (.agg #[.slice a1 s.length c1, .slice b1 d.length e1]) s d) := N_7.out.keep HB8.out
      have M_8 : Hid (Arr w.heap.size w1.heap.size w8 (.agg #[.slice a2 t.length c2, .slice b2 f.length e2]) t f) := M_7.out.keep HB8.out
      have G_8 : Hid (Arr (w1.heap.size + 2) w2.heap.size w8 (.agg #[.slice aG S.length cG, .slice bG D.length eG]) S D) := G_7.out.keep HB8.out
      have Z_8 : Hid (Arr (w4.heap.size + 1) w5.heap.size w8 (.agg #[.slice aZ 0 cZ, .slice bZ 1 eZ]) [] [0]) := Z_7.out.keep HB8.out
      have X_8 : Hid (Arr w6.heap.size w7.heap.size w8 (.agg #[.slice aX t.length cX, .slice bX f.length eX]) t f) := X_7.out.keep HB8.out
      have QX_8 : Hid (Box w8 w7.heap.size (.slice aX t.length cX) (.slice bX f.length eX) 26) := (box_new w7 _ _ _).keep hb
      have LTQX : Hid (w7.heap.size < w8.heap.size) := QX_8.out.lt
      clear QN_7 QM_7 QG_7 QW_7 QO_7 QZ_7 N_7 M_7 G_7 Z_7 X_7 QNc0 QNc1 QNd0 QNd1 QMc0 QMc1 QMd0 QMd1 QGc0 QGc1 QGd0 QGd1 QWc0 QWc1 QWd0 QWd1 QOc0 QOc1 QOd0 QOd1 QZc0 QZc1 QZd0 QZd1 hb
      have QNc0 := QN_8.out.c0
      have QNc1 := QN_8.out.c1
      have QNd0 : ∀ o : Obj, (w8.alloc o).cell? ⟨w1.heap.size, 0, none⟩ = some (.slice a1 s.length c1) := fun o => (QN_8.out.keep (bAlloc (Below.refl _ _) o)).c0
      have QNd1 : ∀ o : Obj, (w8.alloc o).cell? ⟨w1.heap.size, 1, none⟩ = some (.slice b1 d.length e1) := fun o => (QN_8.out.keep (bAlloc (Below.refl _ _) o)).c1
      have QMc0 := QM_8.out.c0
      have QMc1 := QM_8.out.c1
      have QMd0 : ∀ o : Obj, (w8.alloc o).cell? ⟨(w1.heap.size + 1), 0, none⟩ = some (.slice a2 t.length c2) := fun o => (QM_8.out.keep (bAlloc (Below.refl _ _) o)).c0
      have QMd1 : ∀ o : Obj, (w8.alloc o).cell? ⟨(w1.heap.size + 1), 1, none⟩ = some (.slice b2 f.length e2) := fun o => (QM_8.out.keep (bAlloc (Below.refl _ _) o)).c1
      have QGc0 := QG_8.out.c0
      have QGc1 := QG_8.out.c1
      have QGd0 : ∀ o : Obj, (w8.alloc o).cell? ⟨w2.heap.size, 0, none⟩ = some (.slice aG S.length cG) := fun o => (QG_8.out.keep (bAlloc (Below.refl _ _) o)).c0
      have QGd1 : ∀ o : Obj, (w8.alloc o).cell? ⟨w2.heap.size, 1, none⟩ = some (.slice bG D.length eG) := fun o => (QG_8.out.keep (bAlloc (Below.refl _ _) o)).c1
      have QWc0 := QW_8.out.c0
      have QWc1 := QW_8.out.c1
      have QWd0 : ∀ o : Obj, (w8.alloc o).cell? ⟨w3.heap.size, 0, none⟩ = some (.slice aW S.length cW) := fun o => (QW_8.out.keep (bAlloc (Below.refl _ _) o)).c0
      have QWd1 : ∀ o : Obj, (w8.alloc o).cell? ⟨w3.heap.size, 1, none⟩ = some (.slice bW D.length eW) := fun o => (QW_8.out.keep (bAlloc (Below.refl _ _) o)).c1
      have QOc0 := QO_8.out.c0
      have QOc1 := QO_8.out.c1
      have QOd0 : ∀ o : Obj, (w8.alloc o).cell? ⟨w4.heap.size, 0, none⟩ = some (.slice aO 0 cO) := fun o => (QO_8.out.keep (bAlloc (Below.refl _ _) o)).c0
      have QOd1 : ∀ o : Obj, (w8.alloc o).cell? ⟨w4.heap.size, 1, none⟩ = some (.slice bO 1 eO) := fun o => (QO_8.out.keep (bAlloc (Below.refl _ _) o)).c1
      have QZc0 := QZ_8.out.c0
      have QZc1 := QZ_8.out.c1
      have QZd0 : ∀ o : Obj, (w8.alloc o).cell? ⟨w5.heap.size, 0, none⟩ = some (.slice aZ 0 cZ) := fun o => (QZ_8.out.keep (bAlloc (Below.refl _ _) o)).c0
      have QZd1 : ∀ o : Obj, (w8.alloc o).cell? ⟨w5.heap.size, 1, none⟩ = some (.slice bZ 1 eZ) := fun o => (QZ_8.out.keep (bAlloc (Below.refl _ _) o)).c1
      have QXc0 := QX_8.out.c0
      have QXc1 := QX_8.out.c1
      have QXd0 : ∀ o : Obj, (w8.alloc o).cell? ⟨w7.heap.size, 0, none⟩ = some (.slice aX t.length cX) := fun o => (QX_8.out.keep (bAlloc (Below.refl _ _) o)).c0
      have QXd1 : ∀ o : Obj, (w8.alloc o).cell? ⟨w7.heap.size, 1, none⟩ = some (.slice bX f.length eX) := fun o => (QX_8.out.keep (bAlloc (Below.refl _ _) o)).c1
      go_wp2_with fail
      refine (SA.out _ _ _ ((X_8.out.arrI).keep (bAlloc (Below.refl _ _) _)) ((M_8.out.arrI).keep (bAlloc (Below.refl _ _) _))).mono ?_
      rintro r w9 ⟨rfl, hb⟩
      have HB9 : Hid (Below w8.heap.size w8 w9) := bTrans (bAlloc (Below.refl _ _) _) hb
      have HT9 : Hid (Below w.heap.size w w9) := bTrans HT8.out HB9.out
      have SZ9 : Hid (w8.heap.size ≤ w9.heap.size) := HB9.out.size
      have QN_9 : Hid (Box w9 w1.heap.size (.slice a1 s.length c1) (.slice b1 d.length e1) 26) := QN_8.out.keep HB9.out
      have QM_9 : Hid (Box w9 (w1.heap.size + 1) (.slice a2 t.length c2) (.slice b2 f.length e2) 26) := QM_8.out.keep HB9.out
      have QG_9 : Hid (Box w9 w2.heap.size (.slice aG S.length cG) (.slice bG D.length eG) 26) := QG_8.out.keep HB9.out
      have QW_9 : Hid (Box w9 w3.heap.size (.slice aW S.length cW) (.slice bW D.length eW) 26) := QW_8.out.keep HB9.out
      have QO_9 : Hid (Box w9 w4.heap.size (.slice aO 0 cO) (.slice bO 1 eO) 26) := QO_8.out.keep HB9.out
      have QZ_9 : Hid (Box w9 w5.heap.size (.slice aZ 0 cZ) (.slice bZ 1 eZ) 26) := QZ_8.out.keep HB9.out
      have QX_9 : Hid (Box w9 w7.heap.size (.slice aX t.length cX) (.slice bX f.length eX) 26) := QX_8.out.keep HB9.out
      have N_9 : Hid (Arr w.heap.size w1.heap.size w9 (.agg #[.slice a1 s.length c1, .slice b1 d.length e1]) s d) := N_8.out.keep HB9.out
      have M_9 : Hid (Arr w.heap.size w1.heap.size w9 (.agg #[.slice a2 t.length c2, .slice b2 f.length e2]) t f) := M_8.out.keep HB9.out
      have G_9 : Hid (Arr (w1.heap.size + 2) w2.heap.size w9 (.agg #[.slice aG S.length cG, .slice bG D.length eG]) S D) := G_8.out.keep HB9.out
      have X_9 : Hid (Arr w6.heap.size w7.heap.size w9 (.agg #[.slice aX t.length cX, .slice bX f.length eX]) t f) := X_8.out.keep HB9.out
      have Y_9 : Hid (Arr (w7.heap.size + 1) w8.heap.size w9 (.agg #[.slice aY T0.length cY, .slice bY DZ.length eY]) T0 DZ) := Y_8.out.keep HB9.out
      have QY_9 : Hid (Box w9 w8.heap.size (.slice aY T0.length cY) (.slice bY DZ.length eY) 26) := (box_new w8 _ _ _).keep hb
      have LTQY : Hid (w8.heap.size < w9.heap.size) := QY_9.out.lt
      clear QN_8 QM_8 QG_8 QW_8 QO_8 QZ_8 QX_8 N_8 M_8 G_8 X_8 Y_8 QNc0 QNc1 QNd0 QNd1 QMc0 QMc1 QMd0 QMd1 QGc0 QGc1 QGd0 QGd1 QWc0 QWc1 QWd0 QWd1 QOc0 QOc1 QOd0 QOd1 QZc0 QZc1 QZd0 QZd1 QXc0 QXc1 QXd0 QXd1 hb
      have QNc0 := QN_9.out.c0
      have QNc1 := QN_9.out.c1
      have QMc0 := QM_9.out.c0
      have QMc1 := QM_9.out.c1
      have QGc0 := QG_9.out.c0
      have QGc1 := QG_9.out.c1
      have QWc0 := QW_9.out.c0
      have QWc1 := QW_9.out.c1
      have QOc0 := QO_9.out.c0
      have QOc1 := QO_9.out.c1
      have QZc0 := QZ_9.out.c0
      have QZc1 := QZ_9.out.c1
      have QXc0 := QX_9.out.c0
      have QXc1 := QX_9.out.c1
      have QYc0 := QY_9.out.c0
      have QYc1 := QY_9.out.c1
      by_cases hc : C = 0
      · have HLT := FL.out hc
        obtain ⟨ho1, ho, hne, hDD, hSD, hdp, hof, hoi⟩ := FG.out hc
        subst hc
        have HL9 : Hid (∀ i, i ≤ rowsN t → (toldTo d (fun i => rowAt t f i) i).length ≤ 90000) := HLT
        have HO : Hid (arrOk t f = true) := ho
        have HNE : Hid (t ≠ []) := hne
        have HDD : Hid (D = toldTo d (fun i => rowAt t f i) (rowsN t)) := hDD
        have HSD : Hid (arrOk S D = true) := hSD
        have HDP : Hid (0 < rowsN t → 0 < d.length) := hdp
        have HOF : Hid (∀ i, i < rowsN t → 0 ≤ often d i ∧ often d i ≤ 300) := fun i hi => ⟨(hof i).1, (hoi i hi).1⟩
        have L3F : Hid (f.length ≤ 300) := arrOk_len ho
        have L3D : Hid (d.length ≤ 300) := arrOk_len ho1
        have LDH : Hid (D.length ≤ 1048576) := by have := arrOk_len hSD; show _ ≤ _; omega
        have HRN : Hid (rowsN t ≤ 300) := (rowsN5 ho).1
        clear HLT ho ho1 hne hDD hSD hdp hof hoi FG FB FL
        have em0 : ∀ o : Obj, (w9.alloc o).cell? ⟨(w1.heap.size + 1), 0, none⟩ = some (.slice a2 t.length c2) := fun o => (QM_9.out.keep (bAlloc (Below.refl _ _) o)).c0
        have em1 : ∀ o : Obj, (w9.alloc o).cell? ⟨(w1.heap.size + 1), 1, none⟩ = some (.slice b2 f.length e2) := fun o => (QM_9.out.keep (bAlloc (Below.refl _ _) o)).c1
        go_wp2_with fail
        clear em0 em1
        generalize hW : w9.alloc (.cells #[] 3) = WL
        have BL : Hid (Below w9.heap.size w9 WL) := by rw [← hW]; exact bAlloc (Below.refl _ _) _
        have HWL : Hid (WL = w9.alloc (.cells #[] 3)) := hW.symm
        clear hW QNc0 QNc1 QMc0 QMc1 QGc0 QGc1 QWc0 QWc1 QOc0 QOc1 QZc0 QZc1 QXc0 QXc1 QYc0 QYc1
        refine (CI.out _ _ (M_9.out.arrI.keep BL.out)).mono ?_
        rintro r wR ⟨v2, rfl, hR, hb⟩
        have O0 : Hid (OutQ w9.heap.size wR wR (.slice (some ⟨w9.heap.size, 0, none⟩) 0 0) []) := OutQ.start HWL.out hb
        have BR : Hid (Below w9.heap.size w9 wR) := bTrans BL.out hb
        have SWL : Hid (w9.heap.size + 1 ≤ WL.heap.size) := by show _ ≤ _; rw [HWL.out]; simp
        have RR : Hid (Arrs WL.heap.size wR.heap.size wR v2 F) := hR
        obtain ⟨ra, n, rc, rfl, hn, _⟩ := hR
        have HN : Hid (n = rowsN t) := by have q := rowsF_length t f; rw [if_pos ⟨HO.out, HNE.out⟩, ← HF.out] at q; show _ = _; unfold rowsN; omega
        have HFN : Hid (F.length = 2 * n) := hn
        clear hn hb
        have QA0 : Hid (Box wR w1.heap.size (.slice a1 s.length c1) (.slice b1 d.length e1) 26) := QN_9.out.keep BR.out
        have QB0 : Hid (Box wR w2.heap.size (.slice aG S.length cG) (.slice bG D.length eG) 26) := QG_9.out.keep BR.out
        have NA0 : Hid (Arr w.heap.size w1.heap.size wR (.agg #[.slice a1 s.length c1, .slice b1 d.length e1]) s d) := N_9.out.keep BR.out
        have GA0 : Hid (Arr ((w1.heap.size + 2)) w2.heap.size wR (.agg #[.slice aG S.length cG, .slice bG D.length eG]) S D) := G_9.out.keep BR.out
        have HK1 : Hid (w1.heap.size ≤ w9.heap.size ∧ w1.heap.size < w9.heap.size ∧ w2.heap.size < w9.heap.size ∧ w2.heap.size ≤ w9.heap.size) := by
          have z1 := QN_9.out.lt
          have z2 := QG_9.out.lt
          exact ⟨by omega, z1, z2, by omega⟩
        have HTR : Hid (Below w.heap.size w w9) := HT9.out
        have SZW : Hid (w.heap.size ≤ w9.heap.size) := HT9.out.size
        go_wp2
        go_loopw [17, 19] (fun q i w' => ∃ k : Nat, k ≤ n ∧ i = .int .i64 (k : Int) ∧ OutQ w9.heap.size wR w' q (toldTo d (fun i => rowAt t f i) k)) (fun _ i _ => n - (intOf i).toNat)
        case atStart => exact ⟨0, by omega, rfl, O0.out⟩
        case round =>
          obtain ⟨k, hk, rfl, hO⟩ := hrel
          have HQ : Hid (OutQ w9.heap.size wR wr u17 (toldTo d (fun i => rowAt t f i) k)) := hO
          clear hO
          have hkb : k ≤ 300 := by have := HRN.out; have := HN.out; omega
          by_cases hlt : (k : Int) < (n : Int)
          · have hoft := HOF.out k (by have := HN.out; omega)
            have hdl := HDP.out (by have := HN.out; omega)
            obtain ⟨x, hx⟩ : ∃ x : Nat, often d k = x := ⟨(often d k).toNat, by omega⟩
            have HX : Hid (often d k = (x : Int)) := hx
            have hxb : x ≤ 300 := by omega
            have HLK : Hid ((toldTo d (fun i => rowAt t f i) k).length ≤ 90000) := HL9.out k (by have := HN.out; omega)
            have HTS : Hid (toldTo d (fun i => rowAt t f i) (k + 1) = toldTo d (fun i => rowAt t f i) k ++ (List.replicate x (rowAt t f k)).flatten) := by
              show toldTo d (fun i => rowAt t f i) k ++ (List.replicate (often d k).toNat (rowAt t f k)).flatten = _
              rw [hx]; rfl
            have LR : Hid ((rowAt t f k).length ≤ 300) := by have := L3F.out; show _ ≤ _; unfold rowAt; rw [List.length_take, List.length_drop]; omega
            have hro : F.getD (2 * k + 1) [] = rowAt t f k := by rw [HF.out]; exact rowsF_odd HO.out HNE.out (by have := HN.out; omega)
            have HRO : Hid (F.getD (2 * k + 1) [] = rowAt t f k) := hro
            clear hoft hx hro
            generalize hT : toldTo d (fun i => rowAt t f i) k = TK at *
            clear hT
            go_wp2
            go_loopw [17, 20] (fun q j w' => ∃ m : Nat, m ≤ x ∧ j = .int .i64 (m : Int) ∧ OutQ w9.heap.size wR w' q (TK ++ (List.replicate m (rowAt t f k)).flatten)) (fun _ j _ => x - (intOf j).toNat)
            case atStart => exact ⟨0, by omega, rfl, by simpa using HQ.out⟩
            case round =>
              obtain ⟨m, hm, rfl, hO⟩ := hrel
              have HQ2 : Hid (OutQ w9.heap.size wR wr u17 (TK ++ (List.replicate m (rowAt t f k)).flatten)) := hO
              have QA : Hid (Box wr w1.heap.size (.slice a1 s.length c1) (.slice b1 d.length e1) 26) := QA0.out.win hO.win (.inl HK1.out.2.1)
              have q1 := QA.out.c1
              obtain ⟨_, _, _, _, ev, _, i1, _, _⟩ := (NA0.out.win hO.win (.inl HK1.out.1)).arrI
              cases ev
              have hmod : k % d.length < d.length := Nat.mod_lt _ hdl
              obtain ⟨p1, o1, rfl, hp1, t1⟩ := i1.at hmod
              have hox : d.getD (k % d.length) 0 = (x : Int) := HX.out
              rw [hox] at t1
              have htm : Int.tmod (k : Int) (d.length : Int) = ((k % d.length : Nat) : Int) := rfl
              have hne0 : ¬ (d.length : Int) = 0 := by omega
              have hne1 : ((d.length : Int) == 0) = false := by rw [beq_eq_false_iff_ne]; omega
              have hmi : ((k % d.length : Nat) : Int) < (d.length : Int) := by omega
              have L3 : (d.length : Int) ≤ 300 := by have := L3D.out; omega
              clear hO i1
              generalize hKM : k % d.length = km at *
              by_cases hlm : (m : Int) < (x : Int)
              · have hdec : decide ((m : Int) < (x : Int)) = true := by simpa using hlm
                have HLM : Hid ((TK ++ (List.replicate m (rowAt t f k)).flatten).length ≤ 180000) := by
                  have l1 := HLK.out
                  have l2 := LR.out
                  show _ ≤ _
                  rw [List.length_append]
                  have e : ((List.replicate m (rowAt t f k)).flatten).length = m * (rowAt t f k).length := by simp
                  have e2 : m * (rowAt t f k).length ≤ 300 * 300 := Nat.mul_le_mul (by omega) l2
                  omega
                have hro := HRO.out
                obtain ⟨o, off, x0, y0, rfl, hob, z0, z1, j0, j1⟩ := (RR.out.win HQ2.out.win (.inr SWL.out)).arrsI.at (k := k) (by omega)
                rw [hro] at j1
                obtain ⟨ay, cy, rfl, giy, iy⟩ := j1
                have IY : Hid (Ints wr ay (rowAt t f k)) := iy
                have APP : Hid (TK ++ (List.replicate m (rowAt t f k)).flatten ++ rowAt t f k = TK ++ (List.replicate (m + 1) (rowAt t f k)).flatten) := by
                  show _ = _
                  rw [List.replicate_succ', List.flatten_append, ← List.append_assoc]
                  simp
                clear hro j0 giy iy
                go_wp2_with fail
                go_quiet (fail)
                obtain ⟨a', c', w', hrun, hO2⟩ := (HQ2.out.drewN nq).grow (IY.out.keep (bDrewN (Below.refl _ _) nq)) (by have := HLM.out; have := LR.out; omega) cy
                have HO2 : Hid (OutQ w9.heap.size wR w' (.slice a' (TK ++ (List.replicate m (rowAt t f k)).flatten ++ rowAt t f k).length c') (TK ++ (List.replicate m (rowAt t f k)).flatten ++ rowAt t f k)) := hO2
                have RUN : Hid ((Builtin.append_ #[24, 24] 24 #[u17, .slice ay (rowAt t f k).length cy]).run Try.prog (wr.drewN nq) = .ok (.slice a' (TK ++ (List.replicate m (rowAt t f k)).flatten ++ rowAt t f k).length c') w') := hrun
                clear hrun hO2
                generalize (TK ++ (List.replicate m (rowAt t f k)).flatten ++ rowAt t f k).length = LL at *
                go_wp2_with (at_builtin; refine wpList_append_ty rfl _ _ 24 24 rfl _ _ _ rfl rfl RUN.out ?_)
                go_roundw
                case rel => exact ⟨m + 1, by omega, by go_num, by have q := HO2.out; rw [APP.out] at q; exact q⟩
                case measure => simp [intOf]; omega
              · have hdec : decide ((m : Int) < (x : Int)) = false := by simpa using hlm
                go_wp2_with fail
                go_quiet (fail)
                go_wp2
                go_roundw
                case rel => exact ⟨k + 1, by omega, by go_num, by obtain rfl : m = x := by omega
                                                                  rw [HTS.out]; exact HQ2.out.drewN _⟩
                case measure => simp [intOf]; omega
          · have HKN : Hid (k = rowsN t) := by have := HN.out; show _ = _; omega
            obtain ⟨ao, co, ev, io⟩ := HQ.out.row.ints
            have HPL : Hid ((toldTo d (fun i => rowAt t f i) k).length = D.length) := by show _ = _; rw [HDD.out, ← HKN.out]
            rw [HPL.out] at ev
            subst ev
            have IO : Hid (Ints wr ao D) := by rw [HDD.out, ← HKN.out]; exact io
            have QB : Hid (Box wr w2.heap.size (.slice aG S.length cG) (.slice bG D.length eG) 26) := QB0.out.win HQ.out.win (.inl HK1.out.2.2.1)
            have GI : Hid (ArrI wr (.agg #[.slice aG S.length cG, .slice bG D.length eG]) S D) := (GA0.out.win HQ.out.win (.inl HK1.out.2.2.2)).arrI
            have BW : Hid (Below w9.heap.size w9 wr) := BR.out.trans (HQ.out.win.below (Nat.le_refl _) BR.out.size)
            have q0 := QB.out.c0
            have q1 := QB.out.c1
            have SI : Hid (Calls Try.prog 21 #[.slice ao D.length co, .slice bG D.length eG] wr fun e w' => e = .returned (.bool true) ∧ Below wr.heap.size wr w') := by
              obtain ⟨_, _, _, _, ev, _, i2, _, _⟩ := GI.out
              cases ev
              refine (same_ints co eG (by have := LDH.out; omega) IO.out i2).mono ?_
              rintro r w' ⟨rfl, n, rfl⟩
              exact ⟨by simp, bDrewN (Below.refl _ _) n⟩
            clear io HKN HPL HQ
            go_wp2_with fail
            refine (SI.out).mono ?_
            rintro r wy ⟨rfl, hb⟩
            have BY : Hid (Below wr.heap.size wr wy) := hb
            have y0 := (QB.out.keep hb).c0
            have y1 := (QB.out.keep hb).c1
            clear hb
            go_wp2_with fail
            refine (arrOk_impl (GI.out.keep BY.out) LDH.out).mono ?_
            rintro r wz ⟨rfl, hb⟩
            have BZ : Hid (Below wr.heap.size wr wz) := bTrans BY.out hb
            clear hb y0 y1
            rw [HSD.out]
            go_wp2
            go_ret
            exact ⟨rfl, bTrans HTR.out (BW.out.trans (BZ.out.mono BW.out.size))⟩
      · have n0 : (C != 0) = true := by simpa using hc
        have hl : ((D.length : Int) == 0) = true := by rw [FB.out hc]; rfl
        have hl2 : D.length = 0 := FB.out hc
        clear FG FB FL
        go_wp2
        go_ret
        exact ⟨rfl, bTrans HT9.out (Below.refl _ _)⟩
  · have ho' : arrOk t f = false := by simpa using ho
    rw [ho']
    have hc : C ≠ 0 := fun e => ho (FG.out e).2.1
    clear ho ho'
    have n0 : (C != 0) = true := by simpa using hc
    have hl : ((D.length : Int) == 0) = true := by rw [FB.out hc]; rfl
    have hl2 : D.length = 0 := FB.out hc
    clear FG FB FL E1 E0
    go_wp2
    go_ret
    exact ⟨rfl, bTrans HT6.out (Below.refl _ _)⟩

/-! ### THE ROW's STEP: WRITTEN OUT: LEAVE IT -/
set_option maxRecDepth 100000 in
theorem lifted (os : Os) (started : os.Started) (H : Type) (enc : TypeId × Value → H) :
    ReturnsInHanded {} Try.checked os 7 .any (Rows.fnCopiedSpec.pre6 enc Try.prog Try.f7 Rows.fnCopiedRow.domain false) (Rows.fnCopiedSpec.post enc Try.prog Try.f7 false true false false) := by
  refine returnsInHanded_of_change (C := Try.checked) own started (by kernel_rfl) Try.func7
    (ChangeSpec.witness6 (enc := enc) (C := Try.checked) false ⟨#[], #[.slice none 0 0], []⟩ 8 (by kernel_rfl) (by kernel_rfl) (by kernel_rfl) (by kernel_rfl)) ?_
  intro W base args ds gs before hval0 hW hcnd _
  have hval : ∀ (j : Nat) t v, Try.f7.params[j]? = some t → args[j]? = some v → Value.okWide Try.prog W .any base t v := hval0
  have hW' := hW
  obtain ⟨p, q, hA0, hV, rfl, hfz, hnd⟩ := hW
  have hA : DataW.TrodAll enc Try.prog W 0 (fun _ => true) true Try.f7.params.toList args.toList ds p := hA0
  rw [Try.params7] at hA hval
  obtain ⟨v0, vs0, d0, ds0, p0, q0, hargs, rfl, rfl, h0, r0⟩ := trodAll_cons hA
  obtain ⟨rfl, rfl, rfl⟩ := trodAll_nil r0
  obtain rfl : args = #[v0] := by cases args; simp_all
  obtain ⟨rfl, rfl⟩ := trodVars_none hV
  obtain ⟨a0, len0, cap0, rfl⟩ := okWide_slice Try.underlying22 (hval 0 22 v0 rfl rfl)
  have k0 := h0
  have lt0 : ∀ x ∈ p0, x.block < W.heap.size := by obtain ⟨m, hm⟩ := k0; exact DataW.trod_lt m _ _ _ hm
  obtain ⟨z0, w0⟩ : ∃ zs, IsRow .u8 W a0 len0 cap0 zs := by
    obtain ⟨fuel, hf⟩ := h0
    rcases open_ints Try.underlying22 Try.underlying5 (by kernel_rfl) hf with ⟨hcs, _⟩ | ⟨x, l, c, zs, hcs, _, hl, hm, hz, _, hcell, hwz⟩
    · simp [Value.cells] at hcs
      obtain ⟨rfl, rfl, rfl⟩ := hcs
      exact ⟨[], .inl ⟨rfl, rfl, rfl, rfl⟩⟩
    · simp [Value.cells] at hcs
      obtain ⟨rfl, rfl, rfl⟩ := hcs
      exact ⟨zs, .inr ⟨_, rfl, hl, hm, by simpa using hz, hcell, hwz⟩⟩
  clear hA0 hval0
  refine (walk a0 len0 cap0 z0 W w0).mono fun e W' ⟨he, bel⟩ => ?_
  subst he
  exact ⟨_, rfl, _, _, _, [], _, [], hW', trodAll_mk1 (shut_bool Try.underlying4 _), (trodAll_cons_mk (Below.trod laidOut (by kernel_rfl) (of_decide_eq_true (by kernel_rfl)) k0 bel lt0) trodAll_mk0), rfl, bel.frame _, fun h => by cases h⟩

theorem over : Rows.fnCopiedRow.holds Try.pinned (OpenSpec.ofChange Rows.fnCopiedSpec) :=
  OpenClaim.holds_of_wide 7 Try.f7 rfl rfl rfl rfl rfl rfl rfl ⟨rfl, rfl, rfl, rfl, rfl⟩ rfl rfl rfl rfl rfl (by kernel_rfl) Try.func7 (by kernel_rfl)
    (of_decide_eq_true (by kernel_rfl)) (by unfold Func.isWrapper; first | (rw [if_pos (by decide +kernel)]; kernel_rfl) | (rw [if_neg (by decide +kernel)]; exact ⟨rfl, rfl⟩))
    (fun os started H enc _ => lifted os started H enc)

/-- ████ THE STATEMENT ████ -/
theorem proved : Rows.FnCopiedSaid := over
end Go.Proofs.Ythjjjnapcbkhjaa.fnCopied
namespace Go.Proofs.Ythjjjnapcbkhjaa
theorem fnCopied_holds : Rows.FnCopiedSaid := fnCopied.proved
#print axioms fnCopied_holds
end Go.Proofs.Ythjjjnapcbkhjaa
