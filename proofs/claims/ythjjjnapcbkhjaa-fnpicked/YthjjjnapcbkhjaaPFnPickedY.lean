/-
  Proved: whatever code it is given, the law FnPicked returns true (what is picked of a drawn array are the rows of these numbers, counted from the end where they are below nought). No condition.
-/
import Derived.Test.YthjjjnapcbkhjaaRows
import Derived.WalkKit
import Derived.ProofKit
import Derived.OpenShut
import Derived.ShutString
import Derived.ChangeOld
import Derived.Below
import Derived.Test.YthjjjnapcbkhjaaZ1
import Derived.Test.YthjjjnapcbkhjaaZ2
import Derived.Test.YthjjjnapcbkhjaaSpecPick
import Derived.Test.YthjjjnapcbkhjaaImplArr3
import Derived.Test.YthjjjnapcbkhjaaLaw3
namespace Go.Proofs.Ythjjjnapcbkhjaa.fnPicked
open Go.ChangeShapes Go.WideShapes Go.ChangeAt Go.RowKit
open Go.ChangeMaps (open_string shut_string)
set_option linter.unusedVariables false
set_option linter.unusedSimpArgs false
set_option linter.unusedVariables false

theorem own : ownKnob Try.prog.godebug = none := by kernel_rfl
theorem laidOut : laidOutB Try.prog = true := by kernel_rfl

/-! ### STEP 1: THE WALK: the Go text returns true, AND WRITES NOTHING THAT WAS THERE: 'Below w.heap.size w w'' (Derived/Below.lean: '.refl', '.alloc', '.drew', '.setCell' at a new block, '.trans'). Open each 'IsRow' by 'rcases' AHEAD of 'go_enter'; part every test ahead of the walk. -/
set_option maxRecDepth 20000 in
set_option maxHeartbeats 8000000 in
theorem walk (a0 : Option Addr) (len0 cap0 : Nat) (z0 : List Int) (w : World) (w0 : IsRow .u8 w a0 len0 cap0 z0) :
    Calls Try.prog 5 #[.slice a0 len0 cap0] w fun e w' => e = .returned (.bool true) ∧ Below w.heap.size w w' := by
  have HS : Hid (Src w.heap.size w a0 len0) := src_of_row w0
  clear w0
  by_cases hbig : (1048576 : Int) < (len0 : Int)
  · go_enter Try.func5, Try.ntmps5
    go_wp2_with (go_at_call 9; refine (big_laws _ _ _ _).mono ?_; rintro e w' ⟨rfl, hw⟩; subst w')
    go_ret
    exact ⟨rfl, Below.refl _ _⟩
  have hb20 : len0 ≤ 1048576 := by omega
  go_enter Try.func5, Try.ntmps5
  go_wp2_with (go_at_call 9; refine (big_laws _ _ _ _).mono ?_; rintro e w' ⟨rfl, hw⟩; subst w')
  refine (drawPick_spec HS.out hb20).mono ?_
  rintro r w1 ⟨v1, v2, s, d, t, f, rfl, ha, hc0, ⟨hls, hld, hlt, hlf⟩, hb⟩
  obtain ⟨a1, c1, b1, e1, rfl, _, _, _, _⟩ := ha.arrI
  obtain ⟨a2, c2, b2, e2, rfl, _, _, _, _⟩ := hc0.arrI
  have N_1 : Hid (Arr w.heap.size w1.heap.size w1 (.agg #[.slice a1 s.length c1, .slice b1 d.length e1]) s d) := ha
  have M_1 : Hid (Arr w.heap.size w1.heap.size w1 (.agg #[.slice a2 t.length c2, .slice b2 f.length e2]) t f) := hc0
  have Ls : Hid (s.length ≤ 1048576) := by show _ ≤ _; omega
  have Ld : Hid (d.length ≤ 1048576) := by show _ ≤ _; omega
  have Lt : Hid (t.length ≤ 1048576) := by show _ ≤ _; omega
  have Lf : Hid (f.length ≤ 1048576) := by show _ ≤ _; omega
  have HT1 : Hid (Below w.heap.size w w1) := hb
  have SZ1 : Hid (w.heap.size ≤ w1.heap.size) := hb.size
  clear hb ha hc0 hls hld hlt hlf
  obtain ⟨C, hC⟩ : ∃ y, y = (pickR s d t f).1 := ⟨_, rfl⟩
  obtain ⟨S, hS⟩ : ∃ y, y = (pickR s d t f).2.1 := ⟨_, rfl⟩
  obtain ⟨D, hD⟩ : ∃ y, y = (pickR s d t f).2.2 := ⟨_, rfl⟩
  obtain ⟨F, hF⟩ : ∃ x, x = rowsF t f := ⟨_, rfl⟩
  have CI : Hid (∀ (W : World) (u : Value), ArrI W u t f → Calls Try.prog 20 #[u] W fun e w' => ∃ v, e = .returned v ∧ Arrs W.heap.size w'.heap.size w' v F ∧ Below W.heap.size W w') := by
    intro W u h
    rw [hF]
    exact rows_impl h Lt.out Lf.out
  have EI : Hid (∀ (W : World) (u0 : Value) (_ : ArrI W u0 s d) (u1 : Value) (_ : ArrI W u1 t f), Calls Try.prog 17 #[u0, u1] W fun e w' => ∃ v, e = .returned (.tuple #[v, .int .i64 C]) ∧ Arr W.heap.size w'.heap.size w' v S D ∧ Below W.heap.size W w') := by
    intro W u0 h0 u1 h1
    rw [hC, hS, hD]
    exact pick_impl h0 h1 Ls.out Ld.out Lt.out Lf.out
  have ES : Hid (∀ (W : World) (u0 : Value) (_ : ArrI W u0 s d) (u1 : Value) (_ : ArrI W u1 t f), Calls Try.prog 19 #[u0, u1] W fun e w' => ∃ v, e = .returned (.tuple #[v, .int .i64 C]) ∧ Arr W.heap.size w'.heap.size w' v S D ∧ Below W.heap.size W w') := by
    intro W u0 h0 u1 h1
    rw [hC, hS, hD]
    exact pickA_spec h0 h1 Ld.out Lf.out
  have FG : Hid (C = 0 → arrOk t f = true ∧ t ≠ [] ∧ D = pickTo d t f d.length ∧ arrOk S D = true ∧ S.length + 1 = s.length + t.length ∧ s.length + t.length ≤ 4 ∧ arrOk s d = true ∧ ∀ j, j < d.length → noRow (t.getD 0 0) (d.getD j 0) = false) := by
    intro h
    rw [hC] at h
    rw [hS, hD]
    exact picked_good h
  have FB : Hid (C ≠ 0 → D.length = 0) := by
    intro h
    rw [hC] at h
    rw [hD, pick_bad h]
    rfl
  have LA : Hid (C = 0 → D.length ≤ 1048576) := by
    intro h
    have q := FG.out h
    have := arrOk_len q.2.2.2.1
    omega
  have HF : Hid (F = rowsF t f) := hF
  have hneC : (C != C) = false := by simp
  clear hC hS hD hF
  go_wp2_with fail
  refine (EI.out _ _ ((N_1.out.arrI).keep (bAlloc (bAlloc (Below.refl _ _) _) _)) _ ((M_1.out.arrI).keep (bAlloc (bAlloc (Below.refl _ _) _) _))).mono ?_
  rintro r w2 ⟨vG, rfl, ha, hb⟩
  obtain ⟨aG, cG, bG, eG, rfl, _, _, _, _⟩ := ha.arrI
  have G_2 : Hid (Arr (w1.heap.size + 2) w2.heap.size w2 (.agg #[.slice aG S.length cG, .slice bG D.length eG]) S D) := ha.mono (by first | exact Nat.le_refl _ | simp | (simp; omega)) (Nat.le_refl _)
  clear ha
  have HB2 : Hid (Below w1.heap.size w1 w2) := bTrans (bAlloc (bAlloc (Below.refl _ _) _) _) hb
  have HT2 : Hid (Below w.heap.size w w2) := bTrans HT1.out HB2.out
  have SZ2 : Hid (w1.heap.size ≤ w2.heap.size) := HB2.out.size
  have N_2 : Hid (Arr w.heap.size w1.heap.size w2 (.agg #[.slice a1 s.length c1, .slice b1 d.length e1]) s d) := N_1.out.keep HB2.out
  have M_2 : Hid (Arr w.heap.size w1.heap.size w2 (.agg #[.slice a2 t.length c2, .slice b2 f.length e2]) t f) := M_1.out.keep HB2.out
  have QN_2 : Hid (Box w2 w1.heap.size (.slice a1 s.length c1) (.slice b1 d.length e1) 26) := ((box_new w1 _ _ _).keep (bAlloc (Below.refl _ _) _)).keep hb
  have LTQN : Hid (w1.heap.size < w2.heap.size) := QN_2.out.lt
  have QM_2 : Hid (Box w2 (w1.heap.size + 1) (.slice a2 t.length c2) (.slice b2 f.length e2) 26) := (box_new2 w1 _ _ _ _).keep hb
  have LTQM : Hid ((w1.heap.size + 1) < w2.heap.size) := QM_2.out.lt
  clear N_1 M_1 hb
  have QNc0 := QN_2.out.c0
  have QNc1 := QN_2.out.c1
  have QNd0 : ∀ o : Obj, (w2.alloc o).cell? ⟨w1.heap.size, 0, none⟩ = some (.slice a1 s.length c1) := fun o => (QN_2.out.keep (bAlloc (Below.refl _ _) o)).c0
  have QNd1 : ∀ o : Obj, (w2.alloc o).cell? ⟨w1.heap.size, 1, none⟩ = some (.slice b1 d.length e1) := fun o => (QN_2.out.keep (bAlloc (Below.refl _ _) o)).c1
  have QMc0 := QM_2.out.c0
  have QMc1 := QM_2.out.c1
  have QMd0 : ∀ o : Obj, (w2.alloc o).cell? ⟨(w1.heap.size + 1), 0, none⟩ = some (.slice a2 t.length c2) := fun o => (QM_2.out.keep (bAlloc (Below.refl _ _) o)).c0
  have QMd1 : ∀ o : Obj, (w2.alloc o).cell? ⟨(w1.heap.size + 1), 1, none⟩ = some (.slice b2 f.length e2) := fun o => (QM_2.out.keep (bAlloc (Below.refl _ _) o)).c1
  go_wp2_with fail
  refine (ES.out _ _ ((N_2.out.arrI).keep (bAlloc (Below.refl _ _) _)) _ ((M_2.out.arrI).keep (bAlloc (Below.refl _ _) _))).mono ?_
  rintro r w3 ⟨vW, rfl, ha, hb⟩
  obtain ⟨aW, cW, bW, eW, rfl, _, _, _, _⟩ := ha.arrI
  have W_3 : Hid (Arr (w2.heap.size + 1) w3.heap.size w3 (.agg #[.slice aW S.length cW, .slice bW D.length eW]) S D) := ha.mono (by first | exact Nat.le_refl _ | simp | (simp; omega)) (Nat.le_refl _)
  clear ha
  have HB3 : Hid (Below w2.heap.size w2 w3) := bTrans (bAlloc (Below.refl _ _) _) hb
  have HT3 : Hid (Below w.heap.size w w3) := bTrans HT2.out HB3.out
  have SZ3 : Hid (w2.heap.size ≤ w3.heap.size) := HB3.out.size
  have QN_3 : Hid (Box w3 w1.heap.size (.slice a1 s.length c1) (.slice b1 d.length e1) 26) := QN_2.out.keep HB3.out
  have QM_3 : Hid (Box w3 (w1.heap.size + 1) (.slice a2 t.length c2) (.slice b2 f.length e2) 26) := QM_2.out.keep HB3.out
  have N_3 : Hid (Arr w.heap.size w1.heap.size w3 (.agg #[.slice a1 s.length c1, .slice b1 d.length e1]) s d) := N_2.out.keep HB3.out
  have M_3 : Hid (Arr w.heap.size w1.heap.size w3 (.agg #[.slice a2 t.length c2, .slice b2 f.length e2]) t f) := M_2.out.keep HB3.out
  have G_3 : Hid (Arr (w1.heap.size + 2) w2.heap.size w3 (.agg #[.slice aG S.length cG, .slice bG D.length eG]) S D) := G_2.out.keep HB3.out
  have QG_3 : Hid (Box w3 w2.heap.size (.slice aG S.length cG) (.slice bG D.length eG) 26) := (box_new w2 _ _ _).keep hb
  have LTQG : Hid (w2.heap.size < w3.heap.size) := QG_3.out.lt
  clear QN_2 QM_2 N_2 M_2 G_2 QNc0 QNc1 QNd0 QNd1 QMc0 QMc1 QMd0 QMd1 hb
  have QNc0 := QN_3.out.c0
  have QNc1 := QN_3.out.c1
  have QNd0 : ∀ o : Obj, (w3.alloc o).cell? ⟨w1.heap.size, 0, none⟩ = some (.slice a1 s.length c1) := fun o => (QN_3.out.keep (bAlloc (Below.refl _ _) o)).c0
  have QNd1 : ∀ o : Obj, (w3.alloc o).cell? ⟨w1.heap.size, 1, none⟩ = some (.slice b1 d.length e1) := fun o => (QN_3.out.keep (bAlloc (Below.refl _ _) o)).c1
  have QMc0 := QM_3.out.c0
  have QMc1 := QM_3.out.c1
  have QMd0 : ∀ o : Obj, (w3.alloc o).cell? ⟨(w1.heap.size + 1), 0, none⟩ = some (.slice a2 t.length c2) := fun o => (QM_3.out.keep (bAlloc (Below.refl _ _) o)).c0
  have QMd1 : ∀ o : Obj, (w3.alloc o).cell? ⟨(w1.heap.size + 1), 1, none⟩ = some (.slice b2 f.length e2) := fun o => (QM_3.out.keep (bAlloc (Below.refl _ _) o)).c1
  have QGc0 := QG_3.out.c0
  have QGc1 := QG_3.out.c1
  have QGd0 : ∀ o : Obj, (w3.alloc o).cell? ⟨w2.heap.size, 0, none⟩ = some (.slice aG S.length cG) := fun o => (QG_3.out.keep (bAlloc (Below.refl _ _) o)).c0
  have QGd1 : ∀ o : Obj, (w3.alloc o).cell? ⟨w2.heap.size, 1, none⟩ = some (.slice bG D.length eG) := fun o => (QG_3.out.keep (bAlloc (Below.refl _ _) o)).c1
  by_cases hc : C = 0
  · obtain ⟨ho, hne, hDD, hSD, hSL, hST, ho1, hno⟩ := FG.out hc
    have LD := LA.out hc
    subst hc
    have HO : Hid (arrOk t f = true) := ho
    have HNE : Hid (t ≠ []) := hne
    have HDD : Hid (D = pickTo d t f d.length) := hDD
    have HSD : Hid (arrOk S D = true) := hSD
    have HNO : Hid (∀ j, j < d.length → noRow (t.getD 0 0) (d.getD j 0) = false) := hno
    have LDH : Hid (D.length ≤ 1048576) := LD
    have hSB : ((S.length : Int) == (s.length : Int) + (t.length : Int) - 1) = true := by simp; omega
    have hSB2 : (s.length : Int) + (t.length : Int) ≤ 4 := by omega
    have L3F : Hid (f.length ≤ 300) := arrOk_len ho
    have L3D : Hid (d.length ≤ 300) := arrOk_len ho1
    have HRN : Hid (rowsN t ≤ 300 ∧ t.getD 0 0 = (rowsN t : Int)) := rowsN5 ho
    clear ho ho1 hne hDD hSD hSL hST hno LD FG FB LA
    go_wp2_with fail
    refine (CI.out _ _ ((M_3.out.arrI).keep (bAlloc (Below.refl _ _) _))).mono ?_
    rintro r w4 ⟨v2, rfl, hR, hb⟩
    have R4 : Hid (ArrsI w4 v2 F) := hR.arrsI
    obtain ⟨ra, n, rc, rfl, hn, _⟩ := hR
    have HN : Hid (n = rowsN t) := by have q := rowsF_length t f; rw [if_pos ⟨HO.out, HNE.out⟩, ← HF.out] at q; show _ = _; unfold rowsN; omega
    clear hn
    have HB4 : Hid (Below w3.heap.size w3 w4) := bTrans (bAlloc (Below.refl _ _) _) hb
    have HT4 : Hid (Below w.heap.size w w4) := bTrans HT3.out HB4.out
    have SZ4 : Hid (w3.heap.size ≤ w4.heap.size) := HB4.out.size
    have QN_4 : Hid (Box w4 w1.heap.size (.slice a1 s.length c1) (.slice b1 d.length e1) 26) := QN_3.out.keep HB4.out
    have QM_4 : Hid (Box w4 (w1.heap.size + 1) (.slice a2 t.length c2) (.slice b2 f.length e2) 26) := QM_3.out.keep HB4.out
    have QG_4 : Hid (Box w4 w2.heap.size (.slice aG S.length cG) (.slice bG D.length eG) 26) := QG_3.out.keep HB4.out
    have N_4 : Hid (Arr w.heap.size w1.heap.size w4 (.agg #[.slice a1 s.length c1, .slice b1 d.length e1]) s d) := N_3.out.keep HB4.out
    have M_4 : Hid (Arr w.heap.size w1.heap.size w4 (.agg #[.slice a2 t.length c2, .slice b2 f.length e2]) t f) := M_3.out.keep HB4.out
    have G_4 : Hid (Arr (w1.heap.size + 2) w2.heap.size w4 (.agg #[.slice aG S.length cG, .slice bG D.length eG]) S D) := G_3.out.keep HB4.out
    have QW_4 : Hid (Box w4 w3.heap.size (.slice aW S.length cW) (.slice bW D.length eW) 26) := (box_new w3 _ _ _).keep hb
    have LTQW : Hid (w3.heap.size < w4.heap.size) := QW_4.out.lt
    clear QN_3 QM_3 QG_3 N_3 M_3 G_3 QNc0 QNc1 QNd0 QNd1 QMc0 QMc1 QMd0 QMd1 QGc0 QGc1 QGd0 QGd1 hb
    have QNc0 := QN_4.out.c0
    have QNc1 := QN_4.out.c1
    have QMc0 := QM_4.out.c0
    have QMc1 := QM_4.out.c1
    have QGc0 := QG_4.out.c0
    have QGc1 := QG_4.out.c1
    have QWc0 := QW_4.out.c0
    have QWc1 := QW_4.out.c1
    go_wp2_with fail
    generalize hW : w4.alloc (.cells #[] 3) = WL
    have BL : Hid (Below w4.heap.size w4 WL) := by rw [← hW]; exact bAlloc (Below.refl _ _) _
    have N0 : Hid (NewInts w4.heap.size WL (.slice (some ⟨w4.heap.size, 0, none⟩) 0 0) []) := by rw [← hW]; exact newInts_alloc w4 [] (Nat.le_refl _) (by simp)
    have HTL : Hid (Below w.heap.size w w4) := HT4.out
    have SZL : Hid (w4.heap.size ≤ WL.heap.size) := BL.out.size
    clear hW
    clear QNc0 QNc1 QMc0 QMc1 QGc0 QGc1 QWc0 QWc1
    go_loopw [10, 11] (fun q i w' => ∃ k : Nat, k ≤ d.length ∧ i = .int .i64 (k : Int) ∧ NewInts w4.heap.size w' q (pickTo d t f k) ∧ Below w4.heap.size w4 w') (fun _ i _ => d.length - (intOf i).toNat)
    case atStart => exact ⟨0, by omega, rfl, by rw [pickTo_zero]; exact N0.out, BL.out⟩
    case round =>
      obtain ⟨k, hk, rfl, hN, hB⟩ := hrel
      have HC : Hid (Below w4.heap.size w4 wr) := hB
      have HNI : Hid (NewInts w4.heap.size wr u10 (pickTo d t f k)) := hN
      have QA : Hid (Box wr w1.heap.size (.slice a1 s.length c1) (.slice b1 d.length e1) 26) := QN_4.out.keep hB
      have QM : Hid (Box wr ((w1.heap.size + 1)) (.slice a2 t.length c2) (.slice b2 f.length e2) 26) := QM_4.out.keep hB
      have QB : Hid (Box wr w2.heap.size (.slice aG S.length cG) (.slice bG D.length eG) 26) := QG_4.out.keep hB
      have q0 := QA.out.c0
      have q1 := QA.out.c1
      have q2 := QB.out.c0
      have q3 := QB.out.c1
      have q4 := QM.out.c0
      have hkb : k ≤ 1048576 := by have := Ld.out; omega
      by_cases hlt : (k : Int) < (d.length : Int)
      · have L : k < d.length := by omega
        obtain ⟨_, _, _, _, ev, _, i1, _, _⟩ := N_4.out.arrI.keep hB
        cases ev
        obtain ⟨p1, o1, rfl, hp1, t1⟩ := i1.at L
        have hnr := HNO.out k L
        have hrb := rowNo_bd hnr
        obtain ⟨r, hr⟩ : ∃ r, r = rowNo (t.getD 0 0) (d.getD k 0) := ⟨_, rfl⟩
        rw [← hr, HRN.out.2, ← HN.out] at hrb
        rw [HRN.out.2, ← HN.out] at hnr
        have hro : F.getD (2 * r + 1) [] = rowAt t f r := by rw [HF.out]; exact rowsF_odd HO.out HNE.out (by have := HN.out; omega)
        obtain ⟨o, off, x0, y0, rfl, hob, z0, z1, j0, j1⟩ := (R4.out.keep hB).at (k := r) (by have q := rowsF_length t f; rw [if_pos ⟨HO.out, HNE.out⟩, ← HF.out] at q; have := HN.out; unfold rowsN at this; omega)
        rw [hro] at j1
        obtain ⟨ay, cy, rfl, giy, iy⟩ := j1
        have IY : Hid (Ints wr ay (rowAt t f r)) := iy
        have LR : Hid ((rowAt t f r).length ≤ 301) := by have := rowAt_le t f r; have := L3F.out; show _ ≤ _; omega
        have LP : Hid ((pickTo d t f k).length ≤ 90601) := by
          have h1 := pickTo_len d t f k
          have h2 : k * f.length ≤ 301 * 301 := Nat.mul_le_mul (by have := L3D.out; omega) (by have := L3F.out; omega)
          show _ ≤ _
          omega
        have HPS : Hid (pickTo d t f (k + 1) = pickTo d t f k ++ rowAt t f r) := by show _ = _; rw [pickTo_succ, hr]
        obtain ⟨a', c', w', hrun, hN2, hB2⟩ := growL HNI.out IY.out hB.size (by have := LR.out; have := LP.out; omega) cy
        have RUN : Hid ((Builtin.append_ #[24, 24] 24 #[u10, .slice ay (rowAt t f r).length cy]).run Try.prog wr = .ok (.slice a' (pickTo d t f k ++ rowAt t f r).length c') w') := hrun
        have HN2 : Hid (NewInts w4.heap.size w' (.slice a' (pickTo d t f k ++ rowAt t f r).length c') (pickTo d t f k ++ rowAt t f r)) := hN2
        have HB2 : Hid (Below w4.heap.size w4 w') := hB.trans hB2
        have hrn : (r : Int) < (n : Int) := by omega
        have hnb : (n : Int) ≤ 300 := by have := HRN.out.1; have := HN.out; omega
        clear hro iy giy j0 hrun hN2 hB2 hN hB hr i1
        generalize d.getD k 0 = x at *
        generalize (pickTo d t f k ++ rowAt t f r).length = LL at *
        by_cases hx : x < 0
        · obtain rfl : x = (r : Int) - (n : Int) := by have := hrb.2; rw [if_pos hx] at this; omega
          clear hrb hnr
          go_wp2_with (at_builtin; refine wpList_append_ty rfl _ _ 24 24 rfl _ _ _ rfl rfl RUN.out ?_)
          go_roundw
          case rel => exact ⟨k + 1, by omega, by go_num, by rw [HPS.out]; exact HN2.out, HB2.out⟩
          case measure => simp [intOf]; omega
        · obtain rfl : x = (r : Int) := by have := hrb.2; rw [if_neg hx] at this; omega
          clear hrb hnr
          go_wp2_with (at_builtin; refine wpList_append_ty rfl _ _ 24 24 rfl _ _ _ rfl rfl RUN.out ?_)
          go_roundw
          case rel => exact ⟨k + 1, by omega, by go_num, by rw [HPS.out]; exact HN2.out, HB2.out⟩
          case measure => simp [intOf]; omega
      · have HKD : Hid (k = d.length) := by show _ = _; omega
        obtain ⟨ao, co, ev, io⟩ := HNI.out.ints
        subst ev
        have IO : Hid (Ints wr ao D) := by rw [HDD.out, ← HKD.out]; exact io
        have HPL : Hid ((pickTo d t f k).length = D.length) := by show _ = _; rw [HDD.out, ← HKD.out]
        obtain ⟨_, _, _, _, ev, _, i2, _, _⟩ := G_4.out.arrI.keep hB
        cases ev
        have SI : Hid (Calls Try.prog 21 #[.slice ao D.length co, .slice bG D.length eG] wr fun e w' => e = .returned (.bool true) ∧ Below wr.heap.size wr w') := by
          refine (same_ints co eG (by have := LDH.out; omega) IO.out i2).mono ?_
          rintro r w' ⟨rfl, n, rfl⟩
          exact ⟨by simp, bDrewN (Below.refl _ _) n⟩
        have GI : Hid (ArrI wr (.agg #[.slice aG S.length cG, .slice bG D.length eG]) S D) := G_4.out.arrI.keep hB
        rw [HPL.out]
        clear hN hB io i2 HKD HNI HPL
        go_wp2_with fail
        refine (SI.out).mono ?_
        rintro r wy ⟨rfl, hb⟩
        have BY : Hid (Below wr.heap.size wr wy) := hb
        have y0 := (QB.out.keep hb).c0
        have y1 := (QB.out.keep hb).c1
        clear hb
        go_wp2_with fail
        refine (arrOk_impl (GI.out.keep BY.out) LDH.out).mono ?_
        rintro r wz ⟨rfl, hb⟩
        have BZ : Hid (Below wr.heap.size wr wz) := bTrans BY.out hb
        have x0 := (QB.out.keep BZ.out).c0
        have x1 := (QA.out.keep BZ.out).c0
        have x2 := (QM.out.keep BZ.out).c0
        clear hb y0 y1
        rw [HSD.out]
        go_wp2
        go_ret
        exact ⟨rfl, bTrans HTL.out ((HC.out.trans (BZ.out.mono HC.out.size)))⟩
  · have n0 : (C != 0) = true := by simpa using hc
    have hl : ((D.length : Int) == 0) = true := by rw [FB.out hc]; rfl
    have hl2 : D.length = 0 := FB.out hc
    clear FG FB
    go_wp2
    go_ret
    exact ⟨rfl, bTrans HT3.out (bAlloc (Below.refl _ _) _)⟩

/-! ### THE ROW's STEP: WRITTEN OUT: LEAVE IT -/
set_option maxRecDepth 100000 in
theorem lifted (os : Os) (started : os.Started) (H : Type) (enc : TypeId × Value → H) :
    ReturnsInHanded {} Try.checked os 5 .any (Rows.fnPickedSpec.pre6 enc Try.prog Try.f5 Rows.fnPickedRow.domain false) (Rows.fnPickedSpec.post enc Try.prog Try.f5 false true false false) := by
  refine returnsInHanded_of_change (C := Try.checked) own started (by kernel_rfl) Try.func5
    (ChangeSpec.witness6 (enc := enc) (C := Try.checked) false ⟨#[], #[.slice none 0 0], []⟩ 8 (by kernel_rfl) (by kernel_rfl) (by kernel_rfl) (by kernel_rfl)) ?_
  intro W base args ds gs before hval0 hW hcnd _
  have hval : ∀ (j : Nat) t v, Try.f5.params[j]? = some t → args[j]? = some v → Value.okWide Try.prog W .any base t v := hval0
  have hW' := hW
  obtain ⟨p, q, hA0, hV, rfl, hfz, hnd⟩ := hW
  have hA : DataW.TrodAll enc Try.prog W 0 (fun _ => true) true Try.f5.params.toList args.toList ds p := hA0
  rw [Try.params5] at hA hval
  obtain ⟨v0, vs0, d0, ds0, p0, q0, hargs, rfl, rfl, h0, r0⟩ := trodAll_cons hA
  obtain ⟨rfl, rfl, rfl⟩ := trodAll_nil r0
  obtain rfl : args = #[v0] := by cases args; simp_all
  obtain ⟨rfl, rfl⟩ := trodVars_none hV
  obtain ⟨a0, len0, cap0, rfl⟩ := okWide_slice Try.underlying22 (hval 0 22 v0 rfl rfl)
  have k0 := h0
  have lt0 : ∀ x ∈ p0, x.block < W.heap.size := by obtain ⟨m, hm⟩ := k0; exact DataW.trod_lt m _ _ _ hm
  obtain ⟨z0, w0⟩ : ∃ zs, IsRow .u8 W a0 len0 cap0 zs := by
    obtain ⟨fuel, hf⟩ := h0
    rcases open_ints Try.underlying22 Try.underlying5 (by kernel_rfl) hf with ⟨hcs, _⟩ | ⟨x, l, c, zs, hcs, _, hl, hm, hz, _, hcell, hwz⟩
    · simp [Value.cells] at hcs
      obtain ⟨rfl, rfl, rfl⟩ := hcs
      exact ⟨[], .inl ⟨rfl, rfl, rfl, rfl⟩⟩
    · simp [Value.cells] at hcs
      obtain ⟨rfl, rfl, rfl⟩ := hcs
      exact ⟨zs, .inr ⟨_, rfl, hl, hm, by simpa using hz, hcell, hwz⟩⟩
  clear hA0 hval0
  refine (walk a0 len0 cap0 z0 W w0).mono fun e W' ⟨he, bel⟩ => ?_
  subst he
  exact ⟨_, rfl, _, _, _, [], _, [], hW', trodAll_mk1 (shut_bool Try.underlying4 _), (trodAll_cons_mk (Below.trod laidOut (by kernel_rfl) (of_decide_eq_true (by kernel_rfl)) k0 bel lt0) trodAll_mk0), rfl, bel.frame _, fun h => by cases h⟩

theorem over : Rows.fnPickedRow.holds Try.pinned (OpenSpec.ofChange Rows.fnPickedSpec) :=
  OpenClaim.holds_of_wide 5 Try.f5 rfl rfl rfl rfl rfl rfl rfl ⟨rfl, rfl, rfl, rfl, rfl⟩ rfl rfl rfl rfl rfl (by kernel_rfl) Try.func5 (by kernel_rfl)
    (of_decide_eq_true (by kernel_rfl)) (by unfold Func.isWrapper; first | (rw [if_pos (by decide +kernel)]; kernel_rfl) | (rw [if_neg (by decide +kernel)]; exact ⟨rfl, rfl⟩))
    (fun os started H enc _ => lifted os started H enc)

/-- ████ THE STATEMENT ████ -/
theorem proved : Rows.FnPickedSaid := over
end Go.Proofs.Ythjjjnapcbkhjaa.fnPicked
namespace Go.Proofs.Ythjjjnapcbkhjaa
theorem fnPicked_holds : Rows.FnPickedSaid := fnPicked.proved
#print axioms fnPicked_holds
end Go.Proofs.Ythjjjnapcbkhjaa
