/-
  Proved: whatever code it is given, the law FnInner returns true: each number of a drawn inner product is the reduction of one row with one column. No condition.
-/
import Derived.Test.YtnkacfgbkfkhdaaGreatRows
import Derived.WalkKit
import Derived.ProofKit
import Derived.OpenShut
import Derived.ShutString
import Derived.ChangeOld
import Derived.Below
import Derived.Test.YtnkacfgbkfkhdaaGreatY35
import Derived.Test.YtnkacfgbkfkhdaaGreatDrawInner
import Derived.Test.YtnkacfgbkfkhdaaGreatImplInner
import Derived.Test.YtnkacfgbkfkhdaaGreatSpecInner
import Derived.Test.YtnkacfgbkfkhdaaGreatY10
import Derived.Test.YtnkacfgbkfkhdaaGreatY18
import Derived.Test.YtnkacfgbkfkhdaaGreatY24
import Derived.Test.YtnkacfgbkfkhdaaGreatY3
namespace Go.Proofs.YtnkacfgbkfkhdaaGreat.fnInner
open Go.ChangeShapes Go.WideShapes Go.ChangeAt Go.RowKit
open Go.ChangeMaps (open_string shut_string)
set_option linter.unusedVariables false
set_option linter.unusedSimpArgs false
set_option linter.unusedVariables false

theorem own : ownKnob Tryz.prog.godebug = none := by kernel_rfl
theorem laidOut : laidOutB Tryz.prog = true := by kernel_rfl

/-! ### STEP 1: THE WALK: the Go text returns true, AND WRITES NOTHING THAT WAS THERE: 'Below w.heap.size w w'' (Derived/Below.lean: '.refl', '.alloc', '.drew', '.setCell' at a new block, '.trans'). Open each 'IsRow' by 'rcases' AHEAD of 'go_enter'; part every test ahead of the walk. -/
set_option maxRecDepth 20000 in
set_option maxHeartbeats 8000000 in
theorem walk (a0 : Option Addr) (len0 cap0 : Nat) (z0 : List Int) (w : World) (w0 : IsRow .u8 w a0 len0 cap0 z0) :
    Calls Tryz.prog 3 #[.slice a0 len0 cap0] w fun e w' => e = .returned (.bool true) ∧ Below w.heap.size w w' := by
  have HS : Hid (Src w.heap.size w a0 len0) := src_of_row w0
  clear w0
  by_cases hbig : (1048576 : Int) < (len0 : Int)
  · go_enter Tryz.func3, Tryz.ntmps3
    go_wp2_with (go_at_call 4; refine (big_laws _ _ _ _).mono ?_; rintro e w' ⟨rfl, hw⟩; subst w')
    go_ret
    exact ⟨rfl, Below.refl _ _⟩
  have hb20 : len0 ≤ 1048576 := by omega
  go_enter Tryz.func3, Tryz.ntmps3
  go_wp2_with (go_at_call 4; refine (big_laws _ _ _ _).mono ?_; rintro e w' ⟨rfl, hw⟩; subst w')
  refine (drawInner_spec HS.out hb20).mono ?_
  rintro r w1 ⟨pf, pg, v1, v2, s, d, t, f, rfl, ha, hc0, ⟨hls, hld, hlt, hlf⟩, hb⟩
  obtain ⟨a1, c1, b1, e1, rfl, _, _, _, _⟩ := ha.arrI
  obtain ⟨a2, c2, b2, e2, rfl, _, _, _, _⟩ := hc0.arrI
  have N_1 : Hid (Arr w.heap.size w1.heap.size w1 (.agg #[.slice a1 s.length c1, .slice b1 d.length e1]) s d) := ha
  have M_1 : Hid (Arr w.heap.size w1.heap.size w1 (.agg #[.slice a2 t.length c2, .slice b2 f.length e2]) t f) := hc0
  have Ls : Hid (s.length ≤ 1048576) := by show _ ≤ _; omega
  have Ld : Hid (d.length ≤ 1048576) := by show _ ≤ _; omega
  have Lt : Hid (t.length ≤ 1048576) := by show _ ≤ _; omega
  have Lf : Hid (f.length ≤ 1048576) := by show _ ≤ _; omega
  have HT1 : Hid (Below w.heap.size w w1) := hb
  have SZ1 : Hid (w.heap.size ≤ w1.heap.size) := hb.size
  clear hb ha hc0 hls hld hlt hlf
  obtain ⟨C, hC⟩ : ∃ y, y = (innerR pf pg s d t f).1 := ⟨_, rfl⟩
  obtain ⟨S, hS⟩ : ∃ y, y = (innerR pf pg s d t f).2.1 := ⟨_, rfl⟩
  obtain ⟨D, hD⟩ : ∃ y, y = (innerR pf pg s d t f).2.2 := ⟨_, rfl⟩
  have EI : Hid (∀ (W : World) (u2 : Value) (_ : ArrI W u2 s d) (u3 : Value) (_ : ArrI W u3 t f), Calls Tryz.prog 6 #[.int .i64 pf, .int .i64 pg, u2, u3] W fun e w' => ∃ v, e = .returned (.tuple #[v, .int .i64 C]) ∧ Arr W.heap.size w'.heap.size w' v S D ∧ Below W.heap.size W w') := by
    intro W u2 h2 u3 h3
    rw [hC, hS, hD]
    exact inner_impl h2 h3 Ls.out Ld.out Lt.out Lf.out
  have ES : Hid (∀ (W : World) (u2 : Value) (_ : ArrI W u2 s d) (u3 : Value) (_ : ArrI W u3 t f), Calls Tryz.prog 7 #[.int .i64 pf, .int .i64 pg, u2, u3] W fun e w' => ∃ v, e = .returned (.tuple #[v, .int .i64 C]) ∧ Arr W.heap.size w'.heap.size w' v S D ∧ Below W.heap.size W w') := by
    intro W u2 h2 u3 h3
    rw [hC, hS, hD]
    exact inner_spec h2 h3 Ls.out Ld.out Lt.out Lf.out
  have hCC : (innerR pf pg s d t f).1 = innerC pf pg s d t f := mkR_code _ _ _
  have FC : Hid (C = 0 → innerC pf pg s d t f = 0 ∧ S = (innerR pf pg s d t f).2.1 ∧ D = (innerR pf pg s d t f).2.2) := fun h => ⟨by rw [← hCC, ← hC]; exact h, hS, hD⟩
  have FB : Hid (C ≠ 0 → D.length = 0) := by
    intro h
    rw [hC, hCC] at h
    rw [hD]
    unfold innerR
    rw [mkR_bad h]; rfl
  have hneC : (C != C) = false := by simp
  clear hC hS hD hCC
  go_wp2_with fail
  refine (EI.out _ _ ((N_1.out.arrI).keep (bAlloc (bAlloc (Below.refl _ _) _) _)) _ ((M_1.out.arrI).keep (bAlloc (bAlloc (Below.refl _ _) _) _))).mono ?_
  rintro r w2 ⟨vG, rfl, ha, hb⟩
  obtain ⟨aG, cG, bG, eG, rfl, _, _, _, _⟩ := ha.arrI
  have G_2 : Hid (Arr (w1.heap.size + 2) w2.heap.size w2 (.agg #[.slice aG S.length cG, .slice bG D.length eG]) S D) := ha.mono (by first | exact Nat.le_refl _ | simp | (simp; omega)) (Nat.le_refl _)
  clear ha
  have HB2 : Hid (Below w1.heap.size w1 w2) := bTrans (bAlloc (bAlloc (Below.refl _ _) _) _) hb
  have HT2 : Hid (Below w.heap.size w w2) := bTrans HT1.out HB2.out
  have SZ2 : Hid (w1.heap.size ≤ w2.heap.size) := HB2.out.size
  have N_2 : Hid (Arr w.heap.size w1.heap.size w2 (.agg #[.slice a1 s.length c1, .slice b1 d.length e1]) s d) := N_1.out.keep HB2.out
  have M_2 : Hid (Arr w.heap.size w1.heap.size w2 (.agg #[.slice a2 t.length c2, .slice b2 f.length e2]) t f) := M_1.out.keep HB2.out
  have QN_2 : Hid (Box w2 w1.heap.size (.slice a1 s.length c1) (.slice b1 d.length e1) 26) := ((box_new w1 _ _ _).keep (bAlloc (Below.refl _ _) _)).keep hb
  have LTQN : Hid (w1.heap.size < w2.heap.size) := QN_2.out.lt
  have QM_2 : Hid (Box w2 (w1.heap.size + 1) (.slice a2 t.length c2) (.slice b2 f.length e2) 26) := (box_new2 w1 _ _ _ _).keep hb
  have LTQM : Hid ((w1.heap.size + 1) < w2.heap.size) := QM_2.out.lt
  clear N_1 M_1 hb
  have QNc0 := QN_2.out.c0
  have QNc1 := QN_2.out.c1
  have QNd0 : ∀ o : Obj, (w2.alloc o).cell? ⟨w1.heap.size, 0, none⟩ = some (.slice a1 s.length c1) := fun o => (QN_2.out.keep (bAlloc (Below.refl _ _) o)).c0
  have QNd1 : ∀ o : Obj, (w2.alloc o).cell? ⟨w1.heap.size, 1, none⟩ = some (.slice b1 d.length e1) := fun o => (QN_2.out.keep (bAlloc (Below.refl _ _) o)).c1
  have QMc0 := QM_2.out.c0
  have QMc1 := QM_2.out.c1
  have QMd0 : ∀ o : Obj, (w2.alloc o).cell? ⟨(w1.heap.size + 1), 0, none⟩ = some (.slice a2 t.length c2) := fun o => (QM_2.out.keep (bAlloc (Below.refl _ _) o)).c0
  have QMd1 : ∀ o : Obj, (w2.alloc o).cell? ⟨(w1.heap.size + 1), 1, none⟩ = some (.slice b2 f.length e2) := fun o => (QM_2.out.keep (bAlloc (Below.refl _ _) o)).c1
  go_wp2_with fail
  refine (ES.out _ _ ((N_2.out.arrI).keep (bAlloc (Below.refl _ _) _)) _ ((M_2.out.arrI).keep (bAlloc (Below.refl _ _) _))).mono ?_
  rintro r w3 ⟨vW, rfl, ha, hb⟩
  obtain ⟨aW, cW, bW, eW, rfl, _, _, _, _⟩ := ha.arrI
  have W_3 : Hid (Arr (w2.heap.size + 1) w3.heap.size w3 (.agg #[.slice aW S.length cW, .slice bW D.length eW]) S D) := ha.mono (by first | exact Nat.le_refl _ | simp | (simp; omega)) (Nat.le_refl _)
  clear ha
  have HB3 : Hid (Below w2.heap.size w2 w3) := bTrans (bAlloc (Below.refl _ _) _) hb
  have HT3 : Hid (Below w.heap.size w w3) := bTrans HT2.out HB3.out
  have SZ3 : Hid (w2.heap.size ≤ w3.heap.size) := HB3.out.size
  have QN_3 : Hid (Box w3 w1.heap.size (.slice a1 s.length c1) (.slice b1 d.length e1) 26) := QN_2.out.keep HB3.out
  have QM_3 : Hid (Box w3 (w1.heap.size + 1) (.slice a2 t.length c2) (.slice b2 f.length e2) 26) := QM_2.out.keep HB3.out
  have N_3 : Hid (Arr w.heap.size w1.heap.size w3 (.agg #[.slice a1 s.length c1, .slice b1 d.length e1]) s d) := N_2.out.keep HB3.out
  have M_3 : Hid (Arr w.heap.size w1.heap.size w3 (.agg #[.slice a2 t.length c2, .slice b2 f.length e2]) t f) := M_2.out.keep HB3.out
  have G_3 : Hid (Arr (w1.heap.size + 2) w2.heap.size w3 (.agg #[.slice aG S.length cG, .slice bG D.length eG]) S D) := G_2.out.keep HB3.out
  have QG_3 : Hid (Box w3 w2.heap.size (.slice aG S.length cG) (.slice bG D.length eG) 26) := (box_new w2 _ _ _).keep hb
  have LTQG : Hid (w2.heap.size < w3.heap.size) := QG_3.out.lt
  clear QN_2 QM_2 N_2 M_2 G_2 QNc0 QNc1 QNd0 QNd1 QMc0 QMc1 QMd0 QMd1 hb
  have QNc0 := QN_3.out.c0
  have QNc1 := QN_3.out.c1
  have QNd0 : ∀ o : Obj, (w3.alloc o).cell? ⟨w1.heap.size, 0, none⟩ = some (.slice a1 s.length c1) := fun o => (QN_3.out.keep (bAlloc (Below.refl _ _) o)).c0
  have QNd1 : ∀ o : Obj, (w3.alloc o).cell? ⟨w1.heap.size, 1, none⟩ = some (.slice b1 d.length e1) := fun o => (QN_3.out.keep (bAlloc (Below.refl _ _) o)).c1
  have QMc0 := QM_3.out.c0
  have QMc1 := QM_3.out.c1
  have QMd0 : ∀ o : Obj, (w3.alloc o).cell? ⟨(w1.heap.size + 1), 0, none⟩ = some (.slice a2 t.length c2) := fun o => (QM_3.out.keep (bAlloc (Below.refl _ _) o)).c0
  have QMd1 : ∀ o : Obj, (w3.alloc o).cell? ⟨(w1.heap.size + 1), 1, none⟩ = some (.slice b2 f.length e2) := fun o => (QM_3.out.keep (bAlloc (Below.refl _ _) o)).c1
  have QGc0 := QG_3.out.c0
  have QGc1 := QG_3.out.c1
  have QGd0 : ∀ o : Obj, (w3.alloc o).cell? ⟨w2.heap.size, 0, none⟩ = some (.slice aG S.length cG) := fun o => (QG_3.out.keep (bAlloc (Below.refl _ _) o)).c0
  have QGd1 : ∀ o : Obj, (w3.alloc o).cell? ⟨w2.heap.size, 1, none⟩ = some (.slice bG D.length eG) := fun o => (QG_3.out.keep (bAlloc (Below.refl _ _) o)).c1
  by_cases hc : C = 0
  · obtain ⟨hic, hSe, hDe⟩ := FC.out hc
    obtain ⟨nR, n, nC, dim, oks, n300, sz, hkk, er⟩ := inner_good hic
    have HRT : Hid (arrOk S D = true) := by show _ = _; rw [hSe, hDe]; exact inner_right hic
    subst hc
    rw [er] at hSe hDe
    obtain ⟨NN, hNN⟩ : ∃ NN, NN = nR * nC := ⟨_, rfl⟩
    obtain ⟨Q, hQ⟩ : ∃ Q : Nat → Int × Int, Q = fun k => innerK pf pg d t f k := ⟨_, rfl⟩
    have HNN : Hid (NN = nR * nC) := hNN
    have hN3 : NN ≤ 300 := by rw [hNN]; exact n300
    have DL : Hid (D.length = NN) := by show _ = _; rw [hDe, hNN]; simp
    have DA : Hid (∀ k, k < NN → D.getD k 0 = (Q k).1) := fun k hk => by
      have hk' : k < nR * nC := by rw [← hNN]; exact hk
      rw [hDe, hQ]; simp [hk']
    have DIM : Hid (InnerD s d t f nR n nC) := dim
    have HQ : Hid (∀ k, k < NN → Q k = cellR pf pg (rowV d n (k / nC)) (colV f n nC (k % nC)) n ∧ (Q k).2 = 0) := fun k hk => by
      rw [hQ]; exact ⟨dim.at_ pf pg k, hkk k (by rw [← hNN]; exact hk)⟩
    have OKS : Hid (arrOk s d = true ∧ arrOk t f = true ∧ sign2 pf = true ∧ sign2 pg = true) := oks
    have hn3 : n ≤ 300 := dim.2.2.2.2.2.1
    have hnC3 : nC ≤ 300 := dim.2.2.2.2.2.2
    have ht12 : t.length = 1 ∨ t.length = 2 := by rcases dim.2.1 with ⟨q, _⟩ | q <;> rw [q] <;> simp
    have LS9 : Hid (S.length ≤ 1048576 ∧ D.length ≤ 1048576) := by
      have h1 := arrOk_len HRT.out
      have h2 := (sizeV_ok (arrOk_shape HRT.out)).1
      show _ ∧ _
      omega
    have OKC : Hid (∀ (W : World) (u : Value), ArrI W u S D → Calls Tryz.prog 11 #[u] W fun e w' => e = .returned (.bool true) ∧ Below W.heap.size W w') := fun W u hu => by
      have q := arrOk_impl hu LS9.out.2
      rw [HRT.out] at q
      exact q
    clear FC FB hSe hDe er oks dim sz hkk hic n300 hNN hQ HRT
    obtain ⟨_, _, _, _, ev, iT, iF, gT, gF⟩ := M_3.out.arrI
    cases ev
    obtain ⟨pT, oT, rfl, hpT, tT⟩ := iT.at (k := 0) (by omega)
    rw [Nat.add_zero, DIM.out.n0] at tT
    have T2 : Hid (t.length = 2 → w3.cell? ⟨pT, oT + 1, none⟩ = some (.int .i64 (nC : Int))) := fun h2 => by
      obtain ⟨p', o', ep, hp', tp⟩ := iT.at (k := 1) (by omega)
      cases ep
      rw [show t.getD 1 0 = (nC : Int) from by rcases DIM.out.2.1 with ⟨q, _⟩ | q <;> rw [q] at h2 ⊢ <;> simp at h2 ⊢] at tp
      exact tp
    have HF2 : Hid (Ints w3 b2 f) := iF
    clear iT iF gT gF
    obtain ⟨_, _, _, _, ev, iS, iD, gS, gD⟩ := N_3.out.arrI
    cases ev
    have HD2 : Hid (Ints w3 b1 d ∧ d.length ≤ e1) := ⟨iD, gD⟩
    clear iS iD gS gD
    have TA : ∀ o : Obj, (w3.alloc o).cell? ⟨pT, oT, none⟩ = some (.int .i64 (n : Int)) := fun o => ((bAlloc (Below.refl w3.heap.size w3) o).cell (p := ⟨pT, oT, none⟩) hpT).trans tT
    have T2A : Hid (∀ o : Obj, t.length = 2 → (w3.alloc o).cell? ⟨pT, oT + 1, none⟩ = some (.int .i64 (nC : Int))) := fun o h2 => ((bAlloc (Below.refl w3.heap.size w3) o).cell (p := ⟨pT, oT + 1, none⟩) hpT).trans (T2.out h2)
    have ht0 : (0 : Int) < (t.length : Int) := by omega
    go_upto_if 65 with fail
    generalize hW : w3.alloc (.cells #[.slice aW S.length cW, .slice bW D.length eW] 26) = WL
    have BL : Hid (Below w3.heap.size w3 WL) := by rw [← hW]; exact bAlloc (Below.refl _ _) _
    have T2L : Hid (t.length = 2 → WL.cell? ⟨pT, oT + 1, none⟩ = some (.int .i64 (nC : Int))) := by rw [← hW]; exact T2A.out _
    clear hW T2A TA T2 tT hpT
    have HTL : Hid (Below w.heap.size w WL) := bTrans HT3.out BL.out
    have QNL : Hid (Box WL w1.heap.size (.slice a1 s.length c1) (.slice b1 d.length e1) 26) := QN_3.out.keep BL.out
    have QML : Hid (Box WL (w1.heap.size + 1) (.slice (some ⟨pT, oT, none⟩) t.length c2) (.slice b2 f.length e2) 26) := QM_3.out.keep BL.out
    have QGL : Hid (Box WL w2.heap.size (.slice aG S.length cG) (.slice bG D.length eG) 26) := QG_3.out.keep BL.out
    have GL : Hid (ArrI WL (.agg #[.slice aG S.length cG, .slice bG D.length eG]) S D) := G_3.out.arrI.keep BL.out
    have FL2 : Hid (Ints WL b2 f) := HF2.out.keep BL.out
    have DL2 : Hid (Ints WL b1 d ∧ d.length ≤ e1) := ⟨HD2.out.1.keep BL.out, HD2.out.2⟩
    clear QNc0 QNc1 QNd0 QNd1 QMc0 QMc1 QMd0 QMd1 QGc0 QGc1 QGd0 QGd1 N_3 M_3 G_3 QN_3 QM_3 QG_3 HF2 HD2
    go_cut [12] from 62 to 69 (fun v w' => v = .int .i64 (nC : Int) ∧ w' = WL)
    case first =>
      have y0 := QML.out.c0
      rcases ht12 with h1 | h1
      · have e1' : ¬ (1 : Int) < (t.length : Int) := by omega
        have e2' : Hid ((1 : Int) = (nC : Int)) := by
          rcases DIM.out.2.1 with ⟨q, q2⟩ | q
          · show _ = _; rw [q2]; rfl
          · rw [q] at h1; simp at h1
        clear h1
        go_wp2_with fail
        go_meet
        case rel => exact ⟨by rw [e2'.out], rfl⟩
      · have e1' : (1 : Int) < (t.length : Int) := by omega
        have t2 := T2L.out h1
        clear h1
        go_wp2_with fail
        go_meet
        case rel => exact ⟨rfl, rfl⟩
    case rest =>
      obtain ⟨rfl, hwl⟩ := hcut
      subst wc
      clear ht12 T2L
      have hDLi : (D.length : Int) = (NN : Int) := by have := DL.out; omega
      go_wp2_with fail
      go_loopg [13] NN (fun gk i w' => ∃ k : Nat, gk = NN - k ∧ k ≤ NN ∧ i = .int .i64 (k : Int) ∧ Below WL.heap.size WL w')
      case atStart => exact ⟨0, by omega, by omega, rfl, Below.refl _ _⟩
      case round =>
        obtain ⟨k, hgk, hk, rfl, hB⟩ := hrel
        have BK : Hid (Below WL.heap.size WL wr) := hB
        clear hB
        have gq0 := (QGL.out.keep BK.out).c0
        have gq1 := (QGL.out.keep BK.out).c1
        by_cases hlt : (k : Int) < (D.length : Int)
        · have L : k < NN := by have := DL.out; omega
          have LN9 : Hid (k < NN) := L
          have LK : Hid (k < nR * nC) := by show _ < _; rw [← HNN.out]; exact L
          obtain ⟨I, hI⟩ : ∃ I, I = k / nC := ⟨_, rfl⟩
          obtain ⟨J, hJ⟩ : ∃ J, J = k % nC := ⟨_, rfl⟩
          have hCp : 0 < nC := DIM.out.wide_pos LK.out
          have ei : (k : Int).tdiv (nC : Int) = (I : Int) := by rw [Int.tdiv_eq_ediv_of_nonneg (by omega), hI]; simp
          have ei2 : (k : Int) / (nC : Int) = (I : Int) := by rw [hI]; simp
          have ej : (k : Int).tmod (nC : Int) = (J : Int) := by rw [Int.tmod_eq_emod_of_nonneg (by omega), hJ]; simp
          have ej2 : (k : Int) % (nC : Int) = (J : Int) := by rw [hJ]; simp
          have hI3 : I ≤ 300 := by rw [hI]; exact Nat.le_trans (Nat.div_le_self _ _) (by omega)
          have hJ3 : J < nC := by rw [hJ]; exact Nat.mod_lt _ hCp
          have hwI : IntKind.i64.wrap (I : Int) = (I : Int) := wrapI (by omega) (by omega)
          have hwJ : IntKind.i64.wrap (J : Int) = (J : Int) := wrapI (by omega) (by omega)
          have hz1 : ((nC : Int) == 0) = false := by simp; omega
          have hz2 : (nC : Int) ≠ 0 := by omega
          have hz3 : nC ≠ 0 := by omega
          have hz4 : (nC == 0) = false := by simp; omega
          have rowin : I * n + n ≤ d.length := by rw [hI]; exact DIM.out.row_in LK.out
          have hd3 : d.length ≤ 300 := by have := arrOk_len OKS.out.1; omega
          have hi' : k / nC = I := hI.symm
          have hj' : k % nC = J := hJ.symm
          have COL : Hid (∀ j, j < n → j * nC + J < f.length) := fun j hj => by rw [hJ]; exact DIM.out.col_in LK.out hj
          obtain ⟨ROW, hROW⟩ : ∃ ROW, ROW = rowV d n I := ⟨_, rfl⟩
          obtain ⟨CL, hCL⟩ : ∃ CL, CL = colV f n nC J := ⟨_, rfl⟩
          have vr := (vecs_row DIM.out OKS.out.1).2 I (by rw [hI]; exact DIM.out.row_lt LK.out)
          have vc := (vecs_col DIM.out OKS.out.2.1).2 J hJ3
          have okr : arrOk [(n : Int)] ROW = true := by rw [hROW]; exact vr.2.2
          have okc : arrOk [(n : Int)] CL = true := by rw [hCL]; exact vc.2.2
          have hq := HQ.out k L
          rw [hq.1, ← hI, ← hJ, ← hROW, ← hCL] at hq
          obtain ⟨V, hV⟩ : ∃ V, V = (cellR pf pg ROW CL n).1 := ⟨_, rfl⟩
          have DV : Hid (D.getD k 0 = V) := by show _ = _; rw [DA.out k L, (HQ.out k L).1, ← hI, ← hJ, ← hROW, ← hCL, hV]
          obtain ⟨p0, pr⟩ := red_pairs (f := pf) (g := pg) (n := (n : Int)) (x := ROW) (y := CL) OKS.out.2.2.1 okr hq.2
          have ep := each_pair (g := pg) okr okc OKS.out.2.2.2
          rw [show ((n : Nat) : Int).toNat = n from rfl] at p0 pr ep
          obtain ⟨PD, hPD⟩ : ∃ PD, PD = pairD pg ROW CL n := ⟨_, rfl⟩
          have hPL : PD.length = n := by rw [hPD, pairD_len]
          obtain ⟨ep1, ep2⟩ := ep
          obtain ⟨ep3, ep4⟩ := ep2 p0
          rw [p0] at ep1
          rw [← hPD] at ep4 pr
          rw [← hV] at pr
          have RLn : ROW.length = n := (vec_right okr).2
          have CLn : CL.length = n := (vec_right okc).2
          have EE : Hid (∀ (W : World) (u v : Value), ArrI W u [(n : Int)] ROW → ArrI W v [(n : Int)] CL → Calls Tryz.prog 9 #[.int .i64 pg, u, v] W fun e w' => ∃ x k y l, e = .returned (.tuple #[.agg #[.slice x 1 k, .slice y n l], .int .i64 0]) ∧ Arr W.heap.size w'.heap.size w' (.agg #[.slice x 1 k, .slice y n l]) [(n : Int)] PD ∧ Below W.heap.size W w') := fun W u v h1 h2 => by
            have q := eachTwo_impl (g := pg) h1 h2 (by simp) (by omega) (by simp) (by omega)
            rw [ep1, ep3, ep4] at q
            refine q.mono ?_
            rintro r w' ⟨v', rfl, ha, hb⟩
            have ha2 := ha
            obtain ⟨x, kk, y, l, rfl, _, _, _, _⟩ := ha.arrI
            simp only [List.length_cons, List.length_nil, Nat.zero_add, hPL] at ha2 ⊢
            exact ⟨x, kk, y, l, rfl, ha2, hb⟩
          have RR : Hid (∀ (W : World) (u : Value), ArrI W u [(n : Int)] PD → Calls Tryz.prog 10 #[.int .i64 pf, u] W fun e w' => ∃ x k y l, e = .returned (.tuple #[.agg #[.slice x 0 k, .slice y 1 l], .int .i64 0]) ∧ Arr W.heap.size w'.heap.size w' (.agg #[.slice x 0 k, .slice y 1 l]) [] [V] ∧ Below W.heap.size W w') := fun W u h1 => by
            have q := reduce_impl (g := pf) h1 (by simp) (by omega)
            rw [pr] at q
            refine q.mono ?_
            rintro r w' ⟨v', rfl, ha, hb⟩
            have ha2 := ha
            obtain ⟨x, kk, y, l, rfl, _, _, _, _⟩ := ha.arrI
            exact ⟨x, kk, y, l, rfl, ha2, hb⟩
          have VO : Hid (∀ (W : World) (v : Value) (l : List Int), l = ROW ∨ l = CL → IntsI W v l → Calls Tryz.prog 8 #[v] W fun e w' => ∃ x k y m, e = .returned (.tuple #[.agg #[.slice x 1 k, .slice y n m], .bool true]) ∧ Arr W.heap.size w'.heap.size w' (.agg #[.slice x 1 k, .slice y n m]) [(n : Int)] l ∧ Below W.heap.size W w') := fun W v l hl hv => by
            have ho : arrOk [(n : Int)] l = true := by rcases hl with rfl | rfl <;> assumption
            obtain ⟨o1, o2⟩ := vec_right ho
            have q := vectorOf_impl hv (by omega)
            rw [o1, if_pos rfl, if_pos rfl, o2] at q
            refine q.mono ?_
            rintro r w' ⟨v', rfl, ha, hb⟩
            have ha2 := ha
            obtain ⟨x, kk, y, m, rfl, _, _, _, _⟩ := ha.arrI
            simp only [List.length_cons, List.length_nil, Nat.zero_add, o2] at ha2 ⊢
            exact ⟨x, kk, y, m, rfl, ha2, hb⟩
          have eL : Hid (I * n + n - I * n = n) := by show _ = _; omega
          obtain ⟨aR, cR, hsR, iR, gR⟩ := ints_mid9 (L := I * n) (M := I * n + n) (DL2.out.1.keep BK.out) DL2.out.2 (by omega) rowin
          rw [eL.out] at hsR iR gR
          have IR : Hid (IntsI wr (.slice aR n cR) ROW) := ⟨aR, cR, by rw [RLn], by rw [RLn]; exact gR, by rw [hROW]; exact iR⟩
          have hmul : (I : Int) * (n : Int) = ((I * n : Nat) : Int) := (Int.natCast_mul I n).symm
          have hmm : ((I * n : Nat) : Int) + (n : Int) = ((I * n + n : Nat) : Int) := by omega
          have hwL : IntKind.i64.wrap ((I * n : Nat) : Int) = ((I * n : Nat) : Int) := wrapI (by omega) (by omega)
          have hwM : IntKind.i64.wrap ((I * n + n : Nat) : Int) = ((I * n + n : Nat) : Int) := wrapI (by omega) (by omega)
          have HCL : Hid (CL = colV f n nC J) := hCL
          clear rowin iR gR hI hJ vr vc okr okc hq p0 pr ep1 ep2 ep3 ep4 hV hPD hPL hROW hCL
          generalize I * n + n = M1 at *
          generalize I * n = L1 at *
          have SK : Hid (∀ W, Below wr.heap.size wr W → W.cell? ⟨w1.heap.size, 1, none⟩ = some (.slice b1 d.length e1)) := fun W hb => (QNL.out.keep (bTrans BK.out hb)).c1
          have s0 := SK.out _ (Below.refl _ _)
          go_wp2_with fail
          go_cut [14, 15] from 70 to 157 (fun p q w' => ∃ (gN : Nat) (aN : Option Addr) (cN : Nat) (bN : Option Addr) (eN : Nat), p = .pointer (some ⟨gN, 0, none⟩) ∧ q = .bool true ∧ Box w' gN (.slice aN 1 cN) (.slice bN n eN) 26 ∧ ArrI w' (.agg #[.slice aN 1 cN, .slice bN n eN]) [(n : Int)] ROW ∧ Below wr.heap.size wr w')
          case first =>
            go_region_held3 (fun w' => w'.cell? ⟨w1.heap.size, 1, none⟩ = some (.slice b1 d.length e1))
              ((refine SK.out _ ?_; (repeat first | with_reducible exact B5.out | with_reducible exact Below.refl _ _ | with_reducible refine bAlloc ?_ _ | with_reducible refine Below.drew ?_ | with_reducible refine below_setCell ?_ (by first | omega | simp | (simp; omega)) _ _)))
              ((go_at_call 8; refine (VO.out _ _ ROW (.inl rfl) (IR.out.keep (by repeat first | exact (Below.refl _ _).drew | exact Below.refl _ _ | refine bAlloc ?_ _ | refine Below.drew ?_))).mono ?_; rintro r w5 ⟨xa5, xc5, ya5, yc5, rfl, ha5, hb5⟩; have B5 : Hid (Below wr.heap.size wr w5) := bTrans (by repeat first | exact (Below.refl _ _).drew | exact Below.refl _ _ | refine bAlloc ?_ _ | refine Below.drew ?_) hb5; have HA5 : Hid (Arr _ w5.heap.size w5 (.agg #[.slice xa5 1 xc5, .slice ya5 n yc5]) [(n : Int)] ROW) := ha5; (try have bq : Hid (Box w5 wr.heap.size (.slice none 0 0) (.slice none 0 0) 26) := Box.keep (w := World.drew (World.alloc wr (.cells #[.slice none 0 0, .slice none 0 0] 26))) (box_new wr _ _ _) hb5); (try have m0 := bq.out.c0); (try have m1 := bq.out.c1); (try have f0 : w5.frozen? ⟨wr.heap.size, 0, none⟩ = false := free_at bq.out 0); (try have f1 : w5.frozen? ⟨wr.heap.size, 1, none⟩ = false := free_at bq.out 1); have t0 := SK.out _ B5.out; clear ha5 hb5))
            all_goals
              go_wp2_with fail
              go_meet
              case rel =>
                first
                  | exact ⟨w5.heap.size, _, _, _, _, rfl, rfl, box_new w5 _ _ _, HA5.out.arrI.keep (bAlloc (Below.refl _ _) _), bAlloc B5.out _⟩
                  | exact ⟨wr.heap.size, _, _, _, _, rfl, rfl, arr_stored bq.out, ((HA5.out.setCell (by simp) _ _).setCell (by simp) _ _).arrI, below_setCell (below_setCell B5.out (Nat.le_refl _) _ _) (Nat.le_refl _) _ _⟩
          case rest =>
            obtain ⟨wd, hwd⟩ : ∃ x, x = wc := ⟨_, rfl⟩
            subst hwd
            obtain ⟨gN, aN, cN, bN, eN, rfl, rfl, hbx, har, hbl⟩ := hcut
            have XD : Hid (Box wd gN (.slice aN 1 cN) (.slice bN n eN) 26) := hbx
            have AD : Hid (ArrI wd (.agg #[.slice aN 1 cN, .slice bN n eN]) [(n : Int)] ROW) := har
            have BD : Hid (Below WL.heap.size WL wd) := bTrans BK.out hbl
            clear hbx har hbl s0 SK hsR IR hmul hmm hwL hwM ei ei2 hwI gq0 gq1
            have NA : Hid (NewInts wd.heap.size (wd.alloc (.cells #[] 3)) (.slice (some ⟨wd.heap.size, 0, none⟩) 0 0) (colV f 0 nC J)) := newInts_alloc wd [] (Nat.le_refl _) (by simp)
            go_wp2_with fail
            go_loopg [16, 17] n (fun gj v i w' => ∃ (j : Nat), gj = n - j ∧ j ≤ n ∧ i = .int .i64 (j : Int) ∧ NewInts wd.heap.size w' v (colV f j nC J) ∧ Below wd.heap.size wd w')
            case atStart => exact ⟨0, by omega, by omega, rfl, NA.out, bAlloc (Below.refl _ _) _⟩
            case round =>
              obtain ⟨j, hgj, hj, rfl, hN, hB⟩ := hrel
              obtain ⟨a5, c5, rfl, i5⟩ := hN.ints
              rw [colV_len] at hN
              rw [colV_len]
              have NJ : Hid (NewInts wd.heap.size wr (.slice a5 j c5) (colV f j nC J)) := hN
              have BJ : Hid (Below wd.heap.size wd wr) := hB
              clear hN hB i5 NA
              by_cases hlt2 : (j : Int) < (n : Int)
              · have LJ : j < n := by omega
                have hin := COL.out j LJ
                obtain ⟨bz, oz, rfl, hbz, cz⟩ := FL2.out.at hin
                have SK : Hid (∀ W, Below wd.heap.size wd W → W.cell? ⟨(w1.heap.size + 1), 1, none⟩ = some (.slice (some ⟨bz, oz, none⟩) f.length e2) ∧ W.cell? ⟨bz, oz + (j * nC + J), none⟩ = some (.int .i64 (f.getD (j * nC + J) 0))) := fun W hb => ⟨(QML.out.keep (bTrans BD.out hb)).c1, ((bTrans BD.out hb).cell (p := ⟨bz, oz + (j * nC + J), none⟩) hbz).trans cz⟩
                have ES : Hid (colV f (j + 1) nC J = colV f j nC J ++ [f.getD (j * nC + J) 0]) := by
                  show _ = _
                  unfold colV; rw [List.range_succ, List.map_append]; rfl
                have he3 : f.length ≤ 300 := by have := arrOk_len OKS.out.2.1; omega
                have hmul : (j : Int) * (nC : Int) = ((j * nC : Nat) : Int) := (Int.natCast_mul j nC).symm
                have hadd : ((j * nC : Nat) : Int) + (J : Int) = ((j * nC + J : Nat) : Int) := by omega
                have hwL : IntKind.i64.wrap ((j * nC : Nat) : Int) = ((j * nC : Nat) : Int) := wrapI (by omega) (by omega)
                have hwM : IntKind.i64.wrap ((j * nC + J : Nat) : Int) = ((j * nC + J : Nat) : Int) := wrapI (by omega) (by omega)
                have hlt3 : ((j * nC + J : Nat) : Int) < (f.length : Int) := by omega
                clear cz hbz hin
                generalize f.getD (j * nC + J) 0 = y at *
                generalize j * nC + J = M1 at *
                generalize j * nC = L1 at *
                obtain ⟨a7, c7, w7, hr7, hn7, hb7⟩ := grow1 y (NJ.out.keep ((Below.refl _ _).drew)) (show wd.heap.size ≤ (World.drew wr).heap.size from BJ.out.size) (by rw [colV_len]; omega)
                rw [colV_len] at hr7 hn7
                have R7 : Hid ((Builtin.append_ #[24, 24] 24 #[.slice a5 j c5, .slice (some ⟨wr.heap.size, 0, none⟩) 1 1]).run Tryz.prog (World.drew (wr.alloc (.cells #[.int .i64 y] 3))) = .ok (.slice a7 (j + 1) c7) w7) := hr7
                have N7 : Hid (NewInts wd.heap.size w7 (.slice a7 (j + 1) c7) (colV f (j + 1) nC J)) := by rw [ES.out]; exact hn7
                have B7 : Hid (Below wd.heap.size wd w7) := BJ.out.drew.trans hb7
                clear hr7 hn7 hb7 ES NJ
                have s0 := SK.out _ BJ.out
                go_wp2_with fail
                go_region_held3 (fun w' => w'.cell? ⟨(w1.heap.size + 1), 1, none⟩ = some (.slice (some ⟨bz, oz, none⟩) f.length e2) ∧ w'.cell? ⟨bz, oz + M1, none⟩ = some (.int .i64 y))
                  ((refine SK.out _ ?_; (repeat first | with_reducible exact BJ.out | with_reducible exact B7.out | with_reducible refine bAlloc ?_ _ | with_reducible refine Below.drew ?_)))
                  (((with_reducible show (if Region.wanted _ _ = true then Oper.wp Tryz.prog _ _ (World.drew (World.alloc wr (.cells #[.int .i64 y] 3))) _ _ else _)); refine step_append_ty (by rfl) (.tmp 102) (.tmp 114) 24 24 (by rfl) _ _ _ (by rfl) (by rfl) R7.out ?_))
                all_goals
                  go_wp2
                  go_roundg (n - (j + 1))
                  case measure => omega
                  case rel => exact ⟨j + 1, by omega, by omega, by go_num, N7.out, B7.out⟩
              · obtain rfl : j = n := by omega
                have IC : Hid (IntsI wr (.slice a5 j c5) CL) := by
                  have q := NJ.out.piece.intsI
                  rw [HCL.out]; exact q
                go_wp2_with fail
                refine (VO.out _ _ CL (.inr rfl) IC.out).mono ?_
                rintro r w5 ⟨xc, kc, yc, mc, rfl, ha, hb⟩
                have B5 : Hid (Below wd.heap.size wd w5) := bTrans BJ.out hb
                have AC5 : Hid (ArrI w5 (.agg #[.slice xc 1 kc, .slice yc j mc]) [(j : Int)] CL) := ha.arrI
                have AR5 : Hid (ArrI w5 (.agg #[.slice aN 1 cN, .slice bN j eN]) [(j : Int)] ROW) := AD.out.keep B5.out
                have X5 : Hid (Box w5 gN (.slice aN 1 cN) (.slice bN j eN) 26) := XD.out.keep B5.out
                clear ha hb NJ IC
                have x0 : ∀ O : Obj, (w5.alloc O).cell? ⟨gN, 0, none⟩ = some (.slice aN 1 cN) := fun O => (X5.out.keep (bAlloc (Below.refl _ _) O)).c0
                have x1 : ∀ O : Obj, (w5.alloc O).cell? ⟨gN, 1, none⟩ = some (.slice bN j eN) := fun O => (X5.out.keep (bAlloc (Below.refl _ _) O)).c1
                go_wp2_with fail
                refine (EE.out _ _ _ (AR5.out.keep (bAlloc (Below.refl _ _) _)) (AC5.out.keep (bAlloc (Below.refl _ _) _))).mono ?_
                rintro r w6 ⟨xe, ke, ye, me, rfl, ha, hb⟩
                have B6 : Hid (Below wd.heap.size wd w6) := bTrans (bAlloc B5.out _) hb
                have AE6 : Hid (ArrI w6 (.agg #[.slice xe 1 ke, .slice ye j me]) [(j : Int)] PD) := ha.arrI
                clear ha hb x0 x1 X5 AR5 AC5 B5
                go_wp2_with fail
                refine (RR.out _ _ (AE6.out.keep (bAlloc (Below.refl _ _) _))).mono ?_
                rintro r w7 ⟨xr, kr, yr, mr, rfl, ha, hb⟩
                have B7 : Hid (Below wd.heap.size wd w7) := bTrans (bAlloc B6.out _) hb
                obtain ⟨_, _, _, _, ev, _, iV, _, _⟩ := ha.arrI
                cases ev
                obtain ⟨pV, oV, rfl, hpV, tV⟩ := iV.at (k := 0) (by simp)
                rw [Nat.add_zero] at tV
                clear ha hb iV AE6 B6
                have W7 : Hid (Below WL.heap.size WL w7) := bTrans BD.out B7.out
                have tVa : ∀ O : Obj, (w7.alloc O).cell? ⟨pV, oV, none⟩ = some (.int .i64 V) := fun O => ((bAlloc (Below.refl w7.heap.size w7) O).cell (p := ⟨pV, oV, none⟩) hpV).trans tV
                obtain ⟨_, _, _, _, ev, _, iG, _, _⟩ := GL.out
                cases ev
                obtain ⟨pG, oG, rfl, hpG, tG⟩ := iG.at (k := k) (by have := DL.out; have := LN9.out; omega)
                rw [DV.out] at tG
                have tGa : ∀ O : Obj, (w7.alloc O).cell? ⟨pG, oG + k, none⟩ = some (.int .i64 V) := fun O => ((bTrans W7.out (bAlloc (Below.refl w7.heap.size w7) O)).cell (p := ⟨pG, oG + k, none⟩) hpG).trans tG
                have gqa : ∀ O : Obj, (w7.alloc O).cell? ⟨w2.heap.size, 1, none⟩ = some (.slice (some ⟨pG, oG, none⟩) D.length eG) := fun O => (QGL.out.keep (bTrans W7.out (bAlloc (Below.refl _ _) O))).c1
                have hVV : (V != V) = false := by simp
                have hk0 : (0 : Int) ≤ (k : Int) := by omega
                have BA : Hid (∀ O : Obj, ∀ m, Below WL.heap.size WL ((w7.alloc O).drewN m)) := fun O m => bTrans (bTrans W7.out (bAlloc (Below.refl _ _) O)) (bDrewN (Below.refl _ _) m)
                clear iG tG tV
                go_wp2_with fail
                go_quiet (fail)
                generalize hWQ : (World.alloc w7 _).drewN nq = wq
                have BQ : Hid (Below WL.heap.size WL wq) := by rw [← hWQ]; exact BA.out _ _
                clear hWQ tVa tGa gqa
                go_wp2
                go_roundg (NN - (k + 1))
                case measure => have := LN9.out; omega
                case rel => exact ⟨k + 1, by omega, by have := LN9.out; omega, by go_num, BQ.out⟩
        · have HTr : Hid (Below w.heap.size w wr) := bTrans HTL.out BK.out
          go_wp2_with fail
          refine (OKC.out _ _ (GL.out.keep BK.out)).mono ?_
          rintro r w9 ⟨rfl, hb⟩
          have HT9 : Hid (Below w.heap.size w w9) := bTrans HTr.out hb
          clear hb
          go_wp2
          go_ret
          exact ⟨rfl, HT9.out⟩
  · have hcb : (C != 0) = true := by simpa using hc
    have hD0 : ((D.length : Int) == 0) = true := by rw [FB.out hc]; rfl
    clear hc FB FC
    go_wp2
    go_ret
    exact ⟨rfl, by first | exact HT3.out | exact bAlloc HT3.out _⟩

/-! ### THE ROW's STEP: WRITTEN OUT: LEAVE IT -/
set_option maxRecDepth 100000 in
theorem lifted (os : Os) (started : os.Started) (H : Type) (enc : TypeId × Value → H) :
    ReturnsInHanded {} Tryz.checked os 3 .any (Rows.fnInnerSpec.pre6 enc Tryz.prog Tryz.f3 Rows.fnInnerRow.domain false) (Rows.fnInnerSpec.post enc Tryz.prog Tryz.f3 false true false false) := by
  refine returnsInHanded_of_change (C := Tryz.checked) own started (by kernel_rfl) Tryz.func3
    (ChangeSpec.witness6 (enc := enc) (C := Tryz.checked) false ⟨#[], #[.slice none 0 0], []⟩ 8 (by kernel_rfl) (by kernel_rfl) (by kernel_rfl) (by kernel_rfl)) ?_
  intro W base args ds gs before hval0 hW hcnd _
  have hval : ∀ (j : Nat) t v, Tryz.f3.params[j]? = some t → args[j]? = some v → Value.okWide Tryz.prog W .any base t v := hval0
  have hW' := hW
  obtain ⟨p, q, hA0, hV, rfl, hfz, hnd⟩ := hW
  have hA : DataW.TrodAll enc Tryz.prog W 0 (fun _ => true) true Tryz.f3.params.toList args.toList ds p := hA0
  rw [Tryz.params3] at hA hval
  obtain ⟨v0, vs0, d0, ds0, p0, q0, hargs, rfl, rfl, h0, r0⟩ := trodAll_cons hA
  obtain ⟨rfl, rfl, rfl⟩ := trodAll_nil r0
  obtain rfl : args = #[v0] := by cases args; simp_all
  obtain ⟨rfl, rfl⟩ := trodVars_none hV
  obtain ⟨a0, len0, cap0, rfl⟩ := okWide_slice Tryz.underlying22 (hval 0 22 v0 rfl rfl)
  have k0 := h0
  have lt0 : ∀ x ∈ p0, x.block < W.heap.size := by obtain ⟨m, hm⟩ := k0; exact DataW.trod_lt m _ _ _ hm
  obtain ⟨z0, w0⟩ : ∃ zs, IsRow .u8 W a0 len0 cap0 zs := by
    obtain ⟨fuel, hf⟩ := h0
    rcases open_ints Tryz.underlying22 Tryz.underlying5 (by kernel_rfl) hf with ⟨hcs, _⟩ | ⟨x, l, c, zs, hcs, _, hl, hm, hz, _, hcell, hwz⟩
    · simp [Value.cells] at hcs
      obtain ⟨rfl, rfl, rfl⟩ := hcs
      exact ⟨[], .inl ⟨rfl, rfl, rfl, rfl⟩⟩
    · simp [Value.cells] at hcs
      obtain ⟨rfl, rfl, rfl⟩ := hcs
      exact ⟨zs, .inr ⟨_, rfl, hl, hm, by simpa using hz, hcell, hwz⟩⟩
  clear hA0 hval0
  refine (walk a0 len0 cap0 z0 W w0).mono fun e W' ⟨he, bel⟩ => ?_
  subst he
  exact ⟨_, rfl, _, _, _, [], _, [], hW', trodAll_mk1 (shut_bool Tryz.underlying4 _), (trodAll_cons_mk (Below.trod laidOut (by kernel_rfl) (of_decide_eq_true (by kernel_rfl)) k0 bel lt0) trodAll_mk0), rfl, bel.frame _, fun h => by cases h⟩

theorem over : Rows.fnInnerRow.holds Tryz.pinned (OpenSpec.ofChange Rows.fnInnerSpec) :=
  OpenClaim.holds_of_wide 3 Tryz.f3 rfl rfl rfl rfl rfl rfl rfl ⟨rfl, rfl, rfl, rfl, rfl⟩ rfl rfl rfl rfl rfl (by kernel_rfl) Tryz.func3 (by kernel_rfl)
    (of_decide_eq_true (by kernel_rfl)) (by unfold Func.isWrapper; first | (rw [if_pos (by decide +kernel)]; kernel_rfl) | (rw [if_neg (by decide +kernel)]; exact ⟨rfl, rfl⟩))
    (fun os started H enc _ => lifted os started H enc)

/-- ████ THE STATEMENT ████ -/
theorem proved : Rows.FnInnerSaid := over
end Go.Proofs.YtnkacfgbkfkhdaaGreat.fnInner
namespace Go.Proofs.YtnkacfgbkfkhdaaGreat
theorem fnInner_holds : Rows.FnInnerSaid := fnInner.proved
#print axioms fnInner_holds
end Go.Proofs.YtnkacfgbkfkhdaaGreat
