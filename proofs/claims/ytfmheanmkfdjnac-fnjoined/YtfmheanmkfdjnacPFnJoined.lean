/-
  Proved: whatever code it is given, the law FnJoined returns true (drawn arrays that the program joins have the rows of both; what it takes and drops of it are they again). No condition.
-/
import Derived.Test.YtfmheanmkfdjnacRows
import Derived.WalkKit
import Derived.ProofKit
import Derived.OpenShut
import Derived.ShutString
import Derived.ChangeOld
import Derived.Below
import Derived.Test.YtfmheanmkfdjnacJoinF
import Derived.Test.YtfmheanmkfdjnacDrawJoin
import Derived.Test.YtfmheanmkfdjnacSpecJoin0
import Derived.Test.YtfmheanmkfdjnacImplJoin
import Derived.Test.YtfmheanmkfdjnacImplMake10
import Derived.Test.YtfmheanmkfdjnacSpecEach1
import Derived.Test.YtfmheanmkfdjnacImplArr3
import Derived.Test.YtfmheanmkfdjnacLaw3
namespace Go.Proofs.Ytfmheanmkfdjnac.fnJoined
open Go.ChangeShapes Go.WideShapes Go.ChangeAt Go.RowKit
open Go.ChangeMaps (open_string shut_string)
set_option linter.unusedVariables false
set_option linter.unusedSimpArgs false
set_option linter.unusedVariables false

theorem own : ownKnob Try.prog.godebug = none := by kernel_rfl
theorem laidOut : laidOutB Try.prog = true := by kernel_rfl

/-! ### STEP 1: THE WALK: the Go text returns true, AND WRITES NOTHING THAT WAS THERE: 'Below w.heap.size w w'' (Derived/Below.lean: '.refl', '.alloc', '.drew', '.setCell' at a new block, '.trans'). Open each 'IsRow' by 'rcases' AHEAD of 'go_enter'; part every test ahead of the walk. -/
set_option maxRecDepth 20000 in
set_option maxHeartbeats 8000000 in
theorem walk (a0 : Option Addr) (len0 cap0 : Nat) (z0 : List Int) (w : World) (w0 : IsRow .u8 w a0 len0 cap0 z0) :
    Calls Try.prog 8 #[.slice a0 len0 cap0] w fun e w' => e = .returned (.bool true) ∧ Below w.heap.size w w' := by
  have HS : Hid (Src w.heap.size w a0 len0) := src_of_row w0
  clear w0
  by_cases hbig : (1048576 : Int) < (len0 : Int)
  · go_enter Try.func8, Try.ntmps8
    go_wp2_with (go_at_call 9; refine (big_laws _ _ _ _).mono ?_; rintro e w' ⟨rfl, hw⟩; subst w')
    go_ret
    exact ⟨rfl, Below.refl _ _⟩
  have hb20 : len0 ≤ 1048576 := by omega
  go_enter Try.func8, Try.ntmps8
  go_wp2_with (go_at_call 9; refine (big_laws _ _ _ _).mono ?_; rintro e w' ⟨rfl, hw⟩; subst w')
  refine (drawJoin_spec HS.out hb20).mono ?_
  rintro r w1 ⟨v1, v2, s, d, t, f, rfl, ha, hc0, ⟨hls, hld, hlt, hlf⟩, hb⟩
  obtain ⟨a1, c1, b1, e1, rfl, _, _, _, _⟩ := ha.arrI
  obtain ⟨a2, c2, b2, e2, rfl, _, _, _, _⟩ := hc0.arrI
  have N_1 : Hid (Arr w.heap.size w1.heap.size w1 (.agg #[.slice a1 s.length c1, .slice b1 d.length e1]) s d) := ha
  have M_1 : Hid (Arr w.heap.size w1.heap.size w1 (.agg #[.slice a2 t.length c2, .slice b2 f.length e2]) t f) := hc0
  have Ls : Hid (s.length ≤ 1048576) := by show _ ≤ _; omega
  have Ld : Hid (d.length ≤ 1048576) := by show _ ≤ _; omega
  have Lt : Hid (t.length ≤ 1048576) := by show _ ≤ _; omega
  have Lf : Hid (f.length ≤ 1048576) := by show _ ≤ _; omega
  have HT1 : Hid (Below w.heap.size w w1) := hb
  have SZ1 : Hid (w.heap.size ≤ w1.heap.size) := hb.size
  clear hb ha hc0 hls hld hlt hlf
  obtain ⟨m, hm⟩ : ∃ m, m = (rowsS s).getD 0 0 := ⟨_, rfl⟩
  obtain ⟨C, hC⟩ : ∃ y, y = (joinR s d t f).1 := ⟨_, rfl⟩
  obtain ⟨S, hS⟩ : ∃ y, y = (joinR s d t f).2.1 := ⟨_, rfl⟩
  obtain ⟨D, hD⟩ : ∃ y, y = (joinR s d t f).2.2 := ⟨_, rfl⟩
  obtain ⟨C2, hC2⟩ : ∃ y, y = (takeR [] [m] S D).1 := ⟨_, rfl⟩
  obtain ⟨S2, hS2⟩ : ∃ y, y = (takeR [] [m] S D).2.1 := ⟨_, rfl⟩
  obtain ⟨D2, hD2⟩ : ∃ y, y = (takeR [] [m] S D).2.2 := ⟨_, rfl⟩
  obtain ⟨C3, hC3⟩ : ∃ y, y = (dropR [] [m] S D).1 := ⟨_, rfl⟩
  obtain ⟨S3, hS3⟩ : ∃ y, y = (dropR [] [m] S D).2.1 := ⟨_, rfl⟩
  obtain ⟨D3, hD3⟩ : ∃ y, y = (dropR [] [m] S D).2.2 := ⟨_, rfl⟩
  have LA : Hid (S.length ≤ 1048576 ∧ D.length ≤ 1048576) := by show _ ∧ _; rw [hS, hD]; exact mkR_len (fun h => (join_len h).1) (fun h => (join_len h).2)
  have EI : Hid (∀ (W : World) (u0 : Value) (_ : ArrI W u0 s d) (u1 : Value) (_ : ArrI W u1 t f), Calls Try.prog 35 #[u0, u1] W fun e w' => ∃ v, e = .returned (.tuple #[v, .int .i64 C]) ∧ Arr W.heap.size w'.heap.size w' v S D ∧ Below W.heap.size W w') := by
    intro W u0 h0 u1 h1
    rw [hC, hS, hD]
    exact join_impl h0 h1 Ls.out Ld.out Lt.out Lf.out
  have ES : Hid (∀ (W : World) (u0 : Value) (_ : ArrI W u0 s d) (u1 : Value) (_ : ArrI W u1 t f), Calls Try.prog 36 #[u0, u1] W fun e w' => ∃ v, e = .returned (.tuple #[v, .int .i64 C]) ∧ Arr W.heap.size w'.heap.size w' v S D ∧ Below W.heap.size W w') := by
    intro W u0 h0 u1 h1
    rw [hC, hS, hD]
    exact join_spec h0 h1 Ld.out Lf.out
  have E2 : Hid (∀ (W : World) (u0 : Value) (_ : ArrI W u0 [] [m]) (u1 : Value) (_ : ArrI W u1 S D), Calls Try.prog 38 #[u0, u1] W fun e w' => ∃ v, e = .returned (.tuple #[v, .int .i64 C2]) ∧ Arr W.heap.size w'.heap.size w' v S2 D2 ∧ Below W.heap.size W w') := by
    intro W u0 h0 u1 h1
    rw [hC2, hS2, hD2]
    exact take_impl h0 h1 (by simp) (by simp) LA.out.1 LA.out.2
  have E3 : Hid (∀ (W : World) (u0 : Value) (_ : ArrI W u0 [] [m]) (u1 : Value) (_ : ArrI W u1 S D), Calls Try.prog 39 #[u0, u1] W fun e w' => ∃ v, e = .returned (.tuple #[v, .int .i64 C3]) ∧ Arr W.heap.size w'.heap.size w' v S3 D3 ∧ Below W.heap.size W w') := by
    intro W u0 h0 u1 h1
    rw [hC3, hS3, hD3]
    exact drop_impl h0 h1 (by simp) (by simp) LA.out.1 LA.out.2
  have FG : Hid (C = 0 → (0 ≤ m ∧ m ≤ 300) ∧ C2 = 0 ∧ C3 = 0 ∧ D2 = d ∧ D3 = f ∧ D.length = d.length + f.length ∧ (s = [] → m = 1) ∧ (s ≠ [] → s.getD 0 0 = m)) := by
    intro h
    rw [hC] at h
    obtain ⟨m', n, tl, q1, q2, r1, r2, r3, q4⟩ := joined_code h
    have hmm : m = m' := by rw [hm, q1]; rfl
    rw [q4] at hS hD
    obtain ⟨f1, f2, f3⟩ := joined_facts r1 r2 r3
    rw [hS, hD, hmm, f1] at hC2 hD2
    rw [hS, hD, hmm] at hC3 hD3
    refine ⟨by rw [hmm]; exact q2, hC2, by rw [hC3]; exact f2, hD2, by rw [hD3]; exact f3, by rw [hD]; exact List.length_append, fun h0 => ?_, fun h0 => ?_⟩
    · rw [hm, h0]; rfl
    · rw [hm]; unfold rowsS; rw [if_neg h0]
  have FB : Hid (C ≠ 0 → D.length = 0) := by
    intro h
    rw [hD]
    rw [hC] at h
    exact joined_bad h
  have hneC : (C != C) = false := by simp
  clear hC hS hD hC2 hS2 hD2 hC3 hS3 hD3 hm
  go_wp2_with fail
  refine (EI.out _ _ ((N_1.out.arrI).keep (bAlloc (bAlloc (Below.refl _ _) _) _)) _ ((M_1.out.arrI).keep (bAlloc (bAlloc (Below.refl _ _) _) _))).mono ?_
  rintro r w2 ⟨vG, rfl, ha, hb⟩
  obtain ⟨aG, cG, bG, eG, rfl, _, _, _, _⟩ := ha.arrI
  have G_2 : Hid (Arr (w1.heap.size + 2) w2.heap.size w2 (.agg #[.slice aG S.length cG, .slice bG D.length eG]) S D) := ha.mono (by first | exact Nat.le_refl _ | simp | (simp; omega)) (Nat.le_refl _)
  clear ha
  have HB2 : Hid (Below w1.heap.size w1 w2) := bTrans (bAlloc (bAlloc (Below.refl _ _) _) _) hb
  have HT2 : Hid (Below w.heap.size w w2) := bTrans HT1.out HB2.out
  have SZ2 : Hid (w1.heap.size ≤ w2.heap.size) := HB2.out.size
  have N_2 : Hid (Arr w.heap.size w1.heap.size w2 (.agg #[.slice a1 s.length c1, .slice b1 d.length e1]) s d) := N_1.out.keep HB2.out
  have M_2 : Hid (Arr w.heap.size w1.heap.size w2 (.agg #[.slice a2 t.length c2, .slice b2 f.length e2]) t f) := M_1.out.keep HB2.out
  have QN_2 : Hid (Box w2 w1.heap.size (.slice a1 s.length c1) (.slice b1 d.length e1) 26) := ((box_new w1 _ _ _).keep (bAlloc (Below.refl _ _) _)).keep hb
  have LTQN : Hid (w1.heap.size < w2.heap.size) := QN_2.out.lt
  have QM_2 : Hid (Box w2 (w1.heap.size + 1) (.slice a2 t.length c2) (.slice b2 f.length e2) 26) := (box_new2 w1 _ _ _ _).keep hb
  have LTQM : Hid ((w1.heap.size + 1) < w2.heap.size) := QM_2.out.lt
  clear N_1 M_1 hb
  have QNc0 := QN_2.out.c0
  have QNc1 := QN_2.out.c1
  have QNd0 : ∀ o : Obj, (w2.alloc o).cell? ⟨w1.heap.size, 0, none⟩ = some (.slice a1 s.length c1) := fun o => (QN_2.out.keep (bAlloc (Below.refl _ _) o)).c0
  have QNd1 : ∀ o : Obj, (w2.alloc o).cell? ⟨w1.heap.size, 1, none⟩ = some (.slice b1 d.length e1) := fun o => (QN_2.out.keep (bAlloc (Below.refl _ _) o)).c1
  have QMc0 := QM_2.out.c0
  have QMc1 := QM_2.out.c1
  have QMd0 : ∀ o : Obj, (w2.alloc o).cell? ⟨(w1.heap.size + 1), 0, none⟩ = some (.slice a2 t.length c2) := fun o => (QM_2.out.keep (bAlloc (Below.refl _ _) o)).c0
  have QMd1 : ∀ o : Obj, (w2.alloc o).cell? ⟨(w1.heap.size + 1), 1, none⟩ = some (.slice b2 f.length e2) := fun o => (QM_2.out.keep (bAlloc (Below.refl _ _) o)).c1
  go_wp2_with fail
  refine (ES.out _ _ ((N_2.out.arrI).keep (bAlloc (Below.refl _ _) _)) _ ((M_2.out.arrI).keep (bAlloc (Below.refl _ _) _))).mono ?_
  rintro r w3 ⟨vW, rfl, ha, hb⟩
  obtain ⟨aW, cW, bW, eW, rfl, _, _, _, _⟩ := ha.arrI
  have W_3 : Hid (Arr (w2.heap.size + 1) w3.heap.size w3 (.agg #[.slice aW S.length cW, .slice bW D.length eW]) S D) := ha.mono (by first | exact Nat.le_refl _ | simp | (simp; omega)) (Nat.le_refl _)
  clear ha
  have HB3 : Hid (Below w2.heap.size w2 w3) := bTrans (bAlloc (Below.refl _ _) _) hb
  have HT3 : Hid (Below w.heap.size w w3) := bTrans HT2.out HB3.out
  have SZ3 : Hid (w2.heap.size ≤ w3.heap.size) := HB3.out.size
  have QN_3 : Hid (Box w3 w1.heap.size (.slice a1 s.length c1) (.slice b1 d.length e1) 26) := QN_2.out.keep HB3.out
  have QM_3 : Hid (Box w3 (w1.heap.size + 1) (.slice a2 t.length c2) (.slice b2 f.length e2) 26) := QM_2.out.keep HB3.out
  have N_3 : Hid (Arr w.heap.size w1.heap.size w3 (.agg #[.slice a1 s.length c1, .slice b1 d.length e1]) s d) := N_2.out.keep HB3.out
  have M_3 : Hid (Arr w.heap.size w1.heap.size w3 (.agg #[.slice a2 t.length c2, .slice b2 f.length e2]) t f) := M_2.out.keep HB3.out
  have G_3 : Hid (Arr (w1.heap.size + 2) w2.heap.size w3 (.agg #[.slice aG S.length cG, .slice bG D.length eG]) S D) := G_2.out.keep HB3.out
  have QG_3 : Hid (Box w3 w2.heap.size (.slice aG S.length cG) (.slice bG D.length eG) 26) := (box_new w2 _ _ _).keep hb
  have LTQG : Hid (w2.heap.size < w3.heap.size) := QG_3.out.lt
  clear QN_2 QM_2 N_2 M_2 G_2 QNc0 QNc1 QNd0 QNd1 QMc0 QMc1 QMd0 QMd1 hb
  have QNc0 := QN_3.out.c0
  have QNc1 := QN_3.out.c1
  have QNd0 : ∀ o : Obj, (w3.alloc o).cell? ⟨w1.heap.size, 0, none⟩ = some (.slice a1 s.length c1) := fun o => (QN_3.out.keep (bAlloc (Below.refl _ _) o)).c0
  have QNd1 : ∀ o : Obj, (w3.alloc o).cell? ⟨w1.heap.size, 1, none⟩ = some (.slice b1 d.length e1) := fun o => (QN_3.out.keep (bAlloc (Below.refl _ _) o)).c1
  have QMc0 := QM_3.out.c0
  have QMc1 := QM_3.out.c1
  have QMd0 : ∀ o : Obj, (w3.alloc o).cell? ⟨(w1.heap.size + 1), 0, none⟩ = some (.slice a2 t.length c2) := fun o => (QM_3.out.keep (bAlloc (Below.refl _ _) o)).c0
  have QMd1 : ∀ o : Obj, (w3.alloc o).cell? ⟨(w1.heap.size + 1), 1, none⟩ = some (.slice b2 f.length e2) := fun o => (QM_3.out.keep (bAlloc (Below.refl _ _) o)).c1
  have QGc0 := QG_3.out.c0
  have QGc1 := QG_3.out.c1
  have QGd0 : ∀ o : Obj, (w3.alloc o).cell? ⟨w2.heap.size, 0, none⟩ = some (.slice aG S.length cG) := fun o => (QG_3.out.keep (bAlloc (Below.refl _ _) o)).c0
  have QGd1 : ∀ o : Obj, (w3.alloc o).cell? ⟨w2.heap.size, 1, none⟩ = some (.slice bG D.length eG) := fun o => (QG_3.out.keep (bAlloc (Below.refl _ _) o)).c1
  by_cases hc : C = 0
  · obtain ⟨⟨m0, m1⟩, rfl, rfl, hD2, hD3, hDl, hs0, hs1⟩ := FG.out hc
    subst hc
    have HD2 : Hid (D2 = d) := hD2
    have HD3 : Hid (D3 = f) := hD3
    have HDL : Hid (D.length = d.length + f.length) := hDl
    have SK : Hid (∀ W, Calls Try.prog 37 #[.int .i64 m] W fun e w' => ∃ v, e = .returned (.tuple #[v, .bool true]) ∧ Arr W.heap.size w'.heap.size w' v [] [m] ∧ Below W.heap.size W w') := fun W => by
      have q := scalarOf_impl m W
      rw [(scalar_right m0 m1).1, if_pos rfl] at q
      exact q
    clear hD2 hD3 hDl FG FB
    by_cases h0 : s = []
    · have hl0 : ¬ (0 : Int) < (s.length : Int) := by rw [h0]; simp
      have hlb : decide ((0 : Int) < (s.length : Int)) = false := by rw [h0]; rfl
      obtain rfl : m = 1 := hs0 h0
      clear hs0 hs1 h0
      go_wp2_with fail
      refine (SK.out _).mono ?_
      rintro r w4 ⟨vK, rfl, ha, hb⟩
      obtain ⟨aK, cK, bK, eK, rfl, _, _, _, _⟩ := ha.arrI
      have K_4 : Hid (Arr (w3.heap.size + 1) w4.heap.size w4 (.agg #[.slice aK 0 cK, .slice bK 1 eK]) [] [1]) := ha.mono (by first | exact Nat.le_refl _ | simp | (simp; omega)) (Nat.le_refl _)
      clear ha
      have HB4 : Hid (Below w3.heap.size w3 w4) := bTrans (bAlloc (Below.refl _ _) _) hb
      have HT4 : Hid (Below w.heap.size w w4) := bTrans HT3.out HB4.out
      have SZ4 : Hid (w3.heap.size ≤ w4.heap.size) := HB4.out.size
      have QN_4 : Hid (Box w4 w1.heap.size (.slice a1 s.length c1) (.slice b1 d.length e1) 26) := QN_3.out.keep HB4.out
      have QM_4 : Hid (Box w4 (w1.heap.size + 1) (.slice a2 t.length c2) (.slice b2 f.length e2) 26) := QM_3.out.keep HB4.out
      have QG_4 : Hid (Box w4 w2.heap.size (.slice aG S.length cG) (.slice bG D.length eG) 26) := QG_3.out.keep HB4.out
      have N_4 : Hid (Arr w.heap.size w1.heap.size w4 (.agg #[.slice a1 s.length c1, .slice b1 d.length e1]) s d) := N_3.out.keep HB4.out
      have M_4 : Hid (Arr w.heap.size w1.heap.size w4 (.agg #[.slice a2 t.length c2, .slice b2 f.length e2]) t f) := M_3.out.keep HB4.out
      have G_4 : Hid (Arr (w1.heap.size + 2) w2.heap.size w4 (.agg #[.slice aG S.length cG, .slice bG D.length eG]) S D) := G_3.out.keep HB4.out
      have QW_4 : Hid (Box w4 w3.heap.size (.slice aW S.length cW) (.slice bW D.length eW) 26) := (box_new w3 _ _ _).keep hb
      have LTQW : Hid (w3.heap.size < w4.heap.size) := QW_4.out.lt
      clear QN_3 QM_3 QG_3 N_3 M_3 G_3 QNc0 QNc1 QNd0 QNd1 QMc0 QMc1 QMd0 QMd1 QGc0 QGc1 QGd0 QGd1 hb
      have QNc0 := QN_4.out.c0
      have QNc1 := QN_4.out.c1
      have QNd0 : ∀ o : Obj, (w4.alloc o).cell? ⟨w1.heap.size, 0, none⟩ = some (.slice a1 s.length c1) := fun o => (QN_4.out.keep (bAlloc (Below.refl _ _) o)).c0
      have QNd1 : ∀ o : Obj, (w4.alloc o).cell? ⟨w1.heap.size, 1, none⟩ = some (.slice b1 d.length e1) := fun o => (QN_4.out.keep (bAlloc (Below.refl _ _) o)).c1
      have QMc0 := QM_4.out.c0
      have QMc1 := QM_4.out.c1
      have QMd0 : ∀ o : Obj, (w4.alloc o).cell? ⟨(w1.heap.size + 1), 0, none⟩ = some (.slice a2 t.length c2) := fun o => (QM_4.out.keep (bAlloc (Below.refl _ _) o)).c0
      have QMd1 : ∀ o : Obj, (w4.alloc o).cell? ⟨(w1.heap.size + 1), 1, none⟩ = some (.slice b2 f.length e2) := fun o => (QM_4.out.keep (bAlloc (Below.refl _ _) o)).c1
      have QGc0 := QG_4.out.c0
      have QGc1 := QG_4.out.c1
      have QGd0 : ∀ o : Obj, (w4.alloc o).cell? ⟨w2.heap.size, 0, none⟩ = some (.slice aG S.length cG) := fun o => (QG_4.out.keep (bAlloc (Below.refl _ _) o)).c0
      have QGd1 : ∀ o : Obj, (w4.alloc o).cell? ⟨w2.heap.size, 1, none⟩ = some (.slice bG D.length eG) := fun o => (QG_4.out.keep (bAlloc (Below.refl _ _) o)).c1
      have QWc0 := QW_4.out.c0
      have QWc1 := QW_4.out.c1
      have QWd0 : ∀ o : Obj, (w4.alloc o).cell? ⟨w3.heap.size, 0, none⟩ = some (.slice aW S.length cW) := fun o => (QW_4.out.keep (bAlloc (Below.refl _ _) o)).c0
      have QWd1 : ∀ o : Obj, (w4.alloc o).cell? ⟨w3.heap.size, 1, none⟩ = some (.slice bW D.length eW) := fun o => (QW_4.out.keep (bAlloc (Below.refl _ _) o)).c1
      go_wp2_with fail
      refine (E2.out _ _ ((K_4.out.arrI).keep (bAlloc (Below.refl _ _) _)) _ ((G_4.out.arrI).keep (bAlloc (Below.refl _ _) _))).mono ?_
      rintro r w5 ⟨vH, rfl, ha, hb⟩
      obtain ⟨aH, cH, bH, eH, rfl, _, _, _, _⟩ := ha.arrI
      have H_5 : Hid (Arr (w4.heap.size + 1) w5.heap.size w5 (.agg #[.slice aH S2.length cH, .slice bH D2.length eH]) S2 D2) := ha.mono (by first | exact Nat.le_refl _ | simp | (simp; omega)) (Nat.le_refl _)
      clear ha
      have HB5 : Hid (Below w4.heap.size w4 w5) := bTrans (bAlloc (Below.refl _ _) _) hb
      have HT5 : Hid (Below w.heap.size w w5) := bTrans HT4.out HB5.out
      have SZ5 : Hid (w4.heap.size ≤ w5.heap.size) := HB5.out.size
      have QN_5 : Hid (Box w5 w1.heap.size (.slice a1 s.length c1) (.slice b1 d.length e1) 26) := QN_4.out.keep HB5.out
      have QM_5 : Hid (Box w5 (w1.heap.size + 1) (.slice a2 t.length c2) (.slice b2 f.length e2) 26) := QM_4.out.keep HB5.out
      have QG_5 : Hid (Box w5 w2.heap.size (.slice aG S.length cG) (.slice bG D.length eG) 26) := QG_4.out.keep HB5.out
      have QW_5 : Hid (Box w5 w3.heap.size (.slice aW S.length cW) (.slice bW D.length eW) 26) := QW_4.out.keep HB5.out
      have N_5 : Hid (Arr w.heap.size w1.heap.size w5 (.agg #[.slice a1 s.length c1, .slice b1 d.length e1]) s d) := N_4.out.keep HB5.out
      have M_5 : Hid (Arr w.heap.size w1.heap.size w5 (.agg #[.slice a2 t.length c2, .slice b2 f.length e2]) t f) := M_4.out.keep HB5.out
      have G_5 : Hid (Arr (w1.heap.size + 2) w2.heap.size w5 (.agg #[.slice aG S.length cG, .slice bG D.length eG]) S D) := G_4.out.keep HB5.out
      have K_5 : Hid (Arr (w3.heap.size + 1) w4.heap.size w5 (.agg #[.slice aK 0 cK, .slice bK 1 eK]) [] [1]) := K_4.out.keep HB5.out
      have QK_5 : Hid (Box w5 w4.heap.size (.slice aK 0 cK) (.slice bK 1 eK) 26) := (box_new w4 _ _ _).keep hb
      have LTQK : Hid (w4.heap.size < w5.heap.size) := QK_5.out.lt
      clear QN_4 QM_4 QG_4 QW_4 N_4 M_4 G_4 K_4 QNc0 QNc1 QNd0 QNd1 QMc0 QMc1 QMd0 QMd1 QGc0 QGc1 QGd0 QGd1 QWc0 QWc1 QWd0 QWd1 hb
      have QNc0 := QN_5.out.c0
      have QNc1 := QN_5.out.c1
      have QNd0 : ∀ o : Obj, (w5.alloc o).cell? ⟨w1.heap.size, 0, none⟩ = some (.slice a1 s.length c1) := fun o => (QN_5.out.keep (bAlloc (Below.refl _ _) o)).c0
      have QNd1 : ∀ o : Obj, (w5.alloc o).cell? ⟨w1.heap.size, 1, none⟩ = some (.slice b1 d.length e1) := fun o => (QN_5.out.keep (bAlloc (Below.refl _ _) o)).c1
      have QMc0 := QM_5.out.c0
      have QMc1 := QM_5.out.c1
      have QMd0 : ∀ o : Obj, (w5.alloc o).cell? ⟨(w1.heap.size + 1), 0, none⟩ = some (.slice a2 t.length c2) := fun o => (QM_5.out.keep (bAlloc (Below.refl _ _) o)).c0
      have QMd1 : ∀ o : Obj, (w5.alloc o).cell? ⟨(w1.heap.size + 1), 1, none⟩ = some (.slice b2 f.length e2) := fun o => (QM_5.out.keep (bAlloc (Below.refl _ _) o)).c1
      have QGc0 := QG_5.out.c0
      have QGc1 := QG_5.out.c1
      have QGd0 : ∀ o : Obj, (w5.alloc o).cell? ⟨w2.heap.size, 0, none⟩ = some (.slice aG S.length cG) := fun o => (QG_5.out.keep (bAlloc (Below.refl _ _) o)).c0
      have QGd1 : ∀ o : Obj, (w5.alloc o).cell? ⟨w2.heap.size, 1, none⟩ = some (.slice bG D.length eG) := fun o => (QG_5.out.keep (bAlloc (Below.refl _ _) o)).c1
      have QWc0 := QW_5.out.c0
      have QWc1 := QW_5.out.c1
      have QWd0 : ∀ o : Obj, (w5.alloc o).cell? ⟨w3.heap.size, 0, none⟩ = some (.slice aW S.length cW) := fun o => (QW_5.out.keep (bAlloc (Below.refl _ _) o)).c0
      have QWd1 : ∀ o : Obj, (w5.alloc o).cell? ⟨w3.heap.size, 1, none⟩ = some (.slice bW D.length eW) := fun o => (QW_5.out.keep (bAlloc (Below.refl _ _) o)).c1
      have QKc0 := QK_5.out.c0
      have QKc1 := QK_5.out.c1
      have QKd0 : ∀ o : Obj, (w5.alloc o).cell? ⟨w4.heap.size, 0, none⟩ = some (.slice aK 0 cK) := fun o => (QK_5.out.keep (bAlloc (Below.refl _ _) o)).c0
      have QKd1 : ∀ o : Obj, (w5.alloc o).cell? ⟨w4.heap.size, 1, none⟩ = some (.slice bK 1 eK) := fun o => (QK_5.out.keep (bAlloc (Below.refl _ _) o)).c1
      go_wp2_with fail
      refine (E3.out _ _ ((K_5.out.arrI).keep (bAlloc (Below.refl _ _) _)) _ ((G_5.out.arrI).keep (bAlloc (Below.refl _ _) _))).mono ?_
      rintro r w6 ⟨vT, rfl, ha, hb⟩
      obtain ⟨aT, cT, bT, eT, rfl, _, _, _, _⟩ := ha.arrI
      have T_6 : Hid (Arr (w5.heap.size + 1) w6.heap.size w6 (.agg #[.slice aT S3.length cT, .slice bT D3.length eT]) S3 D3) := ha.mono (by first | exact Nat.le_refl _ | simp | (simp; omega)) (Nat.le_refl _)
      clear ha
      have HB6 : Hid (Below w5.heap.size w5 w6) := bTrans (bAlloc (Below.refl _ _) _) hb
      have HT6 : Hid (Below w.heap.size w w6) := bTrans HT5.out HB6.out
      have SZ6 : Hid (w5.heap.size ≤ w6.heap.size) := HB6.out.size
      have QN_6 : Hid (Box w6 w1.heap.size (.slice a1 s.length c1) (.slice b1 d.length e1) 26) := QN_5.out.keep HB6.out
      have QM_6 : Hid (Box w6 (w1.heap.size + 1) (.slice a2 t.length c2) (.slice b2 f.length e2) 26) := QM_5.out.keep HB6.out
      have QG_6 : Hid (Box w6 w2.heap.size (.slice aG S.length cG) (.slice bG D.length eG) 26) := QG_5.out.keep HB6.out
      have QW_6 : Hid (Box w6 w3.heap.size (.slice aW S.length cW) (.slice bW D.length eW) 26) := QW_5.out.keep HB6.out
      have QK_6 : Hid (Box w6 w4.heap.size (.slice aK 0 cK) (.slice bK 1 eK) 26) := QK_5.out.keep HB6.out
      have N_6 : Hid (Arr w.heap.size w1.heap.size w6 (.agg #[.slice a1 s.length c1, .slice b1 d.length e1]) s d) := N_5.out.keep HB6.out
      have M_6 : Hid (Arr w.heap.size w1.heap.size w6 (.agg #[.slice a2 t.length c2, .slice b2 f.length e2]) t f) := M_5.out.keep HB6.out
      have G_6 : Hid (Arr (w1.heap.size + 2) w2.heap.size w6 (.agg #[.slice aG S.length cG, .slice bG D.length eG]) S D) := G_5.out.keep HB6.out
      have K_6 : Hid (Arr (w3.heap.size + 1) w4.heap.size w6 (.agg #[.slice aK 0 cK, .slice bK 1 eK]) [] [1]) := K_5.out.keep HB6.out
      have H_6 : Hid (Arr (w4.heap.size + 1) w5.heap.size w6 (.agg #[.slice aH S2.length cH, .slice bH D2.length eH]) S2 D2) := H_5.out.keep HB6.out
      have QH_6 : Hid (Box w6 w5.heap.size (.slice aH S2.length cH) (.slice bH D2.length eH) 26) := (box_new w5 _ _ _).keep hb
      have LTQH : Hid (w5.heap.size < w6.heap.size) := QH_6.out.lt
      clear QN_5 QM_5 QG_5 QW_5 QK_5 N_5 M_5 G_5 K_5 H_5 QNc0 QNc1 QNd0 QNd1 QMc0 QMc1 QMd0 QMd1 QGc0 QGc1 QGd0 QGd1 QWc0 QWc1 QWd0 QWd1 QKc0 QKc1 QKd0 QKd1 hb
      have QNc0 := QN_6.out.c0
      have QNc1 := QN_6.out.c1
      have QNd0 : ∀ o : Obj, (w6.alloc o).cell? ⟨w1.heap.size, 0, none⟩ = some (.slice a1 s.length c1) := fun o => (QN_6.out.keep (bAlloc (Below.refl _ _) o)).c0
      have QNd1 : ∀ o : Obj, (w6.alloc o).cell? ⟨w1.heap.size, 1, none⟩ = some (.slice b1 d.length e1) := fun o => (QN_6.out.keep (bAlloc (Below.refl _ _) o)).c1
      have QMc0 := QM_6.out.c0
      have QMc1 := QM_6.out.c1
      have QMd0 : ∀ o : Obj, (w6.alloc o).cell? ⟨(w1.heap.size + 1), 0, none⟩ = some (.slice a2 t.length c2) := fun o => (QM_6.out.keep (bAlloc (Below.refl _ _) o)).c0
      have QMd1 : ∀ o : Obj, (w6.alloc o).cell? ⟨(w1.heap.size + 1), 1, none⟩ = some (.slice b2 f.length e2) := fun o => (QM_6.out.keep (bAlloc (Below.refl _ _) o)).c1
      have QGc0 := QG_6.out.c0
      have QGc1 := QG_6.out.c1
      have QGd0 : ∀ o : Obj, (w6.alloc o).cell? ⟨w2.heap.size, 0, none⟩ = some (.slice aG S.length cG) := fun o => (QG_6.out.keep (bAlloc (Below.refl _ _) o)).c0
      have QGd1 : ∀ o : Obj, (w6.alloc o).cell? ⟨w2.heap.size, 1, none⟩ = some (.slice bG D.length eG) := fun o => (QG_6.out.keep (bAlloc (Below.refl _ _) o)).c1
      have QWc0 := QW_6.out.c0
      have QWc1 := QW_6.out.c1
      have QWd0 : ∀ o : Obj, (w6.alloc o).cell? ⟨w3.heap.size, 0, none⟩ = some (.slice aW S.length cW) := fun o => (QW_6.out.keep (bAlloc (Below.refl _ _) o)).c0
      have QWd1 : ∀ o : Obj, (w6.alloc o).cell? ⟨w3.heap.size, 1, none⟩ = some (.slice bW D.length eW) := fun o => (QW_6.out.keep (bAlloc (Below.refl _ _) o)).c1
      have QKc0 := QK_6.out.c0
      have QKc1 := QK_6.out.c1
      have QKd0 : ∀ o : Obj, (w6.alloc o).cell? ⟨w4.heap.size, 0, none⟩ = some (.slice aK 0 cK) := fun o => (QK_6.out.keep (bAlloc (Below.refl _ _) o)).c0
      have QKd1 : ∀ o : Obj, (w6.alloc o).cell? ⟨w4.heap.size, 1, none⟩ = some (.slice bK 1 eK) := fun o => (QK_6.out.keep (bAlloc (Below.refl _ _) o)).c1
      have QHc0 := QH_6.out.c0
      have QHc1 := QH_6.out.c1
      have QHd0 : ∀ o : Obj, (w6.alloc o).cell? ⟨w5.heap.size, 0, none⟩ = some (.slice aH S2.length cH) := fun o => (QH_6.out.keep (bAlloc (Below.refl _ _) o)).c0
      have QHd1 : ∀ o : Obj, (w6.alloc o).cell? ⟨w5.heap.size, 1, none⟩ = some (.slice bH D2.length eH) := fun o => (QH_6.out.keep (bAlloc (Below.refl _ _) o)).c1
      have SI1 : Hid (∀ W, ArrI W (.agg #[.slice aH S2.length cH, .slice bH D2.length eH]) S2 D2 → ArrI W (.agg #[.slice a1 s.length c1, .slice b1 d.length e1]) s d → Calls Try.prog 14 #[.slice bH D2.length eH, .slice b1 d.length e1] W fun e w' => e = .returned (.bool true) ∧ Below W.heap.size W w') := fun W i1 i2 => by
        obtain ⟨_, _, _, _, ev, _, j1, _, _⟩ := i1
        cases ev
        obtain ⟨_, _, _, _, ev, _, j2, _, _⟩ := i2
        cases ev
        refine (same_ints eH e1 (by rw [HD2.out]; have := Ld.out; omega) j1 j2).mono ?_
        rintro r w' ⟨rfl, n, rfl⟩
        exact ⟨by simp [HD2.out], bDrewN (Below.refl _ _) n⟩
      have SI2 : Hid (∀ W, ArrI W (.agg #[.slice aT S3.length cT, .slice bT D3.length eT]) S3 D3 → ArrI W (.agg #[.slice a2 t.length c2, .slice b2 f.length e2]) t f → Calls Try.prog 14 #[.slice bT D3.length eT, .slice b2 f.length e2] W fun e w' => e = .returned (.bool true) ∧ Below W.heap.size W w') := fun W i1 i2 => by
        obtain ⟨_, _, _, _, ev, _, j1, _, _⟩ := i1
        cases ev
        obtain ⟨_, _, _, _, ev, _, j2, _, _⟩ := i2
        cases ev
        refine (same_ints eT e2 (by rw [HD3.out]; have := Lf.out; omega) j1 j2).mono ?_
        rintro r w' ⟨rfl, n, rfl⟩
        exact ⟨by simp [HD3.out], bDrewN (Below.refl _ _) n⟩
      have hfin : ((D.length : Int) == (d.length : Int) + (f.length : Int)) = true := by rw [HDL.out]; simp
      have hdb : d.length ≤ 1048576 := Ld.out
      have hfb : f.length ≤ 1048576 := Lf.out
      go_wp2_with fail
      refine (SI1.out _ ((H_6.out.arrI).keep (bAlloc (Below.refl _ _) _)) ((N_6.out.arrI).keep (bAlloc (Below.refl _ _) _))).mono ?_
      rintro r w7 ⟨rfl, hb⟩
      have HB7 : Hid (Below w6.heap.size w6 w7) := bTrans (bAlloc (Below.refl _ _) _) hb
      have HT7 : Hid (Below w.heap.size w w7) := bTrans HT6.out HB7.out
      have SZ7 : Hid (w6.heap.size ≤ w7.heap.size) := HB7.out.size
      have QN_7 : Hid (Box w7 w1.heap.size (.slice a1 s.length c1) (.slice b1 d.length e1) 26) := QN_6.out.keep HB7.out
      have QM_7 : Hid (Box w7 (w1.heap.size + 1) (.slice a2 t.length c2) (.slice b2 f.length e2) 26) := QM_6.out.keep HB7.out
      have QG_7 : Hid (Box w7 w2.heap.size (.slice aG S.length cG) (.slice bG D.length eG) 26) := QG_6.out.keep HB7.out
      have QW_7 : Hid (Box w7 w3.heap.size (.slice aW S.length cW) (.slice bW D.length eW) 26) := QW_6.out.keep HB7.out
      have QK_7 : Hid (Box w7 w4.heap.size (.slice aK 0 cK) (.slice bK 1 eK) 26) := QK_6.out.keep HB7.out
      have QH_7 : Hid (Box w7 w5.heap.size (.slice aH S2.length cH) (.slice bH D2.length eH) 26) := QH_6.out.keep HB7.out
      have N_7 : Hid (Arr w.heap.size w1.heap.size w7 (.agg #[.slice a1 s.length c1, .slice b1 d.length e1]) s d) := N_6.out.keep HB7.out
      have M_7 : Hid (Arr w.heap.size w1.heap.size w7 (.agg #[.slice a2 t.length c2, .slice b2 f.length e2]) t f) := M_6.out.keep HB7.out
      have G_7 : Hid (Arr (w1.heap.size + 2) w2.heap.size w7 (.agg #[.slice aG S.length cG, .slice bG D.length eG]) S D) := G_6.out.keep HB7.out
      have H_7 : Hid (Arr (w4.heap.size + 1) w5.heap.size w7 (.agg #[.slice aH S2.length cH, .slice bH D2.length eH]) S2 D2) := H_6.out.keep HB7.out
      have T_7 : Hid (Arr (w5.heap.size + 1) w6.heap.size w7 (.agg #[.slice aT S3.length cT, .slice bT D3.length eT]) S3 D3) := T_6.out.keep HB7.out
      have QT_7 : Hid (Box w7 w6.heap.size (.slice aT S3.length cT) (.slice bT D3.length eT) 26) := (box_new w6 _ _ _).keep hb
      have LTQT : Hid (w6.heap.size < w7.heap.size) := QT_7.out.lt
      clear QN_6 QM_6 QG_6 QW_6 QK_6 QH_6 N_6 M_6 G_6 H_6 T_6 QNc0 QNc1 QNd0 QNd1 QMc0 QMc1 QMd0 QMd1 QGc0 QGc1 QGd0 QGd1 QWc0 QWc1 QWd0 QWd1 QKc0 QKc1 QKd0 QKd1 QHc0 QHc1 QHd0 QHd1 hb
      have QNc0 := QN_7.out.c0
      have QNc1 := QN_7.out.c1
      have QMc0 := QM_7.out.c0
      have QMc1 := QM_7.out.c1
      have QGc0 := QG_7.out.c0
      have QGc1 := QG_7.out.c1
      have QWc0 := QW_7.out.c0
      have QWc1 := QW_7.out.c1
      have QKc0 := QK_7.out.c0
      have QKc1 := QK_7.out.c1
      have QHc0 := QH_7.out.c0
      have QHc1 := QH_7.out.c1
      have QTc0 := QT_7.out.c0
      have QTc1 := QT_7.out.c1
      go_wp2_with fail
      refine (SI2.out _ (T_7.out.arrI) (M_7.out.arrI)).mono ?_
      rintro r w8 ⟨rfl, hb⟩
      have HB8 : Hid (Below w7.heap.size w7 w8) := hb
      have HT8 : Hid (Below w.heap.size w w8) := bTrans HT7.out HB8.out
      have SZ8 : Hid (w7.heap.size ≤ w8.heap.size) := HB8.out.size
      have QN_8 : Hid (Box w8 w1.heap.size (.slice a1 s.length c1) (.slice b1 d.length e1) 26) := QN_7.out.keep HB8.out
      have QM_8 : Hid (Box w8 (w1.heap.size + 1) (.slice a2 t.length c2) (.slice b2 f.length e2) 26) := QM_7.out.keep HB8.out
      have QG_8 : Hid (Box w8 w2.heap.size (.slice aG S.length cG) (.slice bG D.length eG) 26) := QG_7.out.keep HB8.out
      have QW_8 : Hid (Box w8 w3.heap.size (.slice aW S.length cW) (.slice bW D.length eW) 26) := QW_7.out.keep HB8.out
      have QK_8 : Hid (Box w8 w4.heap.size (.slice aK 0 cK) (.slice bK 1 eK) 26) := QK_7.out.keep HB8.out
      have QH_8 : Hid (Box w8 w5.heap.size (.slice aH S2.length cH) (.slice bH D2.length eH) 26) := QH_7.out.keep HB8.out
      have QT_8 : Hid (Box w8 w6.heap.size (.slice aT S3.length cT) (.slice bT D3.length eT) 26) := QT_7.out.keep HB8.out
      have N_8 : Hid (Arr w.heap.size w1.heap.size w8 (.agg #[.slice a1 s.length c1, .slice b1 d.length e1]) s d) := N_7.out.keep HB8.out
      have M_8 : Hid (Arr w.heap.size w1.heap.size w8 (.agg #[.slice a2 t.length c2, .slice b2 f.length e2]) t f) := M_7.out.keep HB8.out
      have G_8 : Hid (Arr (w1.heap.size + 2) w2.heap.size w8 (.agg #[.slice aG S.length cG, .slice bG D.length eG]) S D) := G_7.out.keep HB8.out
      have T_8 : Hid (Arr (w5.heap.size + 1) w6.heap.size w8 (.agg #[.slice aT S3.length cT, .slice bT D3.length eT]) S3 D3) := T_7.out.keep HB8.out
      clear QN_7 QM_7 QG_7 QW_7 QK_7 QH_7 QT_7 N_7 M_7 G_7 T_7 QNc0 QNc1 QMc0 QMc1 QGc0 QGc1 QWc0 QWc1 QKc0 QKc1 QHc0 QHc1 QTc0 QTc1 hb
      have QNc0 := QN_8.out.c0
      have QNc1 := QN_8.out.c1
      have QMc0 := QM_8.out.c0
      have QMc1 := QM_8.out.c1
      have QGc0 := QG_8.out.c0
      have QGc1 := QG_8.out.c1
      have QWc0 := QW_8.out.c0
      have QWc1 := QW_8.out.c1
      have QKc0 := QK_8.out.c0
      have QKc1 := QK_8.out.c1
      have QHc0 := QH_8.out.c0
      have QHc1 := QH_8.out.c1
      have QTc0 := QT_8.out.c0
      have QTc1 := QT_8.out.c1
      go_wp2
      go_ret
      exact ⟨rfl, HT8.out⟩
    · have hsm := hs1 h0
      have hl0 : 0 < s.length := List.length_pos_iff.2 h0
      have hl0i : (0 : Int) < (s.length : Int) := by omega
      obtain ⟨_, _, _, _, ev, j0, _, _, _⟩ := N_3.out.arrI
      cases ev
      obtain ⟨p3, o3, rfl, hp3, t3⟩ := j0.at hl0
      rw [Nat.add_zero, hsm] at t3
      have t3d : ∀ o : Obj, (w3.alloc o).cell? ⟨p3, o3, none⟩ = some (.int .i64 m) := fun o => ((bAlloc (Below.refl w3.heap.size w3) o).cell (p := ⟨p3, o3, none⟩) hp3).trans t3
      clear j0 hs0 hs1 h0 hsm
      go_wp2_with fail
      refine (SK.out _).mono ?_
      rintro r w4 ⟨vK, rfl, ha, hb⟩
      obtain ⟨aK, cK, bK, eK, rfl, _, _, _, _⟩ := ha.arrI
      have K_4 : Hid (Arr (w3.heap.size + 1) w4.heap.size w4 (.agg #[.slice aK 0 cK, .slice bK 1 eK]) [] [m]) := ha.mono (by first | exact Nat.le_refl _ | simp | (simp; omega)) (Nat.le_refl _)
      clear ha
      have HB4 : Hid (Below w3.heap.size w3 w4) := bTrans (bAlloc (Below.refl _ _) _) hb
      have HT4 : Hid (Below w.heap.size w w4) := bTrans HT3.out HB4.out
      have SZ4 : Hid (w3.heap.size ≤ w4.heap.size) := HB4.out.size
      have QN_4 : Hid (Box w4 w1.heap.size (.slice (some ⟨p3, o3, none⟩) s.length c1) (.slice b1 d.length e1) 26) := QN_3.out.keep HB4.out
      have QM_4 : Hid (Box w4 (w1.heap.size + 1) (.slice a2 t.length c2) (.slice b2 f.length e2) 26) := QM_3.out.keep HB4.out
      have QG_4 : Hid (Box w4 w2.heap.size (.slice aG S.length cG) (.slice bG D.length eG) 26) := QG_3.out.keep HB4.out
      have N_4 : Hid (Arr w.heap.size w1.heap.size w4 (.agg #[.slice (some ⟨p3, o3, none⟩) s.length c1, .slice b1 d.length e1]) s d) := N_3.out.keep HB4.out
      have M_4 : Hid (Arr w.heap.size w1.heap.size w4 (.agg #[.slice a2 t.length c2, .slice b2 f.length e2]) t f) := M_3.out.keep HB4.out
      have G_4 : Hid (Arr (w1.heap.size + 2) w2.heap.size w4 (.agg #[.slice aG S.length cG, .slice bG D.length eG]) S D) := G_3.out.keep HB4.out
      have QW_4 : Hid (Box w4 w3.heap.size (.slice aW S.length cW) (.slice bW D.length eW) 26) := (box_new w3 _ _ _).keep hb
      have LTQW : Hid (w3.heap.size < w4.heap.size) := QW_4.out.lt
      clear QN_3 QM_3 QG_3 N_3 M_3 G_3 QNc0 QNc1 QNd0 QNd1 QMc0 QMc1 QMd0 QMd1 QGc0 QGc1 QGd0 QGd1 hb
      have QNc0 := QN_4.out.c0
      have QNc1 := QN_4.out.c1
      have QNd0 : ∀ o : Obj, (w4.alloc o).cell? ⟨w1.heap.size, 0, none⟩ = some (.slice (some ⟨p3, o3, none⟩) s.length c1) := fun o => (QN_4.out.keep (bAlloc (Below.refl _ _) o)).c0
      have QNd1 : ∀ o : Obj, (w4.alloc o).cell? ⟨w1.heap.size, 1, none⟩ = some (.slice b1 d.length e1) := fun o => (QN_4.out.keep (bAlloc (Below.refl _ _) o)).c1
      have QMc0 := QM_4.out.c0
      have QMc1 := QM_4.out.c1
      have QMd0 : ∀ o : Obj, (w4.alloc o).cell? ⟨(w1.heap.size + 1), 0, none⟩ = some (.slice a2 t.length c2) := fun o => (QM_4.out.keep (bAlloc (Below.refl _ _) o)).c0
      have QMd1 : ∀ o : Obj, (w4.alloc o).cell? ⟨(w1.heap.size + 1), 1, none⟩ = some (.slice b2 f.length e2) := fun o => (QM_4.out.keep (bAlloc (Below.refl _ _) o)).c1
      have QGc0 := QG_4.out.c0
      have QGc1 := QG_4.out.c1
      have QGd0 : ∀ o : Obj, (w4.alloc o).cell? ⟨w2.heap.size, 0, none⟩ = some (.slice aG S.length cG) := fun o => (QG_4.out.keep (bAlloc (Below.refl _ _) o)).c0
      have QGd1 : ∀ o : Obj, (w4.alloc o).cell? ⟨w2.heap.size, 1, none⟩ = some (.slice bG D.length eG) := fun o => (QG_4.out.keep (bAlloc (Below.refl _ _) o)).c1
      have QWc0 := QW_4.out.c0
      have QWc1 := QW_4.out.c1
      have QWd0 : ∀ o : Obj, (w4.alloc o).cell? ⟨w3.heap.size, 0, none⟩ = some (.slice aW S.length cW) := fun o => (QW_4.out.keep (bAlloc (Below.refl _ _) o)).c0
      have QWd1 : ∀ o : Obj, (w4.alloc o).cell? ⟨w3.heap.size, 1, none⟩ = some (.slice bW D.length eW) := fun o => (QW_4.out.keep (bAlloc (Below.refl _ _) o)).c1
      go_wp2_with fail
      refine (E2.out _ _ ((K_4.out.arrI).keep (bAlloc (Below.refl _ _) _)) _ ((G_4.out.arrI).keep (bAlloc (Below.refl _ _) _))).mono ?_
      rintro r w5 ⟨vH, rfl, ha, hb⟩
      obtain ⟨aH, cH, bH, eH, rfl, _, _, _, _⟩ := ha.arrI
      have H_5 : Hid (Arr (w4.heap.size + 1) w5.heap.size w5 (.agg #[.slice aH S2.length cH, .slice bH D2.length eH]) S2 D2) := ha.mono (by first | exact Nat.le_refl _ | simp | (simp; omega)) (Nat.le_refl _)
      clear ha
      have HB5 : Hid (Below w4.heap.size w4 w5) := bTrans (bAlloc (Below.refl _ _) _) hb
      have HT5 : Hid (Below w.heap.size w w5) := bTrans HT4.out HB5.out
      have SZ5 : Hid (w4.heap.size ≤ w5.heap.size) := HB5.out.size
      have QN_5 : Hid (Box w5 w1.heap.size (.slice (some ⟨p3, o3, none⟩) s.length c1) (.slice b1 d.length e1) 26) := QN_4.out.keep HB5.out
      have QM_5 : Hid (Box w5 (w1.heap.size + 1) (.slice a2 t.length c2) (.slice b2 f.length e2) 26) := QM_4.out.keep HB5.out
      have QG_5 : Hid (Box w5 w2.heap.size (.slice aG S.length cG) (.slice bG D.length eG) 26) := QG_4.out.keep HB5.out
      have QW_5 : Hid (Box w5 w3.heap.size (.slice aW S.length cW) (.slice bW D.length eW) 26) := QW_4.out.keep HB5.out
      have N_5 : Hid (Arr w.heap.size w1.heap.size w5 (.agg #[.slice (some ⟨p3, o3, none⟩) s.length c1, .slice b1 d.length e1]) s d) := N_4.out.keep HB5.out
      have M_5 : Hid (Arr w.heap.size w1.heap.size w5 (.agg #[.slice a2 t.length c2, .slice b2 f.length e2]) t f) := M_4.out.keep HB5.out
      have G_5 : Hid (Arr (w1.heap.size + 2) w2.heap.size w5 (.agg #[.slice aG S.length cG, .slice bG D.length eG]) S D) := G_4.out.keep HB5.out
      have K_5 : Hid (Arr (w3.heap.size + 1) w4.heap.size w5 (.agg #[.slice aK 0 cK, .slice bK 1 eK]) [] [m]) := K_4.out.keep HB5.out
      have QK_5 : Hid (Box w5 w4.heap.size (.slice aK 0 cK) (.slice bK 1 eK) 26) := (box_new w4 _ _ _).keep hb
      have LTQK : Hid (w4.heap.size < w5.heap.size) := QK_5.out.lt
      clear QN_4 QM_4 QG_4 QW_4 N_4 M_4 G_4 K_4 QNc0 QNc1 QNd0 QNd1 QMc0 QMc1 QMd0 QMd1 QGc0 QGc1 QGd0 QGd1 QWc0 QWc1 QWd0 QWd1 hb
      have QNc0 := QN_5.out.c0
      have QNc1 := QN_5.out.c1
      have QNd0 : ∀ o : Obj, (w5.alloc o).cell? ⟨w1.heap.size, 0, none⟩ = some (.slice (some ⟨p3, o3, none⟩) s.length c1) := fun o => (QN_5.out.keep (bAlloc (Below.refl _ _) o)).c0
      have QNd1 : ∀ o : Obj, (w5.alloc o).cell? ⟨w1.heap.size, 1, none⟩ = some (.slice b1 d.length e1) := fun o => (QN_5.out.keep (bAlloc (Below.refl _ _) o)).c1
      have QMc0 := QM_5.out.c0
      have QMc1 := QM_5.out.c1
      have QMd0 : ∀ o : Obj, (w5.alloc o).cell? ⟨(w1.heap.size + 1), 0, none⟩ = some (.slice a2 t.length c2) := fun o => (QM_5.out.keep (bAlloc (Below.refl _ _) o)).c0
      have QMd1 : ∀ o : Obj, (w5.alloc o).cell? ⟨(w1.heap.size + 1), 1, none⟩ = some (.slice b2 f.length e2) := fun o => (QM_5.out.keep (bAlloc (Below.refl _ _) o)).c1
      have QGc0 := QG_5.out.c0
      have QGc1 := QG_5.out.c1
      have QGd0 : ∀ o : Obj, (w5.alloc o).cell? ⟨w2.heap.size, 0, none⟩ = some (.slice aG S.length cG) := fun o => (QG_5.out.keep (bAlloc (Below.refl _ _) o)).c0
      have QGd1 : ∀ o : Obj, (w5.alloc o).cell? ⟨w2.heap.size, 1, none⟩ = some (.slice bG D.length eG) := fun o => (QG_5.out.keep (bAlloc (Below.refl _ _) o)).c1
      have QWc0 := QW_5.out.c0
      have QWc1 := QW_5.out.c1
      have QWd0 : ∀ o : Obj, (w5.alloc o).cell? ⟨w3.heap.size, 0, none⟩ = some (.slice aW S.length cW) := fun o => (QW_5.out.keep (bAlloc (Below.refl _ _) o)).c0
      have QWd1 : ∀ o : Obj, (w5.alloc o).cell? ⟨w3.heap.size, 1, none⟩ = some (.slice bW D.length eW) := fun o => (QW_5.out.keep (bAlloc (Below.refl _ _) o)).c1
      have QKc0 := QK_5.out.c0
      have QKc1 := QK_5.out.c1
      have QKd0 : ∀ o : Obj, (w5.alloc o).cell? ⟨w4.heap.size, 0, none⟩ = some (.slice aK 0 cK) := fun o => (QK_5.out.keep (bAlloc (Below.refl _ _) o)).c0
      have QKd1 : ∀ o : Obj, (w5.alloc o).cell? ⟨w4.heap.size, 1, none⟩ = some (.slice bK 1 eK) := fun o => (QK_5.out.keep (bAlloc (Below.refl _ _) o)).c1
      go_wp2_with fail
      refine (E3.out _ _ ((K_5.out.arrI).keep (bAlloc (Below.refl _ _) _)) _ ((G_5.out.arrI).keep (bAlloc (Below.refl _ _) _))).mono ?_
      rintro r w6 ⟨vT, rfl, ha, hb⟩
      obtain ⟨aT, cT, bT, eT, rfl, _, _, _, _⟩ := ha.arrI
      have T_6 : Hid (Arr (w5.heap.size + 1) w6.heap.size w6 (.agg #[.slice aT S3.length cT, .slice bT D3.length eT]) S3 D3) := ha.mono (by first | exact Nat.le_refl _ | simp | (simp; omega)) (Nat.le_refl _)
      clear ha
      have HB6 : Hid (Below w5.heap.size w5 w6) := bTrans (bAlloc (Below.refl _ _) _) hb
      have HT6 : Hid (Below w.heap.size w w6) := bTrans HT5.out HB6.out
      have SZ6 : Hid (w5.heap.size ≤ w6.heap.size) := HB6.out.size
      have QN_6 : Hid (Box w6 w1.heap.size (.slice (some ⟨p3, o3, none⟩) s.length c1) (.slice b1 d.length e1) 26) := QN_5.out.keep HB6.out
      have QM_6 : Hid (Box w6 (w1.heap.size + 1) (.slice a2 t.length c2) (.slice b2 f.length e2) 26) := QM_5.out.keep HB6.out
      have QG_6 : Hid (Box w6 w2.heap.size (.slice aG S.length cG) (.slice bG D.length eG) 26) := QG_5.out.keep HB6.out
      have QW_6 : Hid (Box w6 w3.heap.size (.slice aW S.length cW) (.slice bW D.length eW) 26) := QW_5.out.keep HB6.out
      have QK_6 : Hid (Box w6 w4.heap.size (.slice aK 0 cK) (.slice bK 1 eK) 26) := QK_5.out.keep HB6.out
      have N_6 : Hid (Arr w.heap.size w1.heap.size w6 (.agg #[.slice (some ⟨p3, o3, none⟩) s.length c1, .slice b1 d.length e1]) s d) := N_5.out.keep HB6.out
      have M_6 : Hid (Arr w.heap.size w1.heap.size w6 (.agg #[.slice a2 t.length c2, .slice b2 f.length e2]) t f) := M_5.out.keep HB6.out
      have G_6 : Hid (Arr (w1.heap.size + 2) w2.heap.size w6 (.agg #[.slice aG S.length cG, .slice bG D.length eG]) S D) := G_5.out.keep HB6.out
      have K_6 : Hid (Arr (w3.heap.size + 1) w4.heap.size w6 (.agg #[.slice aK 0 cK, .slice bK 1 eK]) [] [m]) := K_5.out.keep HB6.out
      have H_6 : Hid (Arr (w4.heap.size + 1) w5.heap.size w6 (.agg #[.slice aH S2.length cH, .slice bH D2.length eH]) S2 D2) := H_5.out.keep HB6.out
      have QH_6 : Hid (Box w6 w5.heap.size (.slice aH S2.length cH) (.slice bH D2.length eH) 26) := (box_new w5 _ _ _).keep hb
      have LTQH : Hid (w5.heap.size < w6.heap.size) := QH_6.out.lt
      clear QN_5 QM_5 QG_5 QW_5 QK_5 N_5 M_5 G_5 K_5 H_5 QNc0 QNc1 QNd0 QNd1 QMc0 QMc1 QMd0 QMd1 QGc0 QGc1 QGd0 QGd1 QWc0 QWc1 QWd0 QWd1 QKc0 QKc1 QKd0 QKd1 hb
      have QNc0 := QN_6.out.c0
      have QNc1 := QN_6.out.c1
      have QNd0 : ∀ o : Obj, (w6.alloc o).cell? ⟨w1.heap.size, 0, none⟩ = some (.slice (some ⟨p3, o3, none⟩) s.length c1) := fun o => (QN_6.out.keep (bAlloc (Below.refl _ _) o)).c0
      have QNd1 : ∀ o : Obj, (w6.alloc o).cell? ⟨w1.heap.size, 1, none⟩ = some (.slice b1 d.length e1) := fun o => (QN_6.out.keep (bAlloc (Below.refl _ _) o)).c1
      have QMc0 := QM_6.out.c0
      have QMc1 := QM_6.out.c1
      have QMd0 : ∀ o : Obj, (w6.alloc o).cell? ⟨(w1.heap.size + 1), 0, none⟩ = some (.slice a2 t.length c2) := fun o => (QM_6.out.keep (bAlloc (Below.refl _ _) o)).c0
      have QMd1 : ∀ o : Obj, (w6.alloc o).cell? ⟨(w1.heap.size + 1), 1, none⟩ = some (.slice b2 f.length e2) := fun o => (QM_6.out.keep (bAlloc (Below.refl _ _) o)).c1
      have QGc0 := QG_6.out.c0
      have QGc1 := QG_6.out.c1
      have QGd0 : ∀ o : Obj, (w6.alloc o).cell? ⟨w2.heap.size, 0, none⟩ = some (.slice aG S.length cG) := fun o => (QG_6.out.keep (bAlloc (Below.refl _ _) o)).c0
      have QGd1 : ∀ o : Obj, (w6.alloc o).cell? ⟨w2.heap.size, 1, none⟩ = some (.slice bG D.length eG) := fun o => (QG_6.out.keep (bAlloc (Below.refl _ _) o)).c1
      have QWc0 := QW_6.out.c0
      have QWc1 := QW_6.out.c1
      have QWd0 : ∀ o : Obj, (w6.alloc o).cell? ⟨w3.heap.size, 0, none⟩ = some (.slice aW S.length cW) := fun o => (QW_6.out.keep (bAlloc (Below.refl _ _) o)).c0
      have QWd1 : ∀ o : Obj, (w6.alloc o).cell? ⟨w3.heap.size, 1, none⟩ = some (.slice bW D.length eW) := fun o => (QW_6.out.keep (bAlloc (Below.refl _ _) o)).c1
      have QKc0 := QK_6.out.c0
      have QKc1 := QK_6.out.c1
      have QKd0 : ∀ o : Obj, (w6.alloc o).cell? ⟨w4.heap.size, 0, none⟩ = some (.slice aK 0 cK) := fun o => (QK_6.out.keep (bAlloc (Below.refl _ _) o)).c0
      have QKd1 : ∀ o : Obj, (w6.alloc o).cell? ⟨w4.heap.size, 1, none⟩ = some (.slice bK 1 eK) := fun o => (QK_6.out.keep (bAlloc (Below.refl _ _) o)).c1
      have QHc0 := QH_6.out.c0
      have QHc1 := QH_6.out.c1
      have QHd0 : ∀ o : Obj, (w6.alloc o).cell? ⟨w5.heap.size, 0, none⟩ = some (.slice aH S2.length cH) := fun o => (QH_6.out.keep (bAlloc (Below.refl _ _) o)).c0
      have QHd1 : ∀ o : Obj, (w6.alloc o).cell? ⟨w5.heap.size, 1, none⟩ = some (.slice bH D2.length eH) := fun o => (QH_6.out.keep (bAlloc (Below.refl _ _) o)).c1
      have SI1 : Hid (∀ W, ArrI W (.agg #[.slice aH S2.length cH, .slice bH D2.length eH]) S2 D2 → ArrI W (.agg #[.slice (some ⟨p3, o3, none⟩) s.length c1, .slice b1 d.length e1]) s d → Calls Try.prog 14 #[.slice bH D2.length eH, .slice b1 d.length e1] W fun e w' => e = .returned (.bool true) ∧ Below W.heap.size W w') := fun W i1 i2 => by
        obtain ⟨_, _, _, _, ev, _, j1, _, _⟩ := i1
        cases ev
        obtain ⟨_, _, _, _, ev, _, j2, _, _⟩ := i2
        cases ev
        refine (same_ints eH e1 (by rw [HD2.out]; have := Ld.out; omega) j1 j2).mono ?_
        rintro r w' ⟨rfl, n, rfl⟩
        exact ⟨by simp [HD2.out], bDrewN (Below.refl _ _) n⟩
      have SI2 : Hid (∀ W, ArrI W (.agg #[.slice aT S3.length cT, .slice bT D3.length eT]) S3 D3 → ArrI W (.agg #[.slice a2 t.length c2, .slice b2 f.length e2]) t f → Calls Try.prog 14 #[.slice bT D3.length eT, .slice b2 f.length e2] W fun e w' => e = .returned (.bool true) ∧ Below W.heap.size W w') := fun W i1 i2 => by
        obtain ⟨_, _, _, _, ev, _, j1, _, _⟩ := i1
        cases ev
        obtain ⟨_, _, _, _, ev, _, j2, _, _⟩ := i2
        cases ev
        refine (same_ints eT e2 (by rw [HD3.out]; have := Lf.out; omega) j1 j2).mono ?_
        rintro r w' ⟨rfl, n, rfl⟩
        exact ⟨by simp [HD3.out], bDrewN (Below.refl _ _) n⟩
      have hfin : ((D.length : Int) == (d.length : Int) + (f.length : Int)) = true := by rw [HDL.out]; simp
      have hdb : d.length ≤ 1048576 := Ld.out
      have hfb : f.length ≤ 1048576 := Lf.out
      go_wp2_with fail
      refine (SI1.out _ ((H_6.out.arrI).keep (bAlloc (Below.refl _ _) _)) ((N_6.out.arrI).keep (bAlloc (Below.refl _ _) _))).mono ?_
      rintro r w7 ⟨rfl, hb⟩
      have HB7 : Hid (Below w6.heap.size w6 w7) := bTrans (bAlloc (Below.refl _ _) _) hb
      have HT7 : Hid (Below w.heap.size w w7) := bTrans HT6.out HB7.out
      have SZ7 : Hid (w6.heap.size ≤ w7.heap.size) := HB7.out.size
      have QN_7 : Hid (Box w7 w1.heap.size (.slice (some ⟨p3, o3, none⟩) s.length c1) (.slice b1 d.length e1) 26) := QN_6.out.keep HB7.out
      have QM_7 : Hid (Box w7 (w1.heap.size + 1) (.slice a2 t.length c2) (.slice b2 f.length e2) 26) := QM_6.out.keep HB7.out
      have QG_7 : Hid (Box w7 w2.heap.size (.slice aG S.length cG) (.slice bG D.length eG) 26) := QG_6.out.keep HB7.out
      have QW_7 : Hid (Box w7 w3.heap.size (.slice aW S.length cW) (.slice bW D.length eW) 26) := QW_6.out.keep HB7.out
      have QK_7 : Hid (Box w7 w4.heap.size (.slice aK 0 cK) (.slice bK 1 eK) 26) := QK_6.out.keep HB7.out
      have QH_7 : Hid (Box w7 w5.heap.size (.slice aH S2.length cH) (.slice bH D2.length eH) 26) := QH_6.out.keep HB7.out
      have N_7 : Hid (Arr w.heap.size w1.heap.size w7 (.agg #[.slice (some ⟨p3, o3, none⟩) s.length c1, .slice b1 d.length e1]) s d) := N_6.out.keep HB7.out
      have M_7 : Hid (Arr w.heap.size w1.heap.size w7 (.agg #[.slice a2 t.length c2, .slice b2 f.length e2]) t f) := M_6.out.keep HB7.out
      have G_7 : Hid (Arr (w1.heap.size + 2) w2.heap.size w7 (.agg #[.slice aG S.length cG, .slice bG D.length eG]) S D) := G_6.out.keep HB7.out
      have H_7 : Hid (Arr (w4.heap.size + 1) w5.heap.size w7 (.agg #[.slice aH S2.length cH, .slice bH D2.length eH]) S2 D2) := H_6.out.keep HB7.out
      have T_7 : Hid (Arr (w5.heap.size + 1) w6.heap.size w7 (.agg #[.slice aT S3.length cT, .slice bT D3.length eT]) S3 D3) := T_6.out.keep HB7.out
      have QT_7 : Hid (Box w7 w6.heap.size (.slice aT S3.length cT) (.slice bT D3.length eT) 26) := (box_new w6 _ _ _).keep hb
      have LTQT : Hid (w6.heap.size < w7.heap.size) := QT_7.out.lt
      clear QN_6 QM_6 QG_6 QW_6 QK_6 QH_6 N_6 M_6 G_6 H_6 T_6 QNc0 QNc1 QNd0 QNd1 QMc0 QMc1 QMd0 QMd1 QGc0 QGc1 QGd0 QGd1 QWc0 QWc1 QWd0 QWd1 QKc0 QKc1 QKd0 QKd1 QHc0 QHc1 QHd0 QHd1 hb
      have QNc0 := QN_7.out.c0
      have QNc1 := QN_7.out.c1
      have QMc0 := QM_7.out.c0
      have QMc1 := QM_7.out.c1
      have QGc0 := QG_7.out.c0
      have QGc1 := QG_7.out.c1
      have QWc0 := QW_7.out.c0
      have QWc1 := QW_7.out.c1
      have QKc0 := QK_7.out.c0
      have QKc1 := QK_7.out.c1
      have QHc0 := QH_7.out.c0
      have QHc1 := QH_7.out.c1
      have QTc0 := QT_7.out.c0
      have QTc1 := QT_7.out.c1
      go_wp2_with fail
      refine (SI2.out _ (T_7.out.arrI) (M_7.out.arrI)).mono ?_
      rintro r w8 ⟨rfl, hb⟩
      have HB8 : Hid (Below w7.heap.size w7 w8) := hb
      have HT8 : Hid (Below w.heap.size w w8) := bTrans HT7.out HB8.out
      have SZ8 : Hid (w7.heap.size ≤ w8.heap.size) := HB8.out.size
      have QN_8 : Hid (Box w8 w1.heap.size (.slice (some ⟨p3, o3, none⟩) s.length c1) (.slice b1 d.length e1) 26) := QN_7.out.keep HB8.out
      have QM_8 : Hid (Box w8 (w1.heap.size + 1) (.slice a2 t.length c2) (.slice b2 f.length e2) 26) := QM_7.out.keep HB8.out
      have QG_8 : Hid (Box w8 w2.heap.size (.slice aG S.length cG) (.slice bG D.length eG) 26) := QG_7.out.keep HB8.out
      have QW_8 : Hid (Box w8 w3.heap.size (.slice aW S.length cW) (.slice bW D.length eW) 26) := QW_7.out.keep HB8.out
      have QK_8 : Hid (Box w8 w4.heap.size (.slice aK 0 cK) (.slice bK 1 eK) 26) := QK_7.out.keep HB8.out
      have QH_8 : Hid (Box w8 w5.heap.size (.slice aH S2.length cH) (.slice bH D2.length eH) 26) := QH_7.out.keep HB8.out
      have QT_8 : Hid (Box w8 w6.heap.size (.slice aT S3.length cT) (.slice bT D3.length eT) 26) := QT_7.out.keep HB8.out
      have N_8 : Hid (Arr w.heap.size w1.heap.size w8 (.agg #[.slice (some ⟨p3, o3, none⟩) s.length c1, .slice b1 d.length e1]) s d) := N_7.out.keep HB8.out
      have M_8 : Hid (Arr w.heap.size w1.heap.size w8 (.agg #[.slice a2 t.length c2, .slice b2 f.length e2]) t f) := M_7.out.keep HB8.out
      have G_8 : Hid (Arr (w1.heap.size + 2) w2.heap.size w8 (.agg #[.slice aG S.length cG, .slice bG D.length eG]) S D) := G_7.out.keep HB8.out
      have T_8 : Hid (Arr (w5.heap.size + 1) w6.heap.size w8 (.agg #[.slice aT S3.length cT, .slice bT D3.length eT]) S3 D3) := T_7.out.keep HB8.out
      clear QN_7 QM_7 QG_7 QW_7 QK_7 QH_7 QT_7 N_7 M_7 G_7 T_7 QNc0 QNc1 QMc0 QMc1 QGc0 QGc1 QWc0 QWc1 QKc0 QKc1 QHc0 QHc1 QTc0 QTc1 hb
      have QNc0 := QN_8.out.c0
      have QNc1 := QN_8.out.c1
      have QMc0 := QM_8.out.c0
      have QMc1 := QM_8.out.c1
      have QGc0 := QG_8.out.c0
      have QGc1 := QG_8.out.c1
      have QWc0 := QW_8.out.c0
      have QWc1 := QW_8.out.c1
      have QKc0 := QK_8.out.c0
      have QKc1 := QK_8.out.c1
      have QHc0 := QH_8.out.c0
      have QHc1 := QH_8.out.c1
      have QTc0 := QT_8.out.c0
      have QTc1 := QT_8.out.c1
      go_wp2
      go_ret
      exact ⟨rfl, HT8.out⟩
  · have n0 : (C != 0) = true := by simpa using hc
    have hl : ((D.length : Int) == 0) = true := by rw [FB.out hc]; rfl
    have hl2 : D.length = 0 := FB.out hc
    clear FG FB
    go_wp2
    go_ret
    exact ⟨rfl, bTrans HT3.out (bAlloc (Below.refl _ _) _)⟩

/-! ### THE ROW's STEP: WRITTEN OUT: LEAVE IT -/
set_option maxRecDepth 100000 in
theorem lifted (os : Os) (started : os.Started) (H : Type) (enc : TypeId × Value → H) :
    ReturnsInHanded {} Try.checked os 8 .any (Rows.fnJoinedSpec.pre6 enc Try.prog Try.f8 Rows.fnJoinedRow.domain false) (Rows.fnJoinedSpec.post enc Try.prog Try.f8 false true false false) := by
  refine returnsInHanded_of_change (C := Try.checked) own started (by kernel_rfl) Try.func8
    (ChangeSpec.witness6 (enc := enc) (C := Try.checked) false ⟨#[], #[.slice none 0 0], []⟩ 8 (by kernel_rfl) (by kernel_rfl) (by kernel_rfl) (by kernel_rfl)) ?_
  intro W base args ds gs before hval0 hW hcnd _
  have hval : ∀ (j : Nat) t v, Try.f8.params[j]? = some t → args[j]? = some v → Value.okWide Try.prog W .any base t v := hval0
  have hW' := hW
  obtain ⟨p, q, hA0, hV, rfl, hfz, hnd⟩ := hW
  have hA : DataW.TrodAll enc Try.prog W 0 (fun _ => true) true Try.f8.params.toList args.toList ds p := hA0
  rw [Try.params8] at hA hval
  obtain ⟨v0, vs0, d0, ds0, p0, q0, hargs, rfl, rfl, h0, r0⟩ := trodAll_cons hA
  obtain ⟨rfl, rfl, rfl⟩ := trodAll_nil r0
  obtain rfl : args = #[v0] := by cases args; simp_all
  obtain ⟨rfl, rfl⟩ := trodVars_none hV
  obtain ⟨a0, len0, cap0, rfl⟩ := okWide_slice Try.underlying22 (hval 0 22 v0 rfl rfl)
  have k0 := h0
  have lt0 : ∀ x ∈ p0, x.block < W.heap.size := by obtain ⟨m, hm⟩ := k0; exact DataW.trod_lt m _ _ _ hm
  obtain ⟨z0, w0⟩ : ∃ zs, IsRow .u8 W a0 len0 cap0 zs := by
    obtain ⟨fuel, hf⟩ := h0
    rcases open_ints Try.underlying22 Try.underlying5 (by kernel_rfl) hf with ⟨hcs, _⟩ | ⟨x, l, c, zs, hcs, _, hl, hm, hz, _, hcell, hwz⟩
    · simp [Value.cells] at hcs
      obtain ⟨rfl, rfl, rfl⟩ := hcs
      exact ⟨[], .inl ⟨rfl, rfl, rfl, rfl⟩⟩
    · simp [Value.cells] at hcs
      obtain ⟨rfl, rfl, rfl⟩ := hcs
      exact ⟨zs, .inr ⟨_, rfl, hl, hm, by simpa using hz, hcell, hwz⟩⟩
  clear hA0 hval0
  refine (walk a0 len0 cap0 z0 W w0).mono fun e W' ⟨he, bel⟩ => ?_
  subst he
  exact ⟨_, rfl, _, _, _, [], _, [], hW', trodAll_mk1 (shut_bool Try.underlying4 _), (trodAll_cons_mk (Below.trod laidOut (by kernel_rfl) (of_decide_eq_true (by kernel_rfl)) k0 bel lt0) trodAll_mk0), rfl, bel.frame _, fun h => by cases h⟩

theorem over : Rows.fnJoinedRow.holds Try.pinned (OpenSpec.ofChange Rows.fnJoinedSpec) :=
  OpenClaim.holds_of_wide 8 Try.f8 rfl rfl rfl rfl rfl rfl rfl ⟨rfl, rfl, rfl, rfl, rfl⟩ rfl rfl rfl rfl rfl (by kernel_rfl) Try.func8 (by kernel_rfl)
    (of_decide_eq_true (by kernel_rfl)) (by unfold Func.isWrapper; first | (rw [if_pos (by decide +kernel)]; kernel_rfl) | (rw [if_neg (by decide +kernel)]; exact ⟨rfl, rfl⟩))
    (fun os started H enc _ => lifted os started H enc)

/-- ████ THE STATEMENT ████ -/
theorem proved : Rows.FnJoinedSaid := over
end Go.Proofs.Ytfmheanmkfdjnac.fnJoined
namespace Go.Proofs.Ytfmheanmkfdjnac
theorem fnJoined_holds : Rows.FnJoinedSaid := fnJoined.proved
#print axioms fnJoined_holds
end Go.Proofs.Ytfmheanmkfdjnac
