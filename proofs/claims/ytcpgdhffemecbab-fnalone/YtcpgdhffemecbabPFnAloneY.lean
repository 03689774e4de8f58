/-
  Proved: whatever code it is given, the law FnAlone returns true: between a drawn scalar and all numbers of an array it is as each by each. No condition.
-/
import Derived.Test.YtcpgdhffemecbabRows
import Derived.WalkKit
import Derived.ProofKit
import Derived.OpenShut
import Derived.ShutString
import Derived.ChangeOld
import Derived.Below
import Derived.Test.YtcpgdhffemecbabAloneF
import Derived.Test.YtcpgdhffemecbabAtLaw
import Derived.Test.YtcpgdhffemecbabDrawOuter
import Derived.Test.YtcpgdhffemecbabSpecOuter
import Derived.Test.YtcpgdhffemecbabZ2
import Derived.Test.YtcpgdhffemecbabZ1
import Derived.Test.YtcpgdhffemecbabLaw3
namespace Go.Proofs.Ytcpgdhffemecbab.fnAlone
open Go.ChangeShapes Go.WideShapes Go.ChangeAt Go.RowKit
open Go.ChangeMaps (open_string shut_string)
set_option linter.unusedVariables false
set_option linter.unusedSimpArgs false
set_option linter.unusedVariables false

theorem own : ownKnob Try.prog.godebug = none := by kernel_rfl
theorem laidOut : laidOutB Try.prog = true := by kernel_rfl

/-! ### STEP 1: THE WALK: the Go text returns true, AND WRITES NOTHING THAT WAS THERE: 'Below w.heap.size w w'' (Derived/Below.lean: '.refl', '.alloc', '.drew', '.setCell' at a new block, '.trans'). Open each 'IsRow' by 'rcases' AHEAD of 'go_enter'; part every test ahead of the walk. -/
set_option maxRecDepth 20000 in
set_option maxHeartbeats 8000000 in
theorem walk (a0 : Option Addr) (len0 cap0 : Nat) (z0 : List Int) (w : World) (w0 : IsRow .u8 w a0 len0 cap0 z0) :
    Calls Try.prog 3 #[.slice a0 len0 cap0] w fun e w' => e = .returned (.bool true) ∧ Below w.heap.size w w' := by
  have HS : Hid (Src w.heap.size w a0 len0) := src_of_row w0
  clear w0
  by_cases hbig : (1048576 : Int) < (len0 : Int)
  · go_enter Try.func3, Try.ntmps3
    go_wp2_with (go_at_call 6; refine (big_laws _ _ _ _).mono ?_; rintro e w' ⟨rfl, hw⟩; subst w')
    go_ret
    exact ⟨rfl, Below.refl _ _⟩
  have hb20 : len0 ≤ 1048576 := by omega
  go_enter Try.func3, Try.ntmps3
  go_wp2_with (go_at_call 6; refine (big_laws _ _ _ _).mono ?_; rintro e w' ⟨rfl, hw⟩; subst w')
  refine (drawOuter_spec HS.out hb20).mono ?_
  rintro r w1 ⟨sg, v1, v2, s, d, t, f, rfl, ha, hc0, ⟨hls, hld, hlt, hlf⟩, hb⟩
  obtain ⟨a1, c1, b1, e1, rfl, _, _, _, _⟩ := ha.arrI
  obtain ⟨a2, c2, b2, e2, rfl, _, _, _, _⟩ := hc0.arrI
  have N_1 : Hid (Arr w.heap.size w1.heap.size w1 (.agg #[.slice a1 s.length c1, .slice b1 d.length e1]) s d) := ha
  have M_1 : Hid (Arr w.heap.size w1.heap.size w1 (.agg #[.slice a2 t.length c2, .slice b2 f.length e2]) t f) := hc0
  have Ls : Hid (s.length ≤ 1048576) := by show _ ≤ _; omega
  have Ld : Hid (d.length ≤ 1048576) := by show _ ≤ _; omega
  have Lt : Hid (t.length ≤ 1048576) := by show _ ≤ _; omega
  have Lf : Hid (f.length ≤ 1048576) := by show _ ≤ _; omega
  have HT1 : Hid (Below w.heap.size w w1) := hb
  have SZ1 : Hid (w.heap.size ≤ w1.heap.size) := hb.size
  clear hb ha hc0 hls hld hlt hlf
  obtain ⟨bb, y0, y1, hat⟩ := at_law cap0 HS.out hb20
  have AT : Hid (∀ W, Below w.heap.size w W → Calls Try.prog 9 #[.slice a0 len0 cap0, .int .i64 1] W fun e w' => e = .returned (.int .i64 bb) ∧ Below W.heap.size W w') := fun W hb => (hat W hb).mono (by rintro e w' ⟨rfl, rfl⟩; exact ⟨rfl, Below.refl _ _⟩)
  clear hat
  obtain ⟨C, hC⟩ : ∃ y, y = (outerR sg [] [bb - 99] s d).1 := ⟨_, rfl⟩
  obtain ⟨S, hS⟩ : ∃ y, y = (outerR sg [] [bb - 99] s d).2.1 := ⟨_, rfl⟩
  obtain ⟨D, hD⟩ : ∃ y, y = (outerR sg [] [bb - 99] s d).2.2 := ⟨_, rfl⟩
  have okk : ok (bb - 99) = true := by simp [ok]; omega
  have wk : wrap64 (bb - 99) = bb - 99 := by unfold wrap64; omega
  have SK : Hid (∀ W, Calls Try.prog 8 #[.int .i64 (bb - 99)] W fun e w' => ∃ v, e = .returned (.tuple #[v, .bool true]) ∧ Arr W.heap.size w'.heap.size w' v [] [bb - 99] ∧ Below W.heap.size W w') := fun W => by
    have q := scalarOf_impl (bb - 99) W
    rw [okk, if_pos rfl] at q
    exact q
  have EQ := alone_eq (g := sg) (s := s) (d := d) okk
  have LA : Hid (S.length ≤ 1048576 ∧ D.length ≤ 1048576) := by show _ ∧ _; rw [hS, hD]; exact mkR_len (fun h => (outer_len h).1) (fun h => (outer_len h).2)
  have EI : Hid (∀ (W : World) (u1 : Value) (_ : ArrI W u1 [] [bb - 99]) (u2 : Value) (_ : ArrI W u2 s d), Calls Try.prog 10 #[.int .i64 sg, u1, u2] W fun e w' => ∃ v, e = .returned (.tuple #[v, .int .i64 C]) ∧ Arr W.heap.size w'.heap.size w' v S D ∧ Below W.heap.size W w') := by
    intro W u1 h1 u2 h2
    rw [hC, hS, hD]
    exact outer_impl h1 h2 (by simp) (by simp) Ls.out Ld.out
  have ES : Hid (∀ (W : World) (u1 : Value) (_ : ArrI W u1 [] [bb - 99]) (u2 : Value) (_ : ArrI W u2 s d), Calls Try.prog 12 #[.int .i64 sg, u1, u2] W fun e w' => ∃ v, e = .returned (.tuple #[v, .int .i64 C]) ∧ Arr W.heap.size w'.heap.size w' v S D ∧ Below W.heap.size W w') := by
    intro W u1 h1 u2 h2
    rw [hC, hS, hD]
    exact outer_spec h1 h2 (by simp) (by simp) Ls.out Ld.out
  have EE : Hid (∀ (W : World) (u1 : Value) (_ : ArrI W u1 [] [bb - 99]) (u2 : Value) (_ : ArrI W u2 s d), Calls Try.prog 11 #[.int .i64 sg, u1, u2] W fun e w' => ∃ v, e = .returned (.tuple #[v, .int .i64 C]) ∧ Arr W.heap.size w'.heap.size w' v S D ∧ Below W.heap.size W w') := by
    intro W u1 h1 u2 h2
    rw [hC, hS, hD]
    exact by rw [EQ]; exact eachTwo_impl h1 h2 (by simp) (by simp) Ls.out Ld.out
  have SA : Hid (∀ (W : World) (u v : Value), ArrI W u S D → ArrI W v S D → Calls Try.prog 13 #[u, v] W fun e w' => e = .returned (.bool true) ∧ Below W.heap.size W w') := fun W u v h k => by
    have q := same_arr h k LA.out.1 LA.out.2
    simpa using q
  have heC : (C == C) = true := by simp
  clear hC hS hD EQ okk
  go_wp2_with fail
  refine (AT.out _ (bTrans HT1.out (bAlloc (bAlloc (Below.refl _ _) _) _))).mono ?_
  rintro r w2 ⟨rfl, hb⟩
  have HB2 : Hid (Below w1.heap.size w1 w2) := bTrans (bAlloc (bAlloc (Below.refl _ _) _) _) hb
  have HT2 : Hid (Below w.heap.size w w2) := bTrans HT1.out HB2.out
  have SZ2 : Hid (w1.heap.size ≤ w2.heap.size) := HB2.out.size
  have N_2 : Hid (Arr w.heap.size w1.heap.size w2 (.agg #[.slice a1 s.length c1, .slice b1 d.length e1]) s d) := N_1.out.keep HB2.out
  have M_2 : Hid (Arr w.heap.size w1.heap.size w2 (.agg #[.slice a2 t.length c2, .slice b2 f.length e2]) t f) := M_1.out.keep HB2.out
  have QN_2 : Hid (Box w2 w1.heap.size (.slice a1 s.length c1) (.slice b1 d.length e1) 26) := ((box_new w1 _ _ _).keep (bAlloc (Below.refl _ _) _)).keep hb
  have LTQN : Hid (w1.heap.size < w2.heap.size) := QN_2.out.lt
  have QM_2 : Hid (Box w2 (w1.heap.size + 1) (.slice a2 t.length c2) (.slice b2 f.length e2) 26) := (box_new2 w1 _ _ _ _).keep hb
  have LTQM : Hid ((w1.heap.size + 1) < w2.heap.size) := QM_2.out.lt
  clear N_1 M_1 hb
  have QNc0 := QN_2.out.c0
  have QNc1 := QN_2.out.c1
  have QMc0 := QM_2.out.c0
  have QMc1 := QM_2.out.c1
  go_wp2_with fail
  refine (SK.out _).mono ?_
  rintro r w3 ⟨vK, rfl, ha, hb⟩
  obtain ⟨aK, cK, bK, eK, rfl, _, _, _, _⟩ := ha.arrI
  have K_3 : Hid (Arr w2.heap.size w3.heap.size w3 (.agg #[.slice aK 0 cK, .slice bK 1 eK]) [] [bb - 99]) := ha.mono (by first | exact Nat.le_refl _ | simp | (simp; omega)) (Nat.le_refl _)
  clear ha
  have HB3 : Hid (Below w2.heap.size w2 w3) := hb
  have HT3 : Hid (Below w.heap.size w w3) := bTrans HT2.out HB3.out
  have SZ3 : Hid (w2.heap.size ≤ w3.heap.size) := HB3.out.size
  have QN_3 : Hid (Box w3 w1.heap.size (.slice a1 s.length c1) (.slice b1 d.length e1) 26) := QN_2.out.keep HB3.out
  have QM_3 : Hid (Box w3 (w1.heap.size + 1) (.slice a2 t.length c2) (.slice b2 f.length e2) 26) := QM_2.out.keep HB3.out
  have N_3 : Hid (Arr w.heap.size w1.heap.size w3 (.agg #[.slice a1 s.length c1, .slice b1 d.length e1]) s d) := N_2.out.keep HB3.out
  have M_3 : Hid (Arr w.heap.size w1.heap.size w3 (.agg #[.slice a2 t.length c2, .slice b2 f.length e2]) t f) := M_2.out.keep HB3.out
  clear QN_2 QM_2 N_2 M_2 QNc0 QNc1 QMc0 QMc1 hb
  have QNc0 := QN_3.out.c0
  have QNc1 := QN_3.out.c1
  have QNd0 : ∀ o : Obj, (w3.alloc o).cell? ⟨w1.heap.size, 0, none⟩ = some (.slice a1 s.length c1) := fun o => (QN_3.out.keep (bAlloc (Below.refl _ _) o)).c0
  have QNd1 : ∀ o : Obj, (w3.alloc o).cell? ⟨w1.heap.size, 1, none⟩ = some (.slice b1 d.length e1) := fun o => (QN_3.out.keep (bAlloc (Below.refl _ _) o)).c1
  have QMc0 := QM_3.out.c0
  have QMc1 := QM_3.out.c1
  have QMd0 : ∀ o : Obj, (w3.alloc o).cell? ⟨(w1.heap.size + 1), 0, none⟩ = some (.slice a2 t.length c2) := fun o => (QM_3.out.keep (bAlloc (Below.refl _ _) o)).c0
  have QMd1 : ∀ o : Obj, (w3.alloc o).cell? ⟨(w1.heap.size + 1), 1, none⟩ = some (.slice b2 f.length e2) := fun o => (QM_3.out.keep (bAlloc (Below.refl _ _) o)).c1
  go_wp2_with fail
  refine (EI.out _ _ ((K_3.out.arrI).keep (bAlloc (Below.refl _ _) _)) _ ((N_3.out.arrI).keep (bAlloc (Below.refl _ _) _))).mono ?_
  rintro r w4 ⟨vX, rfl, ha, hb⟩
  obtain ⟨aX, cX, bX, eX, rfl, _, _, _, _⟩ := ha.arrI
  have X_4 : Hid (Arr (w3.heap.size + 1) w4.heap.size w4 (.agg #[.slice aX S.length cX, .slice bX D.length eX]) S D) := ha.mono (by first | exact Nat.le_refl _ | simp | (simp; omega)) (Nat.le_refl _)
  clear ha
  have HB4 : Hid (Below w3.heap.size w3 w4) := bTrans (bAlloc (Below.refl _ _) _) hb
  have HT4 : Hid (Below w.heap.size w w4) := bTrans HT3.out HB4.out
  have SZ4 : Hid (w3.heap.size ≤ w4.heap.size) := HB4.out.size
  have QN_4 : Hid (Box w4 w1.heap.size (.slice a1 s.length c1) (.slice b1 d.length e1) 26) := QN_3.out.keep HB4.out
  have QM_4 : Hid (Box w4 (w1.heap.size + 1) (.slice a2 t.length c2) (.slice b2 f.length e2) 26) := QM_3.out.keep HB4.out
  have N_4 : Hid (Arr w.heap.size w1.heap.size w4 (.agg #[.slice a1 s.length c1, .slice b1 d.length e1]) s d) := N_3.out.keep HB4.out
  have K_4 : Hid (Arr w2.heap.size w3.heap.size w4 (.agg #[.slice aK 0 cK, .slice bK 1 eK]) [] [bb - 99]) := K_3.out.keep HB4.out
  have QK_4 : Hid (Box w4 w3.heap.size (.slice aK 0 cK) (.slice bK 1 eK) 26) := (box_new w3 _ _ _).keep hb
  have LTQK : Hid (w3.heap.size < w4.heap.size) := QK_4.out.lt
  clear QN_3 QM_3 N_3 K_3 QNc0 QNc1 QNd0 QNd1 QMc0 QMc1 QMd0 QMd1 hb
  have QNc0 := QN_4.out.c0
  have QNc1 := QN_4.out.c1
  have QNd0 : ∀ o : Obj, (w4.alloc o).cell? ⟨w1.heap.size, 0, none⟩ = some (.slice a1 s.length c1) := fun o => (QN_4.out.keep (bAlloc (Below.refl _ _) o)).c0
  have QNd1 : ∀ o : Obj, (w4.alloc o).cell? ⟨w1.heap.size, 1, none⟩ = some (.slice b1 d.length e1) := fun o => (QN_4.out.keep (bAlloc (Below.refl _ _) o)).c1
  have QMc0 := QM_4.out.c0
  have QMc1 := QM_4.out.c1
  have QMd0 : ∀ o : Obj, (w4.alloc o).cell? ⟨(w1.heap.size + 1), 0, none⟩ = some (.slice a2 t.length c2) := fun o => (QM_4.out.keep (bAlloc (Below.refl _ _) o)).c0
  have QMd1 : ∀ o : Obj, (w4.alloc o).cell? ⟨(w1.heap.size + 1), 1, none⟩ = some (.slice b2 f.length e2) := fun o => (QM_4.out.keep (bAlloc (Below.refl _ _) o)).c1
  have QKc0 := QK_4.out.c0
  have QKc1 := QK_4.out.c1
  have QKd0 : ∀ o : Obj, (w4.alloc o).cell? ⟨w3.heap.size, 0, none⟩ = some (.slice aK 0 cK) := fun o => (QK_4.out.keep (bAlloc (Below.refl _ _) o)).c0
  have QKd1 : ∀ o : Obj, (w4.alloc o).cell? ⟨w3.heap.size, 1, none⟩ = some (.slice bK 1 eK) := fun o => (QK_4.out.keep (bAlloc (Below.refl _ _) o)).c1
  go_wp2_with fail
  refine (EE.out _ _ ((K_4.out.arrI).keep (bAlloc (Below.refl _ _) _)) _ ((N_4.out.arrI).keep (bAlloc (Below.refl _ _) _))).mono ?_
  rintro r w5 ⟨vY, rfl, ha, hb⟩
  obtain ⟨aY, cY, bY, eY, rfl, _, _, _, _⟩ := ha.arrI
  have Y_5 : Hid (Arr (w4.heap.size + 1) w5.heap.size w5 (.agg #[.slice aY S.length cY, .slice bY D.length eY]) S D) := ha.mono (by first | exact Nat.le_refl _ | simp | (simp; omega)) (Nat.le_refl _)
  clear ha
  have HB5 : Hid (Below w4.heap.size w4 w5) := bTrans (bAlloc (Below.refl _ _) _) hb
  have HT5 : Hid (Below w.heap.size w w5) := bTrans HT4.out HB5.out
  have SZ5 : Hid (w4.heap.size ≤ w5.heap.size) := HB5.out.size
  have QN_5 : Hid (Box w5 w1.heap.size (.slice a1 s.length c1) (.slice b1 d.length e1) 26) := QN_4.out.keep HB5.out
  have QM_5 : Hid (Box w5 (w1.heap.size + 1) (.slice a2 t.length c2) (.slice b2 f.length e2) 26) := QM_4.out.keep HB5.out
  have QK_5 : Hid (Box w5 w3.heap.size (.slice aK 0 cK) (.slice bK 1 eK) 26) := QK_4.out.keep HB5.out
  have N_5 : Hid (Arr w.heap.size w1.heap.size w5 (.agg #[.slice a1 s.length c1, .slice b1 d.length e1]) s d) := N_4.out.keep HB5.out
  have K_5 : Hid (Arr w2.heap.size w3.heap.size w5 (.agg #[.slice aK 0 cK, .slice bK 1 eK]) [] [bb - 99]) := K_4.out.keep HB5.out
  have X_5 : Hid (Arr (w3.heap.size + 1) w4.heap.size w5 (.agg #[.slice aX S.length cX, .slice bX D.length eX]) S D) := X_4.out.keep HB5.out
  have QX_5 : Hid (Box w5 w4.heap.size (.slice aX S.length cX) (.slice bX D.length eX) 26) := (box_new w4 _ _ _).keep hb
  have LTQX : Hid (w4.heap.size < w5.heap.size) := QX_5.out.lt
  clear QN_4 QM_4 QK_4 N_4 K_4 X_4 QNc0 QNc1 QNd0 QNd1 QMc0 QMc1 QMd0 QMd1 QKc0 QKc1 QKd0 QKd1 hb
  have QNc0 := QN_5.out.c0
  have QNc1 := QN_5.out.c1
  have QNd0 : ∀ o : Obj, (w5.alloc o).cell? ⟨w1.heap.size, 0, none⟩ = some (.slice a1 s.length c1) := fun o => (QN_5.out.keep (bAlloc (Below.refl _ _) o)).c0
  have QNd1 : ∀ o : Obj, (w5.alloc o).cell? ⟨w1.heap.size, 1, none⟩ = some (.slice b1 d.length e1) := fun o => (QN_5.out.keep (bAlloc (Below.refl _ _) o)).c1
  have QMc0 := QM_5.out.c0
  have QMc1 := QM_5.out.c1
  have QMd0 : ∀ o : Obj, (w5.alloc o).cell? ⟨(w1.heap.size + 1), 0, none⟩ = some (.slice a2 t.length c2) := fun o => (QM_5.out.keep (bAlloc (Below.refl _ _) o)).c0
  have QMd1 : ∀ o : Obj, (w5.alloc o).cell? ⟨(w1.heap.size + 1), 1, none⟩ = some (.slice b2 f.length e2) := fun o => (QM_5.out.keep (bAlloc (Below.refl _ _) o)).c1
  have QKc0 := QK_5.out.c0
  have QKc1 := QK_5.out.c1
  have QKd0 : ∀ o : Obj, (w5.alloc o).cell? ⟨w3.heap.size, 0, none⟩ = some (.slice aK 0 cK) := fun o => (QK_5.out.keep (bAlloc (Below.refl _ _) o)).c0
  have QKd1 : ∀ o : Obj, (w5.alloc o).cell? ⟨w3.heap.size, 1, none⟩ = some (.slice bK 1 eK) := fun o => (QK_5.out.keep (bAlloc (Below.refl _ _) o)).c1
  have QXc0 := QX_5.out.c0
  have QXc1 := QX_5.out.c1
  have QXd0 : ∀ o : Obj, (w5.alloc o).cell? ⟨w4.heap.size, 0, none⟩ = some (.slice aX S.length cX) := fun o => (QX_5.out.keep (bAlloc (Below.refl _ _) o)).c0
  have QXd1 : ∀ o : Obj, (w5.alloc o).cell? ⟨w4.heap.size, 1, none⟩ = some (.slice bX D.length eX) := fun o => (QX_5.out.keep (bAlloc (Below.refl _ _) o)).c1
  go_wp2_with fail
  refine (ES.out _ _ ((K_5.out.arrI).keep (bAlloc (Below.refl _ _) _)) _ ((N_5.out.arrI).keep (bAlloc (Below.refl _ _) _))).mono ?_
  rintro r w6 ⟨vW, rfl, ha, hb⟩
  obtain ⟨aW, cW, bW, eW, rfl, _, _, _, _⟩ := ha.arrI
  have W_6 : Hid (Arr (w5.heap.size + 1) w6.heap.size w6 (.agg #[.slice aW S.length cW, .slice bW D.length eW]) S D) := ha.mono (by first | exact Nat.le_refl _ | simp | (simp; omega)) (Nat.le_refl _)
  clear ha
  have HB6 : Hid (Below w5.heap.size w5 w6) := bTrans (bAlloc (Below.refl _ _) _) hb
  have HT6 : Hid (Below w.heap.size w w6) := bTrans HT5.out HB6.out
  have SZ6 : Hid (w5.heap.size ≤ w6.heap.size) := HB6.out.size
  have QN_6 : Hid (Box w6 w1.heap.size (.slice a1 s.length c1) (.slice b1 d.length e1) 26) := QN_5.out.keep HB6.out
  have QM_6 : Hid (Box w6 (w1.heap.size + 1) (.slice a2 t.length c2) (.slice b2 f.length e2) 26) := QM_5.out.keep HB6.out
  have QK_6 : Hid (Box w6 w3.heap.size (.slice aK 0 cK) (.slice bK 1 eK) 26) := QK_5.out.keep HB6.out
  have QX_6 : Hid (Box w6 w4.heap.size (.slice aX S.length cX) (.slice bX D.length eX) 26) := QX_5.out.keep HB6.out
  have N_6 : Hid (Arr w.heap.size w1.heap.size w6 (.agg #[.slice a1 s.length c1, .slice b1 d.length e1]) s d) := N_5.out.keep HB6.out
  have K_6 : Hid (Arr w2.heap.size w3.heap.size w6 (.agg #[.slice aK 0 cK, .slice bK 1 eK]) [] [bb - 99]) := K_5.out.keep HB6.out
  have X_6 : Hid (Arr (w3.heap.size + 1) w4.heap.size w6 (.agg #[.slice aX S.length cX, .slice bX D.length eX]) S D) := X_5.out.keep HB6.out
  have Y_6 : Hid (Arr (w4.heap.size + 1) w5.heap.size w6 (.agg #[.slice aY S.length cY, .slice bY D.length eY]) S D) := Y_5.out.keep HB6.out
  have QY_6 : Hid (Box w6 w5.heap.size (.slice aY S.length cY) (.slice bY D.length eY) 26) := (box_new w5 _ _ _).keep hb
  have LTQY : Hid (w5.heap.size < w6.heap.size) := QY_6.out.lt
  clear QN_5 QM_5 QK_5 QX_5 N_5 K_5 X_5 Y_5 QNc0 QNc1 QNd0 QNd1 QMc0 QMc1 QMd0 QMd1 QKc0 QKc1 QKd0 QKd1 QXc0 QXc1 QXd0 QXd1 hb
  have QNc0 := QN_6.out.c0
  have QNc1 := QN_6.out.c1
  have QNd0 : ∀ o : Obj, (w6.alloc o).cell? ⟨w1.heap.size, 0, none⟩ = some (.slice a1 s.length c1) := fun o => (QN_6.out.keep (bAlloc (Below.refl _ _) o)).c0
  have QNd1 : ∀ o : Obj, (w6.alloc o).cell? ⟨w1.heap.size, 1, none⟩ = some (.slice b1 d.length e1) := fun o => (QN_6.out.keep (bAlloc (Below.refl _ _) o)).c1
  have QMc0 := QM_6.out.c0
  have QMc1 := QM_6.out.c1
  have QMd0 : ∀ o : Obj, (w6.alloc o).cell? ⟨(w1.heap.size + 1), 0, none⟩ = some (.slice a2 t.length c2) := fun o => (QM_6.out.keep (bAlloc (Below.refl _ _) o)).c0
  have QMd1 : ∀ o : Obj, (w6.alloc o).cell? ⟨(w1.heap.size + 1), 1, none⟩ = some (.slice b2 f.length e2) := fun o => (QM_6.out.keep (bAlloc (Below.refl _ _) o)).c1
  have QKc0 := QK_6.out.c0
  have QKc1 := QK_6.out.c1
  have QKd0 : ∀ o : Obj, (w6.alloc o).cell? ⟨w3.heap.size, 0, none⟩ = some (.slice aK 0 cK) := fun o => (QK_6.out.keep (bAlloc (Below.refl _ _) o)).c0
  have QKd1 : ∀ o : Obj, (w6.alloc o).cell? ⟨w3.heap.size, 1, none⟩ = some (.slice bK 1 eK) := fun o => (QK_6.out.keep (bAlloc (Below.refl _ _) o)).c1
  have QXc0 := QX_6.out.c0
  have QXc1 := QX_6.out.c1
  have QXd0 : ∀ o : Obj, (w6.alloc o).cell? ⟨w4.heap.size, 0, none⟩ = some (.slice aX S.length cX) := fun o => (QX_6.out.keep (bAlloc (Below.refl _ _) o)).c0
  have QXd1 : ∀ o : Obj, (w6.alloc o).cell? ⟨w4.heap.size, 1, none⟩ = some (.slice bX D.length eX) := fun o => (QX_6.out.keep (bAlloc (Below.refl _ _) o)).c1
  have QYc0 := QY_6.out.c0
  have QYc1 := QY_6.out.c1
  have QYd0 : ∀ o : Obj, (w6.alloc o).cell? ⟨w5.heap.size, 0, none⟩ = some (.slice aY S.length cY) := fun o => (QY_6.out.keep (bAlloc (Below.refl _ _) o)).c0
  have QYd1 : ∀ o : Obj, (w6.alloc o).cell? ⟨w5.heap.size, 1, none⟩ = some (.slice bY D.length eY) := fun o => (QY_6.out.keep (bAlloc (Below.refl _ _) o)).c1
  go_wp2_with fail
  refine (SA.out _ _ _ ((X_6.out.arrI).keep (bAlloc (Below.refl _ _) _)) ((Y_6.out.arrI).keep (bAlloc (Below.refl _ _) _))).mono ?_
  rintro r w7 ⟨rfl, hb⟩
  have HB7 : Hid (Below w6.heap.size w6 w7) := bTrans (bAlloc (Below.refl _ _) _) hb
  have HT7 : Hid (Below w.heap.size w w7) := bTrans HT6.out HB7.out
  have SZ7 : Hid (w6.heap.size ≤ w7.heap.size) := HB7.out.size
  have QN_7 : Hid (Box w7 w1.heap.size (.slice a1 s.length c1) (.slice b1 d.length e1) 26) := QN_6.out.keep HB7.out
  have QM_7 : Hid (Box w7 (w1.heap.size + 1) (.slice a2 t.length c2) (.slice b2 f.length e2) 26) := QM_6.out.keep HB7.out
  have QK_7 : Hid (Box w7 w3.heap.size (.slice aK 0 cK) (.slice bK 1 eK) 26) := QK_6.out.keep HB7.out
  have QX_7 : Hid (Box w7 w4.heap.size (.slice aX S.length cX) (.slice bX D.length eX) 26) := QX_6.out.keep HB7.out
  have QY_7 : Hid (Box w7 w5.heap.size (.slice aY S.length cY) (.slice bY D.length eY) 26) := QY_6.out.keep HB7.out
  have N_7 : Hid (Arr w.heap.size w1.heap.size w7 (.agg #[.slice a1 s.length c1, .slice b1 d.length e1]) s d) := N_6.out.keep HB7.out
  have K_7 : Hid (Arr w2.heap.size w3.heap.size w7 (.agg #[.slice aK 0 cK, .slice bK 1 eK]) [] [bb - 99]) := K_6.out.keep HB7.out
  have X_7 : Hid (Arr (w3.heap.size + 1) w4.heap.size w7 (.agg #[.slice aX S.length cX, .slice bX D.length eX]) S D) := X_6.out.keep HB7.out
  have Y_7 : Hid (Arr (w4.heap.size + 1) w5.heap.size w7 (.agg #[.slice aY S.length cY, .slice bY D.length eY]) S D) := Y_6.out.keep HB7.out
  have QW_7 : Hid (Box w7 w6.heap.size (.slice aW S.length cW) (.slice bW D.length eW) 26) := (box_new w6 _ _ _).keep hb
  have LTQW : Hid (w6.heap.size < w7.heap.size) := QW_7.out.lt
  clear QN_6 QM_6 QK_6 QX_6 QY_6 N_6 K_6 X_6 Y_6 QNc0 QNc1 QNd0 QNd1 QMc0 QMc1 QMd0 QMd1 QKc0 QKc1 QKd0 QKd1 QXc0 QXc1 QXd0 QXd1 QYc0 QYc1 QYd0 QYd1 hb
  have QNc0 := QN_7.out.c0
  have QNc1 := QN_7.out.c1
  have QMc0 := QM_7.out.c0
  have QMc1 := QM_7.out.c1
  have QKc0 := QK_7.out.c0
  have QKc1 := QK_7.out.c1
  have QXc0 := QX_7.out.c0
  have QXc1 := QX_7.out.c1
  have QYc0 := QY_7.out.c0
  have QYc1 := QY_7.out.c1
  have QWc0 := QW_7.out.c0
  have QWc1 := QW_7.out.c1
  go_wp2
  go_ret
  exact ⟨rfl, HT7.out⟩

/-! ### THE ROW's STEP: WRITTEN OUT: LEAVE IT -/
set_option maxRecDepth 100000 in
theorem lifted (os : Os) (started : os.Started) (H : Type) (enc : TypeId × Value → H) :
    ReturnsInHanded {} Try.checked os 3 .any (Rows.fnAloneSpec.pre6 enc Try.prog Try.f3 Rows.fnAloneRow.domain false) (Rows.fnAloneSpec.post enc Try.prog Try.f3 false true false false) := by
  refine returnsInHanded_of_change (C := Try.checked) own started (by kernel_rfl) Try.func3
    (ChangeSpec.witness6 (enc := enc) (C := Try.checked) false ⟨#[], #[.slice none 0 0], []⟩ 8 (by kernel_rfl) (by kernel_rfl) (by kernel_rfl) (by kernel_rfl)) ?_
  intro W base args ds gs before hval0 hW hcnd _
  have hval : ∀ (j : Nat) t v, Try.f3.params[j]? = some t → args[j]? = some v → Value.okWide Try.prog W .any base t v := hval0
  have hW' := hW
  obtain ⟨p, q, hA0, hV, rfl, hfz, hnd⟩ := hW
  have hA : DataW.TrodAll enc Try.prog W 0 (fun _ => true) true Try.f3.params.toList args.toList ds p := hA0
  rw [Try.params3] at hA hval
  obtain ⟨v0, vs0, d0, ds0, p0, q0, hargs, rfl, rfl, h0, r0⟩ := trodAll_cons hA
  obtain ⟨rfl, rfl, rfl⟩ := trodAll_nil r0
  obtain rfl : args = #[v0] := by cases args; simp_all
  obtain ⟨rfl, rfl⟩ := trodVars_none hV
  obtain ⟨a0, len0, cap0, rfl⟩ := okWide_slice Try.underlying22 (hval 0 22 v0 rfl rfl)
  have k0 := h0
  have lt0 : ∀ x ∈ p0, x.block < W.heap.size := by obtain ⟨m, hm⟩ := k0; exact DataW.trod_lt m _ _ _ hm
  obtain ⟨z0, w0⟩ : ∃ zs, IsRow .u8 W a0 len0 cap0 zs := by
    obtain ⟨fuel, hf⟩ := h0
    rcases open_ints Try.underlying22 Try.underlying5 (by kernel_rfl) hf with ⟨hcs, _⟩ | ⟨x, l, c, zs, hcs, _, hl, hm, hz, _, hcell, hwz⟩
    · simp [Value.cells] at hcs
      obtain ⟨rfl, rfl, rfl⟩ := hcs
      exact ⟨[], .inl ⟨rfl, rfl, rfl, rfl⟩⟩
    · simp [Value.cells] at hcs
      obtain ⟨rfl, rfl, rfl⟩ := hcs
      exact ⟨zs, .inr ⟨_, rfl, hl, hm, by simpa using hz, hcell, hwz⟩⟩
  clear hA0 hval0
  refine (walk a0 len0 cap0 z0 W w0).mono fun e W' ⟨he, bel⟩ => ?_
  subst he
  exact ⟨_, rfl, _, _, _, [], _, [], hW', trodAll_mk1 (shut_bool Try.underlying4 _), (trodAll_cons_mk (Below.trod laidOut (by kernel_rfl) (of_decide_eq_true (by kernel_rfl)) k0 bel lt0) trodAll_mk0), rfl, bel.frame _, fun h => by cases h⟩

theorem over : Rows.fnAloneRow.holds Try.pinned (OpenSpec.ofChange Rows.fnAloneSpec) :=
  OpenClaim.holds_of_wide 3 Try.f3 rfl rfl rfl rfl rfl rfl rfl ⟨rfl, rfl, rfl, rfl, rfl⟩ rfl rfl rfl rfl rfl (by kernel_rfl) Try.func3 (by kernel_rfl)
    (of_decide_eq_true (by kernel_rfl)) (by unfold Func.isWrapper; first | (rw [if_pos (by decide +kernel)]; kernel_rfl) | (rw [if_neg (by decide +kernel)]; exact ⟨rfl, rfl⟩))
    (fun os started H enc _ => lifted os started H enc)

/-- ████ THE STATEMENT ████ -/
theorem proved : Rows.FnAloneSaid := over
end Go.Proofs.Ytcpgdhffemecbab.fnAlone
namespace Go.Proofs.Ytcpgdhffemecbab
theorem fnAlone_holds : Rows.FnAloneSaid := fnAlone.proved
#print axioms fnAlone_holds
end Go.Proofs.Ytcpgdhffemecbab
