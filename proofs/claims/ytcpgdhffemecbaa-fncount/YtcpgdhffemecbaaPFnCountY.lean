/-
  Proved: whatever code it is given, the law FnCount returns true: a drawn array has as many numbers as the product of its shape tells, and its shape as many as its rank. No condition.
-/
import Derived.Test.YtcpgdhffemecbaaRows
import Derived.WalkKit
import Derived.ProofKit
import Derived.OpenShut
import Derived.ShutString
import Derived.ChangeOld
import Derived.Below
import Derived.Test.YtcpgdhffemecbaaZ2
import Derived.Test.YtcpgdhffemecbaaDrawShapeOf
import Derived.Test.YtcpgdhffemecbaaEachF
import Derived.Test.YtcpgdhffemecbaaZ1
import Derived.Test.YtcpgdhffemecbaaLaw3
namespace Go.Proofs.Ytcpgdhffemecbaa.fnCount
open Go.ChangeShapes Go.WideShapes Go.ChangeAt Go.RowKit
open Go.ChangeMaps (open_string shut_string)
set_option linter.unusedVariables false
set_option linter.unusedSimpArgs false
set_option linter.unusedVariables false

theorem own : ownKnob Try.prog.godebug = none := by kernel_rfl
theorem laidOut : laidOutB Try.prog = true := by kernel_rfl

/-! ### STEP 1: THE WALK: the Go text returns true, AND WRITES NOTHING THAT WAS THERE: 'Below w.heap.size w w'' (Derived/Below.lean: '.refl', '.alloc', '.drew', '.setCell' at a new block, '.trans'). Open each 'IsRow' by 'rcases' AHEAD of 'go_enter'; part every test ahead of the walk. -/
set_option maxRecDepth 20000 in
set_option maxHeartbeats 8000000 in
theorem walk (a0 : Option Addr) (len0 cap0 : Nat) (z0 : List Int) (w : World) (w0 : IsRow .u8 w a0 len0 cap0 z0) :
    Calls Try.prog 5 #[.slice a0 len0 cap0] w fun e w' => e = .returned (.bool true) ∧ Below w.heap.size w w' := by
  have HS : Hid (Src w.heap.size w a0 len0) := src_of_row w0
  clear w0
  by_cases hbig : (1048576 : Int) < (len0 : Int)
  · go_enter Try.func5, Try.ntmps5
    go_wp2_with (go_at_call 7; refine (big_laws _ _ _ _).mono ?_; rintro e w' ⟨rfl, hw⟩; subst w')
    go_ret
    exact ⟨rfl, Below.refl _ _⟩
  have hb20 : len0 ≤ 1048576 := by omega
  go_enter Try.func5, Try.ntmps5
  go_wp2_with (go_at_call 7; refine (big_laws _ _ _ _).mono ?_; rintro e w' ⟨rfl, hw⟩; subst w')
  refine (drawShapeOf_spec HS.out hb20).mono ?_
  rintro r w1 ⟨v1, s, d, rfl, ha, hls, hld, hb⟩
  obtain ⟨a1, c1, b1, e1, rfl, _, _, _, _⟩ := ha.arrI
  have N_1 : Hid (Arr w.heap.size w1.heap.size w1 (.agg #[.slice a1 s.length c1, .slice b1 d.length e1]) s d) := ha
  have Ls : Hid (s.length ≤ 1048576) := by show _ ≤ _; omega
  have Ld : Hid (d.length ≤ 1048576) := by show _ ≤ _; omega
  have HT1 : Hid (Below w.heap.size w w1) := hb
  have SZ1 : Hid (w.heap.size ≤ w1.heap.size) := hb.size
  clear hb ha hls hld
  obtain ⟨C, hC⟩ : ∃ y, y = (shapeOfR s d).1 := ⟨_, rfl⟩
  obtain ⟨S, hS⟩ : ∃ y, y = (shapeOfR s d).2.1 := ⟨_, rfl⟩
  obtain ⟨D, hD⟩ : ∃ y, y = (shapeOfR s d).2.2 := ⟨_, rfl⟩
  obtain ⟨C2, hC2⟩ : ∃ y, y = (reduceR 42 S D).1 := ⟨_, rfl⟩
  obtain ⟨S2, hS2⟩ : ∃ y, y = (reduceR 42 S D).2.1 := ⟨_, rfl⟩
  obtain ⟨D2, hD2⟩ : ∃ y, y = (reduceR 42 S D).2.2 := ⟨_, rfl⟩
  obtain ⟨C3, hC3⟩ : ∃ y, y = (ravelR s d).1 := ⟨_, rfl⟩
  obtain ⟨S3, hS3⟩ : ∃ y, y = (ravelR s d).2.1 := ⟨_, rfl⟩
  obtain ⟨D3, hD3⟩ : ∃ y, y = (ravelR s d).2.2 := ⟨_, rfl⟩
  obtain ⟨C4, hC4⟩ : ∃ y, y = (shapeOfR S3 D3).1 := ⟨_, rfl⟩
  obtain ⟨S4, hS4⟩ : ∃ y, y = (shapeOfR S3 D3).2.1 := ⟨_, rfl⟩
  obtain ⟨D4, hD4⟩ : ∃ y, y = (shapeOfR S3 D3).2.2 := ⟨_, rfl⟩
  have LA : Hid (S.length ≤ 1048576 ∧ D.length ≤ 1048576) := by show _ ∧ _; rw [hS, hD]; exact mkR_len (fun _ => by simp) (fun _ => Ls.out)
  have LC : Hid (S3.length ≤ 1048576 ∧ D3.length ≤ 1048576) := by show _ ∧ _; rw [hS3, hD3]; exact mkR_len (fun _ => by simp) (fun _ => Ld.out)
  have EI : Hid (∀ (W : World) (u0 : Value) (_ : ArrI W u0 s d), Calls Try.prog 23 #[u0] W fun e w' => ∃ v, e = .returned (.tuple #[v, .int .i64 C]) ∧ Arr W.heap.size w'.heap.size w' v S D ∧ Below W.heap.size W w') := by
    intro W u0 h0
    rw [hC, hS, hD]
    exact shapeOf_impl h0 Ls.out Ld.out
  have ES : Hid (∀ (W : World) (u0 : Value) (_ : ArrI W u0 s d), Calls Try.prog 24 #[u0] W fun e w' => ∃ v, e = .returned (.tuple #[v, .int .i64 C]) ∧ Arr W.heap.size w'.heap.size w' v S D ∧ Below W.heap.size W w') := by
    intro W u0 h0
    rw [hC, hS, hD]
    exact shapeOf_spec h0 Ls.out Ld.out
  have E2 : Hid (∀ (W : World) (u1 : Value) (_ : ArrI W u1 S D), Calls Try.prog 9 #[.int .i64 42, u1] W fun e w' => ∃ v, e = .returned (.tuple #[v, .int .i64 C2]) ∧ Arr W.heap.size w'.heap.size w' v S2 D2 ∧ Below W.heap.size W w') := by
    intro W u1 h1
    rw [hC2, hS2, hD2]
    exact reduce_impl h1 LA.out.1 LA.out.2
  have E3 : Hid (∀ (W : World) (u0 : Value) (_ : ArrI W u0 s d), Calls Try.prog 25 #[u0] W fun e w' => ∃ v, e = .returned (.tuple #[v, .int .i64 C3]) ∧ Arr W.heap.size w'.heap.size w' v S3 D3 ∧ Below W.heap.size W w') := by
    intro W u0 h0
    rw [hC3, hS3, hD3]
    exact ravel_impl h0 Ls.out Ld.out
  have E4 : Hid (∀ (W : World) (u0 : Value) (_ : ArrI W u0 S3 D3), Calls Try.prog 23 #[u0] W fun e w' => ∃ v, e = .returned (.tuple #[v, .int .i64 C4]) ∧ Arr W.heap.size w'.heap.size w' v S4 D4 ∧ Below W.heap.size W w') := by
    intro W u0 h0
    rw [hC4, hS4, hD4]
    exact shapeOf_impl h0 LC.out.1 LC.out.2
  have FG : Hid (C = 0 → D = s ∧ C2 = 0 ∧ D2 = [(d.length : Int)] ∧ D4 = [(d.length : Int)] ∧ d.length ≤ 300) := by
    intro h
    have ho : arrOk s d = true := by
      rw [hC] at h
      unfold shapeOfR okC at h
      by_cases q : arrOk s d = true
      · exact q
      · rw [if_neg q, mkR_code] at h; cases h
    have e1 : shapeOfR s d = (0, [(s.length : Int)], s) := by unfold shapeOfR okC; rw [if_pos ho]; rfl
    have e3 : ravelR s d = (0, [(d.length : Int)], d) := by unfold ravelR okC; rw [if_pos ho]; rfl
    have o3 : arrOk [(d.length : Int)] d = true := by
      have q := ho
      simp only [arrOk, Bool.and_eq_true, decide_eq_true_eq] at q ⊢
      have := arrOk_len ho
      refine ⟨?_, q.2⟩
      unfold sizeV
      rw [if_neg (by simp), if_pos (by simp [dimOk]; omega), prod1, if_neg (by omega)]
    have e4 : shapeOfR [(d.length : Int)] d = (0, [1], [(d.length : Int)]) := by unfold shapeOfR okC; rw [if_pos o3]; rfl
    rw [e1] at hS hD
    rw [e3] at hS3 hD3
    rw [hS, hD, count_all ho] at hC2 hD2
    rw [hS3, hD3, e4] at hD4
    exact ⟨hD, hC2, hD2, hD4, arrOk_len ho⟩
  have FB : Hid (C ≠ 0 → D.length = 0) := by
    intro h
    rw [hC] at h
    rw [hD]
    unfold shapeOfR okC at *
    by_cases q : arrOk s d = true
    · rw [if_pos q, mkR_code] at h; exact absurd rfl h
    · rw [if_neg q]; rfl
  have hneC : (C != C) = false := by simp
  clear hC hS hD hC2 hS2 hD2 hC3 hS3 hD3 hC4 hS4 hD4
  go_wp2_with fail
  refine (EI.out _ _ ((N_1.out.arrI).keep (bAlloc (Below.refl _ _) _))).mono ?_
  rintro r w2 ⟨vG, rfl, ha, hb⟩
  obtain ⟨aG, cG, bG, eG, rfl, _, _, _, _⟩ := ha.arrI
  have G_2 : Hid (Arr (w1.heap.size + 1) w2.heap.size w2 (.agg #[.slice aG S.length cG, .slice bG D.length eG]) S D) := ha.mono (by first | exact Nat.le_refl _ | simp | (simp; omega)) (Nat.le_refl _)
  clear ha
  have HB2 : Hid (Below w1.heap.size w1 w2) := bTrans (bAlloc (Below.refl _ _) _) hb
  have HT2 : Hid (Below w.heap.size w w2) := bTrans HT1.out HB2.out
  have SZ2 : Hid (w1.heap.size ≤ w2.heap.size) := HB2.out.size
  have N_2 : Hid (Arr w.heap.size w1.heap.size w2 (.agg #[.slice a1 s.length c1, .slice b1 d.length e1]) s d) := N_1.out.keep HB2.out
  have QN_2 : Hid (Box w2 w1.heap.size (.slice a1 s.length c1) (.slice b1 d.length e1) 26) := (box_new w1 _ _ _).keep hb
  have LTQN : Hid (w1.heap.size < w2.heap.size) := QN_2.out.lt
  clear N_1 hb
  have QNc0 := QN_2.out.c0
  have QNc1 := QN_2.out.c1
  have QNd0 : ∀ o : Obj, (w2.alloc o).cell? ⟨w1.heap.size, 0, none⟩ = some (.slice a1 s.length c1) := fun o => (QN_2.out.keep (bAlloc (Below.refl _ _) o)).c0
  have QNd1 : ∀ o : Obj, (w2.alloc o).cell? ⟨w1.heap.size, 1, none⟩ = some (.slice b1 d.length e1) := fun o => (QN_2.out.keep (bAlloc (Below.refl _ _) o)).c1
  go_wp2_with fail
  refine (ES.out _ _ ((N_2.out.arrI).keep (bAlloc (Below.refl _ _) _))).mono ?_
  rintro r w3 ⟨vW, rfl, ha, hb⟩
  obtain ⟨aW, cW, bW, eW, rfl, _, _, _, _⟩ := ha.arrI
  have W_3 : Hid (Arr (w2.heap.size + 1) w3.heap.size w3 (.agg #[.slice aW S.length cW, .slice bW D.length eW]) S D) := ha.mono (by first | exact Nat.le_refl _ | simp | (simp; omega)) (Nat.le_refl _)
  clear ha
  have HB3 : Hid (Below w2.heap.size w2 w3) := bTrans (bAlloc (Below.refl _ _) _) hb
  have HT3 : Hid (Below w.heap.size w w3) := bTrans HT2.out HB3.out
  have SZ3 : Hid (w2.heap.size ≤ w3.heap.size) := HB3.out.size
  have QN_3 : Hid (Box w3 w1.heap.size (.slice a1 s.length c1) (.slice b1 d.length e1) 26) := QN_2.out.keep HB3.out
  have N_3 : Hid (Arr w.heap.size w1.heap.size w3 (.agg #[.slice a1 s.length c1, .slice b1 d.length e1]) s d) := N_2.out.keep HB3.out
  have G_3 : Hid (Arr (w1.heap.size + 1) w2.heap.size w3 (.agg #[.slice aG S.length cG, .slice bG D.length eG]) S D) := G_2.out.keep HB3.out
  have QG_3 : Hid (Box w3 w2.heap.size (.slice aG S.length cG) (.slice bG D.length eG) 26) := (box_new w2 _ _ _).keep hb
  have LTQG : Hid (w2.heap.size < w3.heap.size) := QG_3.out.lt
  clear QN_2 N_2 G_2 QNc0 QNc1 QNd0 QNd1 hb
  have QNc0 := QN_3.out.c0
  have QNc1 := QN_3.out.c1
  have QNd0 : ∀ o : Obj, (w3.alloc o).cell? ⟨w1.heap.size, 0, none⟩ = some (.slice a1 s.length c1) := fun o => (QN_3.out.keep (bAlloc (Below.refl _ _) o)).c0
  have QNd1 : ∀ o : Obj, (w3.alloc o).cell? ⟨w1.heap.size, 1, none⟩ = some (.slice b1 d.length e1) := fun o => (QN_3.out.keep (bAlloc (Below.refl _ _) o)).c1
  have QGc0 := QG_3.out.c0
  have QGc1 := QG_3.out.c1
  have QGd0 : ∀ o : Obj, (w3.alloc o).cell? ⟨w2.heap.size, 0, none⟩ = some (.slice aG S.length cG) := fun o => (QG_3.out.keep (bAlloc (Below.refl _ _) o)).c0
  have QGd1 : ∀ o : Obj, (w3.alloc o).cell? ⟨w2.heap.size, 1, none⟩ = some (.slice bG D.length eG) := fun o => (QG_3.out.keep (bAlloc (Below.refl _ _) o)).c1
  by_cases hc : C = 0
  · obtain ⟨hDs, rfl, hD2, hD4, hd3⟩ := FG.out hc
    subst hc
    have HDS : Hid (D = s) := hDs
    have HD2 : Hid (D2 = [(d.length : Int)]) := hD2
    have HD4 : Hid (D4 = [(d.length : Int)]) := hD4
    clear FG FB hDs hD2 hD4
    go_wp2_with fail
    refine (E2.out _ _ ((G_3.out.arrI).keep (bAlloc (Below.refl _ _) _))).mono ?_
    rintro r w4 ⟨vR, rfl, ha, hb⟩
    obtain ⟨aR, cR, bR, eR, rfl, _, _, _, _⟩ := ha.arrI
    have R_4 : Hid (Arr (w3.heap.size + 1) w4.heap.size w4 (.agg #[.slice aR S2.length cR, .slice bR D2.length eR]) S2 D2) := ha.mono (by first | exact Nat.le_refl _ | simp | (simp; omega)) (Nat.le_refl _)
    clear ha
    have HB4 : Hid (Below w3.heap.size w3 w4) := bTrans (bAlloc (Below.refl _ _) _) hb
    have HT4 : Hid (Below w.heap.size w w4) := bTrans HT3.out HB4.out
    have SZ4 : Hid (w3.heap.size ≤ w4.heap.size) := HB4.out.size
    have QN_4 : Hid (Box w4 w1.heap.size (.slice a1 s.length c1) (.slice b1 d.length e1) 26) := QN_3.out.keep HB4.out
    have QG_4 : Hid (Box w4 w2.heap.size (.slice aG S.length cG) (.slice bG D.length eG) 26) := QG_3.out.keep HB4.out
    have N_4 : Hid (Arr w.heap.size w1.heap.size w4 (.agg #[.slice a1 s.length c1, .slice b1 d.length e1]) s d) := N_3.out.keep HB4.out
    have G_4 : Hid (Arr (w1.heap.size + 1) w2.heap.size w4 (.agg #[.slice aG S.length cG, .slice bG D.length eG]) S D) := G_3.out.keep HB4.out
    have QW_4 : Hid (Box w4 w3.heap.size (.slice aW S.length cW) (.slice bW D.length eW) 26) := (box_new w3 _ _ _).keep hb
    have LTQW : Hid (w3.heap.size < w4.heap.size) := QW_4.out.lt
    clear QN_3 QG_3 N_3 G_3 QNc0 QNc1 QNd0 QNd1 QGc0 QGc1 QGd0 QGd1 hb
    have QNc0 := QN_4.out.c0
    have QNc1 := QN_4.out.c1
    have QNd0 : ∀ o : Obj, (w4.alloc o).cell? ⟨w1.heap.size, 0, none⟩ = some (.slice a1 s.length c1) := fun o => (QN_4.out.keep (bAlloc (Below.refl _ _) o)).c0
    have QNd1 : ∀ o : Obj, (w4.alloc o).cell? ⟨w1.heap.size, 1, none⟩ = some (.slice b1 d.length e1) := fun o => (QN_4.out.keep (bAlloc (Below.refl _ _) o)).c1
    have QGc0 := QG_4.out.c0
    have QGc1 := QG_4.out.c1
    have QGd0 : ∀ o : Obj, (w4.alloc o).cell? ⟨w2.heap.size, 0, none⟩ = some (.slice aG S.length cG) := fun o => (QG_4.out.keep (bAlloc (Below.refl _ _) o)).c0
    have QGd1 : ∀ o : Obj, (w4.alloc o).cell? ⟨w2.heap.size, 1, none⟩ = some (.slice bG D.length eG) := fun o => (QG_4.out.keep (bAlloc (Below.refl _ _) o)).c1
    have QWc0 := QW_4.out.c0
    have QWc1 := QW_4.out.c1
    have QWd0 : ∀ o : Obj, (w4.alloc o).cell? ⟨w3.heap.size, 0, none⟩ = some (.slice aW S.length cW) := fun o => (QW_4.out.keep (bAlloc (Below.refl _ _) o)).c0
    have QWd1 : ∀ o : Obj, (w4.alloc o).cell? ⟨w3.heap.size, 1, none⟩ = some (.slice bW D.length eW) := fun o => (QW_4.out.keep (bAlloc (Below.refl _ _) o)).c1
    go_wp2_with fail
    refine (E3.out _ _ ((N_4.out.arrI).keep (bAlloc (Below.refl _ _) _))).mono ?_
    rintro r w5 ⟨vV, rfl, ha, hb⟩
    obtain ⟨aV, cV, bV, eV, rfl, _, _, _, _⟩ := ha.arrI
    have V_5 : Hid (Arr (w4.heap.size + 1) w5.heap.size w5 (.agg #[.slice aV S3.length cV, .slice bV D3.length eV]) S3 D3) := ha.mono (by first | exact Nat.le_refl _ | simp | (simp; omega)) (Nat.le_refl _)
    clear ha
    have HB5 : Hid (Below w4.heap.size w4 w5) := bTrans (bAlloc (Below.refl _ _) _) hb
    have HT5 : Hid (Below w.heap.size w w5) := bTrans HT4.out HB5.out
    have SZ5 : Hid (w4.heap.size ≤ w5.heap.size) := HB5.out.size
    have QN_5 : Hid (Box w5 w1.heap.size (.slice a1 s.length c1) (.slice b1 d.length e1) 26) := QN_4.out.keep HB5.out
    have QG_5 : Hid (Box w5 w2.heap.size (.slice aG S.length cG) (.slice bG D.length eG) 26) := QG_4.out.keep HB5.out
    have QW_5 : Hid (Box w5 w3.heap.size (.slice aW S.length cW) (.slice bW D.length eW) 26) := QW_4.out.keep HB5.out
    have N_5 : Hid (Arr w.heap.size w1.heap.size w5 (.agg #[.slice a1 s.length c1, .slice b1 d.length e1]) s d) := N_4.out.keep HB5.out
    have G_5 : Hid (Arr (w1.heap.size + 1) w2.heap.size w5 (.agg #[.slice aG S.length cG, .slice bG D.length eG]) S D) := G_4.out.keep HB5.out
    have R_5 : Hid (Arr (w3.heap.size + 1) w4.heap.size w5 (.agg #[.slice aR S2.length cR, .slice bR D2.length eR]) S2 D2) := R_4.out.keep HB5.out
    have QR_5 : Hid (Box w5 w4.heap.size (.slice aR S2.length cR) (.slice bR D2.length eR) 26) := (box_new w4 _ _ _).keep hb
    have LTQR : Hid (w4.heap.size < w5.heap.size) := QR_5.out.lt
    clear QN_4 QG_4 QW_4 N_4 G_4 R_4 QNc0 QNc1 QNd0 QNd1 QGc0 QGc1 QGd0 QGd1 QWc0 QWc1 QWd0 QWd1 hb
    have QNc0 := QN_5.out.c0
    have QNc1 := QN_5.out.c1
    have QNd0 : ∀ o : Obj, (w5.alloc o).cell? ⟨w1.heap.size, 0, none⟩ = some (.slice a1 s.length c1) := fun o => (QN_5.out.keep (bAlloc (Below.refl _ _) o)).c0
    have QNd1 : ∀ o : Obj, (w5.alloc o).cell? ⟨w1.heap.size, 1, none⟩ = some (.slice b1 d.length e1) := fun o => (QN_5.out.keep (bAlloc (Below.refl _ _) o)).c1
    have QGc0 := QG_5.out.c0
    have QGc1 := QG_5.out.c1
    have QGd0 : ∀ o : Obj, (w5.alloc o).cell? ⟨w2.heap.size, 0, none⟩ = some (.slice aG S.length cG) := fun o => (QG_5.out.keep (bAlloc (Below.refl _ _) o)).c0
    have QGd1 : ∀ o : Obj, (w5.alloc o).cell? ⟨w2.heap.size, 1, none⟩ = some (.slice bG D.length eG) := fun o => (QG_5.out.keep (bAlloc (Below.refl _ _) o)).c1
    have QWc0 := QW_5.out.c0
    have QWc1 := QW_5.out.c1
    have QWd0 : ∀ o : Obj, (w5.alloc o).cell? ⟨w3.heap.size, 0, none⟩ = some (.slice aW S.length cW) := fun o => (QW_5.out.keep (bAlloc (Below.refl _ _) o)).c0
    have QWd1 : ∀ o : Obj, (w5.alloc o).cell? ⟨w3.heap.size, 1, none⟩ = some (.slice bW D.length eW) := fun o => (QW_5.out.keep (bAlloc (Below.refl _ _) o)).c1
    have QRc0 := QR_5.out.c0
    have QRc1 := QR_5.out.c1
    have QRd0 : ∀ o : Obj, (w5.alloc o).cell? ⟨w4.heap.size, 0, none⟩ = some (.slice aR S2.length cR) := fun o => (QR_5.out.keep (bAlloc (Below.refl _ _) o)).c0
    have QRd1 : ∀ o : Obj, (w5.alloc o).cell? ⟨w4.heap.size, 1, none⟩ = some (.slice bR D2.length eR) := fun o => (QR_5.out.keep (bAlloc (Below.refl _ _) o)).c1
    go_wp2_with fail
    refine (E4.out _ _ ((V_5.out.arrI).keep (bAlloc (Below.refl _ _) _))).mono ?_
    rintro r w6 ⟨vX, rfl, ha, hb⟩
    obtain ⟨aX, cX, bX, eX, rfl, _, _, _, _⟩ := ha.arrI
    have X_6 : Hid (Arr (w5.heap.size + 1) w6.heap.size w6 (.agg #[.slice aX S4.length cX, .slice bX D4.length eX]) S4 D4) := ha.mono (by first | exact Nat.le_refl _ | simp | (simp; omega)) (Nat.le_refl _)
    clear ha
    have HB6 : Hid (Below w5.heap.size w5 w6) := bTrans (bAlloc (Below.refl _ _) _) hb
    have HT6 : Hid (Below w.heap.size w w6) := bTrans HT5.out HB6.out
    have SZ6 : Hid (w5.heap.size ≤ w6.heap.size) := HB6.out.size
    have QN_6 : Hid (Box w6 w1.heap.size (.slice a1 s.length c1) (.slice b1 d.length e1) 26) := QN_5.out.keep HB6.out
    have QG_6 : Hid (Box w6 w2.heap.size (.slice aG S.length cG) (.slice bG D.length eG) 26) := QG_5.out.keep HB6.out
    have QW_6 : Hid (Box w6 w3.heap.size (.slice aW S.length cW) (.slice bW D.length eW) 26) := QW_5.out.keep HB6.out
    have QR_6 : Hid (Box w6 w4.heap.size (.slice aR S2.length cR) (.slice bR D2.length eR) 26) := QR_5.out.keep HB6.out
    have N_6 : Hid (Arr w.heap.size w1.heap.size w6 (.agg #[.slice a1 s.length c1, .slice b1 d.length e1]) s d) := N_5.out.keep HB6.out
    have G_6 : Hid (Arr (w1.heap.size + 1) w2.heap.size w6 (.agg #[.slice aG S.length cG, .slice bG D.length eG]) S D) := G_5.out.keep HB6.out
    have R_6 : Hid (Arr (w3.heap.size + 1) w4.heap.size w6 (.agg #[.slice aR S2.length cR, .slice bR D2.length eR]) S2 D2) := R_5.out.keep HB6.out
    have V_6 : Hid (Arr (w4.heap.size + 1) w5.heap.size w6 (.agg #[.slice aV S3.length cV, .slice bV D3.length eV]) S3 D3) := V_5.out.keep HB6.out
    have QV_6 : Hid (Box w6 w5.heap.size (.slice aV S3.length cV) (.slice bV D3.length eV) 26) := (box_new w5 _ _ _).keep hb
    have LTQV : Hid (w5.heap.size < w6.heap.size) := QV_6.out.lt
    clear QN_5 QG_5 QW_5 QR_5 N_5 G_5 R_5 V_5 QNc0 QNc1 QNd0 QNd1 QGc0 QGc1 QGd0 QGd1 QWc0 QWc1 QWd0 QWd1 QRc0 QRc1 QRd0 QRd1 hb
    have QNc0 := QN_6.out.c0
    have QNc1 := QN_6.out.c1
    have QNd0 : ∀ o : Obj, (w6.alloc o).cell? ⟨w1.heap.size, 0, none⟩ = some (.slice a1 s.length c1) := fun o => (QN_6.out.keep (bAlloc (Below.refl _ _) o)).c0
    have QNd1 : ∀ o : Obj, (w6.alloc o).cell? ⟨w1.heap.size, 1, none⟩ = some (.slice b1 d.length e1) := fun o => (QN_6.out.keep (bAlloc (Below.refl _ _) o)).c1
    have QGc0 := QG_6.out.c0
    have QGc1 := QG_6.out.c1
    have QGd0 : ∀ o : Obj, (w6.alloc o).cell? ⟨w2.heap.size, 0, none⟩ = some (.slice aG S.length cG) := fun o => (QG_6.out.keep (bAlloc (Below.refl _ _) o)).c0
    have QGd1 : ∀ o : Obj, (w6.alloc o).cell? ⟨w2.heap.size, 1, none⟩ = some (.slice bG D.length eG) := fun o => (QG_6.out.keep (bAlloc (Below.refl _ _) o)).c1
    have QWc0 := QW_6.out.c0
    have QWc1 := QW_6.out.c1
    have QWd0 : ∀ o : Obj, (w6.alloc o).cell? ⟨w3.heap.size, 0, none⟩ = some (.slice aW S.length cW) := fun o => (QW_6.out.keep (bAlloc (Below.refl _ _) o)).c0
    have QWd1 : ∀ o : Obj, (w6.alloc o).cell? ⟨w3.heap.size, 1, none⟩ = some (.slice bW D.length eW) := fun o => (QW_6.out.keep (bAlloc (Below.refl _ _) o)).c1
    have QRc0 := QR_6.out.c0
    have QRc1 := QR_6.out.c1
    have QRd0 : ∀ o : Obj, (w6.alloc o).cell? ⟨w4.heap.size, 0, none⟩ = some (.slice aR S2.length cR) := fun o => (QR_6.out.keep (bAlloc (Below.refl _ _) o)).c0
    have QRd1 : ∀ o : Obj, (w6.alloc o).cell? ⟨w4.heap.size, 1, none⟩ = some (.slice bR D2.length eR) := fun o => (QR_6.out.keep (bAlloc (Below.refl _ _) o)).c1
    have QVc0 := QV_6.out.c0
    have QVc1 := QV_6.out.c1
    have QVd0 : ∀ o : Obj, (w6.alloc o).cell? ⟨w5.heap.size, 0, none⟩ = some (.slice aV S3.length cV) := fun o => (QV_6.out.keep (bAlloc (Below.refl _ _) o)).c0
    have QVd1 : ∀ o : Obj, (w6.alloc o).cell? ⟨w5.heap.size, 1, none⟩ = some (.slice bV D3.length eV) := fun o => (QV_6.out.keep (bAlloc (Below.refl _ _) o)).c1
    go_wp2_with fail
    generalize hwz : w6.alloc (.cells #[.slice aX S4.length cX, .slice bX D4.length eX] 26) = wz
    have BZ : Hid (Below w6.heap.size w6 wz) := by rw [← hwz]; exact bAlloc (Below.refl _ _) _
    have ZN : Hid (ArrI wz (.agg #[.slice a1 s.length c1, .slice b1 d.length e1]) s d) := N_6.out.arrI.keep BZ.out
    have ZG : Hid (ArrI wz (.agg #[.slice aG S.length cG, .slice bG D.length eG]) S D) := G_6.out.arrI.keep BZ.out
    have ZR : Hid (ArrI wz (.agg #[.slice aR S2.length cR, .slice bR D2.length eR]) S2 D2) := R_6.out.arrI.keep BZ.out
    have ZX : Hid (ArrI wz (.agg #[.slice aX S4.length cX, .slice bX D4.length eX]) S4 D4) := X_6.out.arrI.keep BZ.out
    have QNz : Hid (Box wz w1.heap.size (.slice a1 s.length c1) (.slice b1 d.length e1) 26) := QN_6.out.keep BZ.out
    have QGz : Hid (Box wz w2.heap.size (.slice aG S.length cG) (.slice bG D.length eG) 26) := QG_6.out.keep BZ.out
    have QRz : Hid (Box wz w4.heap.size (.slice aR S2.length cR) (.slice bR D2.length eR) 26) := QR_6.out.keep BZ.out
    have QXz : Hid (Box wz w6.heap.size (.slice aX S4.length cX) (.slice bX D4.length eX) 26) := by rw [← hwz]; exact box_new w6 _ _ _
    have HTz : Hid (Below w.heap.size w wz) := bTrans HT6.out BZ.out
    clear hwz BZ QNc0 QNc1 QNd0 QNd1 QGc0 QGc1 QGd0 QGd1 QWc0 QWc1 QWd0 QWd1 QRc0 QRc1 QRd0 QRd1 QVc0 QVc1 QVd0 QVd1
    obtain ⟨_, _, _, _, ev, jn, _, _, _⟩ := ZN.out
    cases ev
    obtain ⟨_, _, _, _, ev, _, jg, _, _⟩ := ZG.out
    cases ev
    obtain ⟨_, _, _, _, ev, _, jr, _, _⟩ := ZR.out
    cases ev
    obtain ⟨_, _, _, _, ev, _, jx, _, _⟩ := ZX.out
    cases ev
    have hl2 : D2.length = 1 := by rw [HD2.out]; rfl
    have hl4 : D4.length = 1 := by rw [HD4.out]; rfl
    obtain ⟨pr, orr, rfl, hpr, ur⟩ := jr.at (k := 0) (by omega)
    obtain ⟨px, ox, rfl, hpx, ux⟩ := jx.at (k := 0) (by omega)
    rw [Nat.add_zero] at ur ux
    have er : D2.getD 0 0 = (d.length : Int) := by rw [HD2.out]; rfl
    have ex : D4.getD 0 0 = (d.length : Int) := by rw [HD4.out]; rfl
    rw [er] at ur
    rw [ex] at ux
    have SI : Hid (∀ n, Calls Try.prog 14 #[.slice bG D.length eG, .slice a1 s.length c1] (wz.drewN n) fun e w' => e = .returned (.bool true) ∧ ∃ m, w' = (wz.drewN n).drewN m) := fun n => by
      have bn : Below wz.heap.size wz (wz.drewN n) := bDrewN (Below.refl _ _) n
      refine Calls.mono (same_ints eG c1 (by have := LA.out.2; omega) (jg.keep bn) (jn.keep bn)) ?_
      rintro r w' ⟨rfl, m, hm⟩
      exact ⟨by rw [HDS.out]; simp, m, hm⟩
    have q1 := QNz.out.c0
    have q2 := QNz.out.c1
    have q3 := QGz.out.c1
    have q4 := QRz.out.c1
    have q5 := QXz.out.c1
    rw [hl2] at q4
    rw [hl4] at q5
    have hdd : ((d.length : Int) == (d.length : Int)) = true := by simp
    clear jn jg jr jx er ex
    go_quiet ((go_at_call 14; exact Calls.quiet_of (SI.out _)))
    have HTq : Hid (Below w.heap.size w (wz.drewN nq)) := bDrewN HTz.out nq
    generalize wz.drewN nq = wq at *
    go_wp2
    go_ret
    exact ⟨rfl, HTq.out⟩
  · have n0 : (C != 0) = true := by simpa using hc
    have hl : ((D.length : Int) == 0) = true := by rw [FB.out hc]; rfl
    have hl2 : D.length = 0 := FB.out hc
    clear FG FB
    go_wp2
    go_ret
    exact ⟨rfl, bTrans HT3.out (bAlloc (Below.refl _ _) _)⟩

/-! ### THE ROW's STEP: WRITTEN OUT: LEAVE IT -/
set_option maxRecDepth 100000 in
theorem lifted (os : Os) (started : os.Started) (H : Type) (enc : TypeId × Value → H) :
    ReturnsInHanded {} Try.checked os 5 .any (Rows.fnCountSpec.pre6 enc Try.prog Try.f5 Rows.fnCountRow.domain false) (Rows.fnCountSpec.post enc Try.prog Try.f5 false true false false) := by
  refine returnsInHanded_of_change (C := Try.checked) own started (by kernel_rfl) Try.func5
    (ChangeSpec.witness6 (enc := enc) (C := Try.checked) false ⟨#[], #[.slice none 0 0], []⟩ 8 (by kernel_rfl) (by kernel_rfl) (by kernel_rfl) (by kernel_rfl)) ?_
  intro W base args ds gs before hval0 hW hcnd _
  have hval : ∀ (j : Nat) t v, Try.f5.params[j]? = some t → args[j]? = some v → Value.okWide Try.prog W .any base t v := hval0
  have hW' := hW
  obtain ⟨p, q, hA0, hV, rfl, hfz, hnd⟩ := hW
  have hA : DataW.TrodAll enc Try.prog W 0 (fun _ => true) true Try.f5.params.toList args.toList ds p := hA0
  rw [Try.params5] at hA hval
  obtain ⟨v0, vs0, d0, ds0, p0, q0, hargs, rfl, rfl, h0, r0⟩ := trodAll_cons hA
  obtain ⟨rfl, rfl, rfl⟩ := trodAll_nil r0
  obtain rfl : args = #[v0] := by cases args; simp_all
  obtain ⟨rfl, rfl⟩ := trodVars_none hV
  obtain ⟨a0, len0, cap0, rfl⟩ := okWide_slice Try.underlying22 (hval 0 22 v0 rfl rfl)
  have k0 := h0
  have lt0 : ∀ x ∈ p0, x.block < W.heap.size := by obtain ⟨m, hm⟩ := k0; exact DataW.trod_lt m _ _ _ hm
  obtain ⟨z0, w0⟩ : ∃ zs, IsRow .u8 W a0 len0 cap0 zs := by
    obtain ⟨fuel, hf⟩ := h0
    rcases open_ints Try.underlying22 Try.underlying5 (by kernel_rfl) hf with ⟨hcs, _⟩ | ⟨x, l, c, zs, hcs, _, hl, hm, hz, _, hcell, hwz⟩
    · simp [Value.cells] at hcs
      obtain ⟨rfl, rfl, rfl⟩ := hcs
      exact ⟨[], .inl ⟨rfl, rfl, rfl, rfl⟩⟩
    · simp [Value.cells] at hcs
      obtain ⟨rfl, rfl, rfl⟩ := hcs
      exact ⟨zs, .inr ⟨_, rfl, hl, hm, by simpa using hz, hcell, hwz⟩⟩
  clear hA0 hval0
  refine (walk a0 len0 cap0 z0 W w0).mono fun e W' ⟨he, bel⟩ => ?_
  subst he
  exact ⟨_, rfl, _, _, _, [], _, [], hW', trodAll_mk1 (shut_bool Try.underlying4 _), (trodAll_cons_mk (Below.trod laidOut (by kernel_rfl) (of_decide_eq_true (by kernel_rfl)) k0 bel lt0) trodAll_mk0), rfl, bel.frame _, fun h => by cases h⟩

theorem over : Rows.fnCountRow.holds Try.pinned (OpenSpec.ofChange Rows.fnCountSpec) :=
  OpenClaim.holds_of_wide 5 Try.f5 rfl rfl rfl rfl rfl rfl rfl ⟨rfl, rfl, rfl, rfl, rfl⟩ rfl rfl rfl rfl rfl (by kernel_rfl) Try.func5 (by kernel_rfl)
    (of_decide_eq_true (by kernel_rfl)) (by unfold Func.isWrapper; first | (rw [if_pos (by decide +kernel)]; kernel_rfl) | (rw [if_neg (by decide +kernel)]; exact ⟨rfl, rfl⟩))
    (fun os started H enc _ => lifted os started H enc)

/-- ████ THE STATEMENT ████ -/
theorem proved : Rows.FnCountSaid := over
end Go.Proofs.Ytcpgdhffemecbaa.fnCount
namespace Go.Proofs.Ytcpgdhffemecbaa
theorem fnCount_holds : Rows.FnCountSaid := fnCount.proved
#print axioms fnCount_holds
end Go.Proofs.Ytcpgdhffemecbaa
