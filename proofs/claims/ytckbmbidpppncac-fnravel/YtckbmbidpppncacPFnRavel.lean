/-
  Proved: whatever code it is given, the law FnRavel returns true (a drawn array that is ravelled by the program has all its numbers in a row, and has its shape again by it). No condition.
-/
import Derived.Test.YtckbmbidpppncacRows
import Derived.WalkKit
import Derived.ProofKit
import Derived.OpenShut
import Derived.ShutString
import Derived.ChangeOld
import Derived.Below
import Derived.Test.YtckbmbidpppncacEachF
import Derived.Test.YtckbmbidpppncacLaw3
import Derived.Test.YtckbmbidpppncacRavelF
import Derived.Test.YtckbmbidpppncacImplMake2
import Derived.Test.YtckbmbidpppncacImplMake4
import Derived.Test.YtckbmbidpppncacSpecMake1
import Derived.Test.YtckbmbidpppncacDrawRavel
namespace Go.Proofs.Ytckbmbidpppncac.fnRavel
open Go.ChangeShapes Go.WideShapes Go.ChangeAt Go.RowKit
open Go.ChangeMaps (open_string shut_string)
set_option linter.unusedVariables false
set_option linter.unusedSimpArgs false
set_option linter.unusedVariables false

theorem own : ownKnob Try.prog.godebug = none := by kernel_rfl
theorem laidOut : laidOutB Try.prog = true := by kernel_rfl

/-! ### STEP 1: THE WALK: the Go text returns true, AND WRITES NOTHING THAT WAS THERE: 'Below w.heap.size w w'' (Derived/Below.lean: '.refl', '.alloc', '.drew', '.setCell' at a new block, '.trans'). Open each 'IsRow' by 'rcases' AHEAD of 'go_enter'; part every test ahead of the walk. -/
set_option maxRecDepth 20000 in
set_option maxHeartbeats 8000000 in
theorem walk (a0 : Option Addr) (len0 cap0 : Nat) (z0 : List Int) (w : World) (w0 : IsRow .u8 w a0 len0 cap0 z0) :
    Calls Try.prog 6 #[.slice a0 len0 cap0] w fun e w' => e = .returned (.bool true) ∧ Below w.heap.size w w' := by
  have HS : Hid (Src w.heap.size w a0 len0) := src_of_row w0
  clear w0
  by_cases hbig : (1048576 : Int) < (len0 : Int)
  · go_enter Try.func6, Try.ntmps6
    go_wp2_with (go_at_call 8; refine (big_laws _ _ _ _).mono ?_; rintro e w' ⟨rfl, hw⟩; subst w')
    go_ret
    exact ⟨rfl, Below.refl _ _⟩
  have hb20 : len0 ≤ 1048576 := by omega
  go_enter Try.func6, Try.ntmps6
  go_wp2_with (go_at_call 8; refine (big_laws _ _ _ _).mono ?_; rintro e w' ⟨rfl, hw⟩; subst w')
  refine (drawRavel_spec HS.out hb20).mono ?_
  rintro r w1 ⟨v1, s, d, rfl, ha, hls, hld, hb⟩
  obtain ⟨a1, c1, b1, e1, rfl, _, _, _, _⟩ := ha.arrI
  have N_1 : Hid (Arr w.heap.size w1.heap.size w1 (.agg #[.slice a1 s.length c1, .slice b1 d.length e1]) s d) := ha
  have Ls : Hid (s.length ≤ 1048576) := by show _ ≤ _; omega
  have Ld : Hid (d.length ≤ 1048576) := by show _ ≤ _; omega
  have HT1 : Hid (Below w.heap.size w w1) := hb
  have SZ1 : Hid (w.heap.size ≤ w1.heap.size) := hb.size
  clear hb ha hls hld
  obtain ⟨C, hC⟩ : ∃ y, y = (ravelR s d).1 := ⟨_, rfl⟩
  obtain ⟨S, hS⟩ : ∃ y, y = (ravelR s d).2.1 := ⟨_, rfl⟩
  obtain ⟨D, hD⟩ : ∃ y, y = (ravelR s d).2.2 := ⟨_, rfl⟩
  obtain ⟨C2, hC2⟩ : ∃ y, y = (shapeOfR s d).1 := ⟨_, rfl⟩
  obtain ⟨S2, hS2⟩ : ∃ y, y = (shapeOfR s d).2.1 := ⟨_, rfl⟩
  obtain ⟨D2, hD2⟩ : ∃ y, y = (shapeOfR s d).2.2 := ⟨_, rfl⟩
  obtain ⟨C3, hC3⟩ : ∃ y, y = (reshapeR S2 D2 S D).1 := ⟨_, rfl⟩
  obtain ⟨S3, hS3⟩ : ∃ y, y = (reshapeR S2 D2 S D).2.1 := ⟨_, rfl⟩
  obtain ⟨D3, hD3⟩ : ∃ y, y = (reshapeR S2 D2 S D).2.2 := ⟨_, rfl⟩
  have LA : Hid (S.length ≤ 1048576 ∧ D.length ≤ 1048576) := by show _ ∧ _; rw [hS, hD]; exact mkR_len (fun _ => by simp) (fun _ => Ld.out)
  have LB : Hid (S2.length ≤ 1048576 ∧ D2.length ≤ 1048576) := by show _ ∧ _; rw [hS2, hD2]; exact mkR_len (fun _ => by simp) (fun _ => Ls.out)
  have EI : Hid (∀ (W : World) (u : Value), ArrI W u s d → Calls Try.prog 27 #[u] W fun e w' => ∃ v, e = .returned (.tuple #[v, .int .i64 C]) ∧ Arr W.heap.size w'.heap.size w' v S D ∧ Below W.heap.size W w') := by
    intro W u h
    rw [hC, hS, hD]
    exact ravel_impl h Ls.out Ld.out
  have ES : Hid (∀ (W : World) (u : Value), ArrI W u s d → Calls Try.prog 28 #[u] W fun e w' => ∃ v, e = .returned (.tuple #[v, .int .i64 C]) ∧ Arr W.heap.size w'.heap.size w' v S D ∧ Below W.heap.size W w') := by
    intro W u h
    rw [hC, hS, hD]
    exact ravel_spec h Ls.out Ld.out
  have E2 : Hid (∀ (W : World) (u : Value), ArrI W u s d → Calls Try.prog 25 #[u] W fun e w' => ∃ v, e = .returned (.tuple #[v, .int .i64 C2]) ∧ Arr W.heap.size w'.heap.size w' v S2 D2 ∧ Below W.heap.size W w') := by
    intro W u h
    rw [hC2, hS2, hD2]
    exact shapeOf_impl h Ls.out Ld.out
  have E3 : Hid (∀ (W : World) (u v : Value), ArrI W u S2 D2 → ArrI W v S D → Calls Try.prog 23 #[u, v] W fun e w' => ∃ v, e = .returned (.tuple #[v, .int .i64 C3]) ∧ Arr W.heap.size w'.heap.size w' v S3 D3 ∧ Below W.heap.size W w') := by
    intro W u v h k
    rw [hC3, hS3, hD3]
    exact reshape_impl h k LB.out.1 LB.out.2 LA.out.1 LA.out.2
  have FG : Hid (C = 0 → C2 = 0 ∧ C3 = 0 ∧ S3 = s ∧ D3 = d ∧ S.length = 1) := by
    intro h
    have ho : arrOk s d = true := by
      rw [hC] at h
      unfold ravelR okC at h
      by_cases q : arrOk s d = true
      · exact q
      · rw [if_neg q, mkR_code] at h; cases h
    have e1 : ravelR s d = (0, [(d.length : Int)], d) := by unfold ravelR okC; rw [if_pos ho]; rfl
    have e2 : shapeOfR s d = (0, [(s.length : Int)], s) := by unfold shapeOfR okC; rw [if_pos ho]; rfl
    rw [e1] at hS hD
    rw [e2] at hC2 hS2 hD2
    rw [hS2, hD2, hS, hD] at hC3 hS3 hD3
    rw [ravel_back ho] at hC3 hS3 hD3
    exact ⟨hC2, hC3, hS3, hD3, by rw [hS]; rfl⟩
  have FB : Hid (C ≠ 0 → C = 1 ∧ D.length = 0) := by
    intro h
    rw [hC] at h ⊢
    rw [hD]
    unfold ravelR okC at *
    by_cases q : arrOk s d = true
    · rw [if_pos q, mkR_code] at h; exact absurd rfl h
    · rw [if_neg q]; exact ⟨rfl, rfl⟩
  have SA : Hid (∀ (W : World) (u v : Value), ArrI W u s d → ArrI W v S3 D3 → Calls Try.prog 20 #[u, v] W fun e w' => e = .returned (.bool (decide (s = S3) && decide (d = D3))) ∧ Below W.heap.size W w') := fun W u v h k => same_arr h k Ls.out Ld.out
  have hneC : (C != C) = false := by simp
  clear hC hS hD hC2 hS2 hD2 hC3 hS3 hD3
  go_wp2_with fail
  refine (EI.out _ _ ((N_1.out.arrI).keep (bAlloc (Below.refl _ _) _))).mono ?_
  rintro r w2 ⟨vG, rfl, ha, hb⟩
  obtain ⟨aG, cG, bG, eG, rfl, _, _, _, _⟩ := ha.arrI
  have G_2 : Hid (Arr (w1.heap.size + 1) w2.heap.size w2 (.agg #[.slice aG S.length cG, .slice bG D.length eG]) S D) := ha.mono (by first | exact Nat.le_refl _ | simp | (simp; omega)) (Nat.le_refl _)
  clear ha
  have HB2 : Hid (Below w1.heap.size w1 w2) := bTrans (bAlloc (Below.refl _ _) _) hb
  have HT2 : Hid (Below w.heap.size w w2) := bTrans HT1.out HB2.out
  have SZ2 : Hid (w1.heap.size ≤ w2.heap.size) := HB2.out.size
  have N_2 : Hid (Arr w.heap.size w1.heap.size w2 (.agg #[.slice a1 s.length c1, .slice b1 d.length e1]) s d) := N_1.out.keep HB2.out
  have QN_2 : Hid (Box w2 w1.heap.size (.slice a1 s.length c1) (.slice b1 d.length e1) 26) := (box_new w1 _ _ _).keep hb
  have LTQN : Hid (w1.heap.size < w2.heap.size) := QN_2.out.lt
  clear N_1 hb
  have QNc0 := QN_2.out.c0
  have QNc1 := QN_2.out.c1
  have QNd0 : ∀ o : Obj, (w2.alloc o).cell? ⟨w1.heap.size, 0, none⟩ = some (.slice a1 s.length c1) := fun o => (QN_2.out.keep (bAlloc (Below.refl _ _) o)).c0
  have QNd1 : ∀ o : Obj, (w2.alloc o).cell? ⟨w1.heap.size, 1, none⟩ = some (.slice b1 d.length e1) := fun o => (QN_2.out.keep (bAlloc (Below.refl _ _) o)).c1
  go_wp2_with fail
  refine (ES.out _ _ ((N_2.out.arrI).keep (bAlloc (Below.refl _ _) _))).mono ?_
  rintro r w3 ⟨vW, rfl, ha, hb⟩
  obtain ⟨aW, cW, bW, eW, rfl, _, _, _, _⟩ := ha.arrI
  have W_3 : Hid (Arr (w2.heap.size + 1) w3.heap.size w3 (.agg #[.slice aW S.length cW, .slice bW D.length eW]) S D) := ha.mono (by first | exact Nat.le_refl _ | simp | (simp; omega)) (Nat.le_refl _)
  clear ha
  have HB3 : Hid (Below w2.heap.size w2 w3) := bTrans (bAlloc (Below.refl _ _) _) hb
  have HT3 : Hid (Below w.heap.size w w3) := bTrans HT2.out HB3.out
  have SZ3 : Hid (w2.heap.size ≤ w3.heap.size) := HB3.out.size
  have QN_3 : Hid (Box w3 w1.heap.size (.slice a1 s.length c1) (.slice b1 d.length e1) 26) := QN_2.out.keep HB3.out
  have N_3 : Hid (Arr w.heap.size w1.heap.size w3 (.agg #[.slice a1 s.length c1, .slice b1 d.length e1]) s d) := N_2.out.keep HB3.out
  have G_3 : Hid (Arr (w1.heap.size + 1) w2.heap.size w3 (.agg #[.slice aG S.length cG, .slice bG D.length eG]) S D) := G_2.out.keep HB3.out
  have QG_3 : Hid (Box w3 w2.heap.size (.slice aG S.length cG) (.slice bG D.length eG) 26) := (box_new w2 _ _ _).keep hb
  have LTQG : Hid (w2.heap.size < w3.heap.size) := QG_3.out.lt
  clear QN_2 N_2 G_2 QNc0 QNc1 QNd0 QNd1 hb
  have QNc0 := QN_3.out.c0
  have QNc1 := QN_3.out.c1
  have QNd0 : ∀ o : Obj, (w3.alloc o).cell? ⟨w1.heap.size, 0, none⟩ = some (.slice a1 s.length c1) := fun o => (QN_3.out.keep (bAlloc (Below.refl _ _) o)).c0
  have QNd1 : ∀ o : Obj, (w3.alloc o).cell? ⟨w1.heap.size, 1, none⟩ = some (.slice b1 d.length e1) := fun o => (QN_3.out.keep (bAlloc (Below.refl _ _) o)).c1
  have QGc0 := QG_3.out.c0
  have QGc1 := QG_3.out.c1
  have QGd0 : ∀ o : Obj, (w3.alloc o).cell? ⟨w2.heap.size, 0, none⟩ = some (.slice aG S.length cG) := fun o => (QG_3.out.keep (bAlloc (Below.refl _ _) o)).c0
  have QGd1 : ∀ o : Obj, (w3.alloc o).cell? ⟨w2.heap.size, 1, none⟩ = some (.slice bG D.length eG) := fun o => (QG_3.out.keep (bAlloc (Below.refl _ _) o)).c1
  by_cases hc : C = 0
  · obtain ⟨rfl, rfl, hs3, hd3, hsl⟩ := FG.out hc
    subst hc
    have SA' : Hid (∀ (W : World) (u v : Value), ArrI W u s d → ArrI W v S3 D3 → Calls Try.prog 20 #[u, v] W fun e w' => e = .returned (.bool true) ∧ Below W.heap.size W w') := by
      intro W u v h k
      have q := SA.out W u v h k
      rw [hs3, hd3] at q
      simpa [hs3, hd3] using q
    have hl1 : ((S.length : Int) == 1) = true := by rw [hsl]; rfl
    clear hs3 hd3 hsl FG FB SA
    go_wp2_with fail
    refine (E2.out _ _ ((N_3.out.arrI).keep (bAlloc (Below.refl _ _) _))).mono ?_
    rintro r w4 ⟨vX, rfl, ha, hb⟩
    obtain ⟨aX, cX, bX, eX, rfl, _, _, _, _⟩ := ha.arrI
    have X_4 : Hid (Arr (w3.heap.size + 1) w4.heap.size w4 (.agg #[.slice aX S2.length cX, .slice bX D2.length eX]) S2 D2) := ha.mono (by first | exact Nat.le_refl _ | simp | (simp; omega)) (Nat.le_refl _)
    clear ha
    have HB4 : Hid (Below w3.heap.size w3 w4) := bTrans (bAlloc (Below.refl _ _) _) hb
    have HT4 : Hid (Below w.heap.size w w4) := bTrans HT3.out HB4.out
    have SZ4 : Hid (w3.heap.size ≤ w4.heap.size) := HB4.out.size
    have QN_4 : Hid (Box w4 w1.heap.size (.slice a1 s.length c1) (.slice b1 d.length e1) 26) := QN_3.out.keep HB4.out
    have QG_4 : Hid (Box w4 w2.heap.size (.slice aG S.length cG) (.slice bG D.length eG) 26) := QG_3.out.keep HB4.out
    have N_4 : Hid (Arr w.heap.size w1.heap.size w4 (.agg #[.slice a1 s.length c1, .slice b1 d.length e1]) s d) := N_3.out.keep HB4.out
    have G_4 : Hid (Arr (w1.heap.size + 1) w2.heap.size w4 (.agg #[.slice aG S.length cG, .slice bG D.length eG]) S D) := G_3.out.keep HB4.out
    have QW_4 : Hid (Box w4 w3.heap.size (.slice aW S.length cW) (.slice bW D.length eW) 26) := (box_new w3 _ _ _).keep hb
    have LTQW : Hid (w3.heap.size < w4.heap.size) := QW_4.out.lt
    clear QN_3 QG_3 N_3 G_3 QNc0 QNc1 QNd0 QNd1 QGc0 QGc1 QGd0 QGd1 hb
    have QNc0 := QN_4.out.c0
    have QNc1 := QN_4.out.c1
    have QNd0 : ∀ o : Obj, (w4.alloc o).cell? ⟨w1.heap.size, 0, none⟩ = some (.slice a1 s.length c1) := fun o => (QN_4.out.keep (bAlloc (Below.refl _ _) o)).c0
    have QNd1 : ∀ o : Obj, (w4.alloc o).cell? ⟨w1.heap.size, 1, none⟩ = some (.slice b1 d.length e1) := fun o => (QN_4.out.keep (bAlloc (Below.refl _ _) o)).c1
    have QGc0 := QG_4.out.c0
    have QGc1 := QG_4.out.c1
    have QGd0 : ∀ o : Obj, (w4.alloc o).cell? ⟨w2.heap.size, 0, none⟩ = some (.slice aG S.length cG) := fun o => (QG_4.out.keep (bAlloc (Below.refl _ _) o)).c0
    have QGd1 : ∀ o : Obj, (w4.alloc o).cell? ⟨w2.heap.size, 1, none⟩ = some (.slice bG D.length eG) := fun o => (QG_4.out.keep (bAlloc (Below.refl _ _) o)).c1
    have QWc0 := QW_4.out.c0
    have QWc1 := QW_4.out.c1
    have QWd0 : ∀ o : Obj, (w4.alloc o).cell? ⟨w3.heap.size, 0, none⟩ = some (.slice aW S.length cW) := fun o => (QW_4.out.keep (bAlloc (Below.refl _ _) o)).c0
    have QWd1 : ∀ o : Obj, (w4.alloc o).cell? ⟨w3.heap.size, 1, none⟩ = some (.slice bW D.length eW) := fun o => (QW_4.out.keep (bAlloc (Below.refl _ _) o)).c1
    go_wp2_with fail
    refine (E3.out _ _ _ ((X_4.out.arrI).keep (bAlloc (Below.refl _ _) _)) ((G_4.out.arrI).keep (bAlloc (Below.refl _ _) _))).mono ?_
    rintro r w5 ⟨vY, rfl, ha, hb⟩
    obtain ⟨aY, cY, bY, eY, rfl, _, _, _, _⟩ := ha.arrI
    have Y_5 : Hid (Arr (w4.heap.size + 1) w5.heap.size w5 (.agg #[.slice aY S3.length cY, .slice bY D3.length eY]) S3 D3) := ha.mono (by first | exact Nat.le_refl _ | simp | (simp; omega)) (Nat.le_refl _)
    clear ha
    have HB5 : Hid (Below w4.heap.size w4 w5) := bTrans (bAlloc (Below.refl _ _) _) hb
    have HT5 : Hid (Below w.heap.size w w5) := bTrans HT4.out HB5.out
    have SZ5 : Hid (w4.heap.size ≤ w5.heap.size) := HB5.out.size
    have QN_5 : Hid (Box w5 w1.heap.size (.slice a1 s.length c1) (.slice b1 d.length e1) 26) := QN_4.out.keep HB5.out
    have QG_5 : Hid (Box w5 w2.heap.size (.slice aG S.length cG) (.slice bG D.length eG) 26) := QG_4.out.keep HB5.out
    have QW_5 : Hid (Box w5 w3.heap.size (.slice aW S.length cW) (.slice bW D.length eW) 26) := QW_4.out.keep HB5.out
    have N_5 : Hid (Arr w.heap.size w1.heap.size w5 (.agg #[.slice a1 s.length c1, .slice b1 d.length e1]) s d) := N_4.out.keep HB5.out
    have G_5 : Hid (Arr (w1.heap.size + 1) w2.heap.size w5 (.agg #[.slice aG S.length cG, .slice bG D.length eG]) S D) := G_4.out.keep HB5.out
    have X_5 : Hid (Arr (w3.heap.size + 1) w4.heap.size w5 (.agg #[.slice aX S2.length cX, .slice bX D2.length eX]) S2 D2) := X_4.out.keep HB5.out
    have QX_5 : Hid (Box w5 w4.heap.size (.slice aX S2.length cX) (.slice bX D2.length eX) 26) := (box_new w4 _ _ _).keep hb
    have LTQX : Hid (w4.heap.size < w5.heap.size) := QX_5.out.lt
    clear QN_4 QG_4 QW_4 N_4 G_4 X_4 QNc0 QNc1 QNd0 QNd1 QGc0 QGc1 QGd0 QGd1 QWc0 QWc1 QWd0 QWd1 hb
    have QNc0 := QN_5.out.c0
    have QNc1 := QN_5.out.c1
    have QNd0 : ∀ o : Obj, (w5.alloc o).cell? ⟨w1.heap.size, 0, none⟩ = some (.slice a1 s.length c1) := fun o => (QN_5.out.keep (bAlloc (Below.refl _ _) o)).c0
    have QNd1 : ∀ o : Obj, (w5.alloc o).cell? ⟨w1.heap.size, 1, none⟩ = some (.slice b1 d.length e1) := fun o => (QN_5.out.keep (bAlloc (Below.refl _ _) o)).c1
    have QGc0 := QG_5.out.c0
    have QGc1 := QG_5.out.c1
    have QGd0 : ∀ o : Obj, (w5.alloc o).cell? ⟨w2.heap.size, 0, none⟩ = some (.slice aG S.length cG) := fun o => (QG_5.out.keep (bAlloc (Below.refl _ _) o)).c0
    have QGd1 : ∀ o : Obj, (w5.alloc o).cell? ⟨w2.heap.size, 1, none⟩ = some (.slice bG D.length eG) := fun o => (QG_5.out.keep (bAlloc (Below.refl _ _) o)).c1
    have QWc0 := QW_5.out.c0
    have QWc1 := QW_5.out.c1
    have QWd0 : ∀ o : Obj, (w5.alloc o).cell? ⟨w3.heap.size, 0, none⟩ = some (.slice aW S.length cW) := fun o => (QW_5.out.keep (bAlloc (Below.refl _ _) o)).c0
    have QWd1 : ∀ o : Obj, (w5.alloc o).cell? ⟨w3.heap.size, 1, none⟩ = some (.slice bW D.length eW) := fun o => (QW_5.out.keep (bAlloc (Below.refl _ _) o)).c1
    have QXc0 := QX_5.out.c0
    have QXc1 := QX_5.out.c1
    have QXd0 : ∀ o : Obj, (w5.alloc o).cell? ⟨w4.heap.size, 0, none⟩ = some (.slice aX S2.length cX) := fun o => (QX_5.out.keep (bAlloc (Below.refl _ _) o)).c0
    have QXd1 : ∀ o : Obj, (w5.alloc o).cell? ⟨w4.heap.size, 1, none⟩ = some (.slice bX D2.length eX) := fun o => (QX_5.out.keep (bAlloc (Below.refl _ _) o)).c1
    go_wp2_with fail
    refine (SA'.out _ _ _ ((N_5.out.arrI).keep (bAlloc (Below.refl _ _) _)) ((Y_5.out.arrI).keep (bAlloc (Below.refl _ _) _))).mono ?_
    rintro r w6 ⟨rfl, hb⟩
    have HB6 : Hid (Below w5.heap.size w5 w6) := bTrans (bAlloc (Below.refl _ _) _) hb
    have HT6 : Hid (Below w.heap.size w w6) := bTrans HT5.out HB6.out
    have SZ6 : Hid (w5.heap.size ≤ w6.heap.size) := HB6.out.size
    have QN_6 : Hid (Box w6 w1.heap.size (.slice a1 s.length c1) (.slice b1 d.length e1) 26) := QN_5.out.keep HB6.out
    have QG_6 : Hid (Box w6 w2.heap.size (.slice aG S.length cG) (.slice bG D.length eG) 26) := QG_5.out.keep HB6.out
    have QW_6 : Hid (Box w6 w3.heap.size (.slice aW S.length cW) (.slice bW D.length eW) 26) := QW_5.out.keep HB6.out
    have QX_6 : Hid (Box w6 w4.heap.size (.slice aX S2.length cX) (.slice bX D2.length eX) 26) := QX_5.out.keep HB6.out
    have N_6 : Hid (Arr w.heap.size w1.heap.size w6 (.agg #[.slice a1 s.length c1, .slice b1 d.length e1]) s d) := N_5.out.keep HB6.out
    have G_6 : Hid (Arr (w1.heap.size + 1) w2.heap.size w6 (.agg #[.slice aG S.length cG, .slice bG D.length eG]) S D) := G_5.out.keep HB6.out
    have Y_6 : Hid (Arr (w4.heap.size + 1) w5.heap.size w6 (.agg #[.slice aY S3.length cY, .slice bY D3.length eY]) S3 D3) := Y_5.out.keep HB6.out
    have QY_6 : Hid (Box w6 w5.heap.size (.slice aY S3.length cY) (.slice bY D3.length eY) 26) := (box_new w5 _ _ _).keep hb
    have LTQY : Hid (w5.heap.size < w6.heap.size) := QY_6.out.lt
    clear QN_5 QG_5 QW_5 QX_5 N_5 G_5 Y_5 QNc0 QNc1 QNd0 QNd1 QGc0 QGc1 QGd0 QGd1 QWc0 QWc1 QWd0 QWd1 QXc0 QXc1 QXd0 QXd1 hb
    have QNc0 := QN_6.out.c0
    have QNc1 := QN_6.out.c1
    have QGc0 := QG_6.out.c0
    have QGc1 := QG_6.out.c1
    have QWc0 := QW_6.out.c0
    have QWc1 := QW_6.out.c1
    have QXc0 := QX_6.out.c0
    have QXc1 := QX_6.out.c1
    have QYc0 := QY_6.out.c0
    have QYc1 := QY_6.out.c1
    go_wp2
    go_ret
    exact ⟨rfl, HT6.out⟩
  · have n0 : (C != 0) = true := by simpa using hc
    have hl : ((D.length : Int) == 0) = true := by rw [(FB.out hc).2]; rfl
    have hl2 : D.length = 0 := (FB.out hc).2
    obtain rfl : C = 1 := (FB.out hc).1
    clear FG FB SA
    go_wp2
    go_ret
    exact ⟨rfl, bTrans HT3.out (bAlloc (Below.refl _ _) _)⟩

/-! ### THE ROW's STEP: WRITTEN OUT: LEAVE IT -/
set_option maxRecDepth 100000 in
theorem lifted (os : Os) (started : os.Started) (H : Type) (enc : TypeId × Value → H) :
    ReturnsInHanded {} Try.checked os 6 .any (Rows.fnRavelSpec.pre6 enc Try.prog Try.f6 Rows.fnRavelRow.domain false) (Rows.fnRavelSpec.post enc Try.prog Try.f6 false true false false) := by
  refine returnsInHanded_of_change (C := Try.checked) own started (by kernel_rfl) Try.func6
    (ChangeSpec.witness6 (enc := enc) (C := Try.checked) false ⟨#[], #[.slice none 0 0], []⟩ 8 (by kernel_rfl) (by kernel_rfl) (by kernel_rfl) (by kernel_rfl)) ?_
  intro W base args ds gs before hval0 hW hcnd _
  have hval : ∀ (j : Nat) t v, Try.f6.params[j]? = some t → args[j]? = some v → Value.okWide Try.prog W .any base t v := hval0
  have hW' := hW
  obtain ⟨p, q, hA0, hV, rfl, hfz, hnd⟩ := hW
  have hA : DataW.TrodAll enc Try.prog W 0 (fun _ => true) true Try.f6.params.toList args.toList ds p := hA0
  rw [Try.params6] at hA hval
  obtain ⟨v0, vs0, d0, ds0, p0, q0, hargs, rfl, rfl, h0, r0⟩ := trodAll_cons hA
  obtain ⟨rfl, rfl, rfl⟩ := trodAll_nil r0
  obtain rfl : args = #[v0] := by cases args; simp_all
  obtain ⟨rfl, rfl⟩ := trodVars_none hV
  obtain ⟨a0, len0, cap0, rfl⟩ := okWide_slice Try.underlying22 (hval 0 22 v0 rfl rfl)
  have k0 := h0
  have lt0 : ∀ x ∈ p0, x.block < W.heap.size := by obtain ⟨m, hm⟩ := k0; exact DataW.trod_lt m _ _ _ hm
  obtain ⟨z0, w0⟩ : ∃ zs, IsRow .u8 W a0 len0 cap0 zs := by
    obtain ⟨fuel, hf⟩ := h0
    rcases open_ints Try.underlying22 Try.underlying5 (by kernel_rfl) hf with ⟨hcs, _⟩ | ⟨x, l, c, zs, hcs, _, hl, hm, hz, _, hcell, hwz⟩
    · simp [Value.cells] at hcs
      obtain ⟨rfl, rfl, rfl⟩ := hcs
      exact ⟨[], .inl ⟨rfl, rfl, rfl, rfl⟩⟩
    · simp [Value.cells] at hcs
      obtain ⟨rfl, rfl, rfl⟩ := hcs
      exact ⟨zs, .inr ⟨_, rfl, hl, hm, by simpa using hz, hcell, hwz⟩⟩
  clear hA0 hval0
  refine (walk a0 len0 cap0 z0 W w0).mono fun e W' ⟨he, bel⟩ => ?_
  subst he
  exact ⟨_, rfl, _, _, _, [], _, [], hW', trodAll_mk1 (shut_bool Try.underlying4 _), (trodAll_cons_mk (Below.trod laidOut (by kernel_rfl) (of_decide_eq_true (by kernel_rfl)) k0 bel lt0) trodAll_mk0), rfl, bel.frame _, fun h => by cases h⟩

theorem over : Rows.fnRavelRow.holds Try.pinned (OpenSpec.ofChange Rows.fnRavelSpec) :=
  OpenClaim.holds_of_wide 6 Try.f6 rfl rfl rfl rfl rfl rfl rfl ⟨rfl, rfl, rfl, rfl, rfl⟩ rfl rfl rfl rfl rfl (by kernel_rfl) Try.func6 (by kernel_rfl)
    (of_decide_eq_true (by kernel_rfl)) (by unfold Func.isWrapper; first | (rw [if_pos (by decide +kernel)]; kernel_rfl) | (rw [if_neg (by decide +kernel)]; exact ⟨rfl, rfl⟩))
    (fun os started H enc _ => lifted os started H enc)

/-- ████ THE STATEMENT ████ -/
theorem proved : Rows.FnRavelSaid := over
end Go.Proofs.Ytckbmbidpppncac.fnRavel
namespace Go.Proofs.Ytckbmbidpppncac
theorem fnRavel_holds : Rows.FnRavelSaid := fnRavel.proved
#print axioms fnRavel_holds
end Go.Proofs.Ytckbmbidpppncac
