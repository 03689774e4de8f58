/-
  Proved: whatever code it is given, the law FnTurned returns true (a drawn array that the program turns, or flips, twice is as it was; rotated by a number and by what is left of it, too). No condition.
-/
import Derived.Test.YtlbmbjgbihljhadRows
import Derived.WalkKit
import Derived.ProofKit
import Derived.OpenShut
import Derived.ShutString
import Derived.ChangeOld
import Derived.Below
import Derived.Test.YtlbmbjgbihljhadTurnF
import Derived.Test.YtlbmbjgbihljhadAtLaw
import Derived.Test.YtlbmbjgbihljhadDrawFill
import Derived.Test.YtlbmbjgbihljhadSpecMake5
import Derived.Test.YtlbmbjgbihljhadImplMake5
import Derived.Test.YtlbmbjgbihljhadImplMake8
import Derived.Test.YtlbmbjgbihljhadImplFlip
import Derived.Test.YtlbmbjgbihljhadSpecEach1
import Derived.Test.YtlbmbjgbihljhadImplArr3
import Derived.Test.YtlbmbjgbihljhadLaw3
namespace Go.Proofs.Ytlbmbjgbihljhad.fnTurned
open Go.ChangeShapes Go.WideShapes Go.ChangeAt Go.RowKit
open Go.ChangeMaps (open_string shut_string)
set_option linter.unusedVariables false
set_option linter.unusedSimpArgs false
set_option linter.unusedVariables false

theorem own : ownKnob Try.prog.godebug = none := by kernel_rfl
theorem laidOut : laidOutB Try.prog = true := by kernel_rfl

/-! ### STEP 1: THE WALK: the Go text returns true, AND WRITES NOTHING THAT WAS THERE: 'Below w.heap.size w w'' (Derived/Below.lean: '.refl', '.alloc', '.drew', '.setCell' at a new block, '.trans'). Open each 'IsRow' by 'rcases' AHEAD of 'go_enter'; part every test ahead of the walk. -/
set_option maxRecDepth 20000 in
set_option maxHeartbeats 8000000 in
theorem walk (a0 : Option Addr) (len0 cap0 : Nat) (z0 : List Int) (w : World) (w0 : IsRow .u8 w a0 len0 cap0 z0) :
    Calls Try.prog 4 #[.slice a0 len0 cap0] w fun e w' => e = .returned (.bool true) ∧ Below w.heap.size w w' := by
  have HS : Hid (Src w.heap.size w a0 len0) := src_of_row w0
  clear w0
  by_cases hbig : (1048576 : Int) < (len0 : Int)
  · go_enter Try.func4, Try.ntmps4
    go_wp2_with (go_at_call 9; refine (big_laws _ _ _ _).mono ?_; rintro e w' ⟨rfl, hw⟩; subst w')
    go_ret
    exact ⟨rfl, Below.refl _ _⟩
  have hb20 : len0 ≤ 1048576 := by omega
  go_enter Try.func4, Try.ntmps4
  go_wp2_with (go_at_call 9; refine (big_laws _ _ _ _).mono ?_; rintro e w' ⟨rfl, hw⟩; subst w')
  refine (drawTurn_spec HS.out hb20).mono ?_
  rintro r w1 ⟨v1, s, d, rfl, ha, hls, hld, hb⟩
  obtain ⟨a1, c1, b1, e1, rfl, _, _, _, _⟩ := ha.arrI
  have N_1 : Hid (Arr w.heap.size w1.heap.size w1 (.agg #[.slice a1 s.length c1, .slice b1 d.length e1]) s d) := ha
  have Ls : Hid (s.length ≤ 1048576) := by show _ ≤ _; omega
  have Ld : Hid (d.length ≤ 1048576) := by show _ ≤ _; omega
  have HT1 : Hid (Below w.heap.size w w1) := hb
  have SZ1 : Hid (w.heap.size ≤ w1.heap.size) := hb.size
  clear hb ha hls hld
  obtain ⟨C, hC⟩ : ∃ y, y = (turnR s d).1 := ⟨_, rfl⟩
  obtain ⟨S, hS⟩ : ∃ y, y = (turnR s d).2.1 := ⟨_, rfl⟩
  obtain ⟨D, hD⟩ : ∃ y, y = (turnR s d).2.2 := ⟨_, rfl⟩
  obtain ⟨C2, hC2⟩ : ∃ y, y = (flipR s d).1 := ⟨_, rfl⟩
  obtain ⟨S2, hS2⟩ : ∃ y, y = (flipR s d).2.1 := ⟨_, rfl⟩
  obtain ⟨D2, hD2⟩ : ∃ y, y = (flipR s d).2.2 := ⟨_, rfl⟩
  obtain ⟨C3, hC3⟩ : ∃ y, y = (turnR S D).1 := ⟨_, rfl⟩
  obtain ⟨S3, hS3⟩ : ∃ y, y = (turnR S D).2.1 := ⟨_, rfl⟩
  obtain ⟨D3, hD3⟩ : ∃ y, y = (turnR S D).2.2 := ⟨_, rfl⟩
  obtain ⟨C4, hC4⟩ : ∃ y, y = (flipR S2 D2).1 := ⟨_, rfl⟩
  obtain ⟨S4, hS4⟩ : ∃ y, y = (flipR S2 D2).2.1 := ⟨_, rfl⟩
  obtain ⟨D4, hD4⟩ : ∃ y, y = (flipR S2 D2).2.2 := ⟨_, rfl⟩
  obtain ⟨bb, y0, y1, hat⟩ := at_law cap0 HS.out hb20
  have AT : Hid (∀ W, Below w.heap.size w W → Calls Try.prog 21 #[.slice a0 len0 cap0, .int .i64 1] W fun e w' => e = .returned (.int .i64 bb) ∧ Below W.heap.size W w') := fun W hb => (hat W hb).mono (by rintro e w' ⟨rfl, rfl⟩; exact ⟨rfl, Below.refl _ _⟩)
  clear hat
  obtain ⟨C5, hC5⟩ : ∃ y, y = (rotateR [] [bb - 100] s d).1 := ⟨_, rfl⟩
  obtain ⟨S5, hS5⟩ : ∃ y, y = (rotateR [] [bb - 100] s d).2.1 := ⟨_, rfl⟩
  obtain ⟨D5, hD5⟩ : ∃ y, y = (rotateR [] [bb - 100] s d).2.2 := ⟨_, rfl⟩
  obtain ⟨C6, hC6⟩ : ∃ y, y = (rotateR [] [100 - bb] S5 D5).1 := ⟨_, rfl⟩
  obtain ⟨S6, hS6⟩ : ∃ y, y = (rotateR [] [100 - bb] S5 D5).2.1 := ⟨_, rfl⟩
  obtain ⟨D6, hD6⟩ : ∃ y, y = (rotateR [] [100 - bb] S5 D5).2.2 := ⟨_, rfl⟩
  have LA : Hid (S.length ≤ 1048576 ∧ D.length ≤ 1048576) := by show _ ∧ _; rw [hS, hD]; exact mkR_len (fun _ => Ls.out) (fun h => by rw [turnD_len h]; exact Ld.out)
  have LB : Hid (S2.length ≤ 1048576 ∧ D2.length ≤ 1048576) := by show _ ∧ _; rw [hS2, hD2]; exact mkR_len (fun _ => by rw [List.length_reverse]; exact Ls.out) (fun _ => by simp [flipD]; exact Ld.out)
  have LE : Hid (S5.length ≤ 1048576 ∧ D5.length ≤ 1048576) := by show _ ∧ _; rw [hS5, hD5]; exact mkR_len (fun _ => Ls.out) (fun h => by rw [rotateD_len h]; exact Ld.out)
  have okk : ok (bb - 100) = true ∧ ok (100 - bb) = true := by simp [ok]; omega
  have wk : wrap64 (bb - 100) = bb - 100 ∧ wrap64 (100 - bb) = 100 - bb := ⟨wrap64_small (by omega) (by omega), wrap64_small (by omega) (by omega)⟩
  have SK : Hid (∀ W, Calls Try.prog 20 #[.int .i64 (bb - 100)] W fun e w' => ∃ v, e = .returned (.tuple #[v, .bool true]) ∧ Arr W.heap.size w'.heap.size w' v [] [bb - 100] ∧ Below W.heap.size W w') := fun W => by
    have q := scalarOf_impl (bb - 100) W
    rw [okk.1, if_pos rfl] at q
    exact q
  have SJ : Hid (∀ W, Calls Try.prog 20 #[.int .i64 (100 - bb)] W fun e w' => ∃ v, e = .returned (.tuple #[v, .bool true]) ∧ Arr W.heap.size w'.heap.size w' v [] [100 - bb] ∧ Below W.heap.size W w') := fun W => by
    have q := scalarOf_impl (100 - bb) W
    rw [okk.2, if_pos rfl] at q
    exact q
  have EI : Hid (∀ (W : World) (u0 : Value) (_ : ArrI W u0 s d), Calls Try.prog 17 #[u0] W fun e w' => ∃ v, e = .returned (.tuple #[v, .int .i64 C]) ∧ Arr W.heap.size w'.heap.size w' v S D ∧ Below W.heap.size W w') := by
    intro W u0 h0
    rw [hC, hS, hD]
    exact turn_impl h0 Ls.out Ld.out
  have ES : Hid (∀ (W : World) (u0 : Value) (_ : ArrI W u0 s d), Calls Try.prog 19 #[u0] W fun e w' => ∃ v, e = .returned (.tuple #[v, .int .i64 C]) ∧ Arr W.heap.size w'.heap.size w' v S D ∧ Below W.heap.size W w') := by
    intro W u0 h0
    rw [hC, hS, hD]
    exact turn_spec h0 Ls.out Ld.out
  have E2 : Hid (∀ (W : World) (u0 : Value) (_ : ArrI W u0 s d), Calls Try.prog 18 #[u0] W fun e w' => ∃ v, e = .returned (.tuple #[v, .int .i64 C2]) ∧ Arr W.heap.size w'.heap.size w' v S2 D2 ∧ Below W.heap.size W w') := by
    intro W u0 h0
    rw [hC2, hS2, hD2]
    exact flip_impl h0 Ls.out Ld.out
  have E3 : Hid (∀ (W : World) (u0 : Value) (_ : ArrI W u0 S D), Calls Try.prog 17 #[u0] W fun e w' => ∃ v, e = .returned (.tuple #[v, .int .i64 C3]) ∧ Arr W.heap.size w'.heap.size w' v S3 D3 ∧ Below W.heap.size W w') := by
    intro W u0 h0
    rw [hC3, hS3, hD3]
    exact turn_impl h0 LA.out.1 LA.out.2
  have E4 : Hid (∀ (W : World) (u0 : Value) (_ : ArrI W u0 S2 D2), Calls Try.prog 18 #[u0] W fun e w' => ∃ v, e = .returned (.tuple #[v, .int .i64 C4]) ∧ Arr W.heap.size w'.heap.size w' v S4 D4 ∧ Below W.heap.size W w') := by
    intro W u0 h0
    rw [hC4, hS4, hD4]
    exact flip_impl h0 LB.out.1 LB.out.2
  have E5 : Hid (∀ (W : World) (u0 : Value) (_ : ArrI W u0 [] [bb - 100]) (u1 : Value) (_ : ArrI W u1 s d), Calls Try.prog 22 #[u0, u1] W fun e w' => ∃ v, e = .returned (.tuple #[v, .int .i64 C5]) ∧ Arr W.heap.size w'.heap.size w' v S5 D5 ∧ Below W.heap.size W w') := by
    intro W u0 h0 u1 h1
    rw [hC5, hS5, hD5]
    exact rotate_impl h0 h1 (by simp) (by simp) Ls.out Ld.out
  have E6 : Hid (∀ (W : World) (u0 : Value) (_ : ArrI W u0 [] [100 - bb]) (u1 : Value) (_ : ArrI W u1 S5 D5), Calls Try.prog 22 #[u0, u1] W fun e w' => ∃ v, e = .returned (.tuple #[v, .int .i64 C6]) ∧ Arr W.heap.size w'.heap.size w' v S6 D6 ∧ Below W.heap.size W w') := by
    intro W u0 h0 u1 h1
    rw [hC6, hS6, hD6]
    exact rotate_impl h0 h1 (by simp) (by simp) LE.out.1 LE.out.2
  have hCC : C2 = C := by rw [hC2, hC]; unfold flipR turnR; rw [mkR_code, mkR_code]
  have FG : Hid (C = 0 → C3 = 0 ∧ C4 = 0 ∧ C5 = 0 ∧ C6 = 0 ∧ (S3 = s ∧ D3 = d) ∧ (S4 = s ∧ D4 = d) ∧ (S6 = s ∧ D6 = d)) := by
    intro h
    have ho : arrOk s d = true := by
      rw [hC] at h
      unfold turnR okC at h
      by_cases q : arrOk s d = true
      · exact q
      · rw [if_neg q, mkR_code] at h; cases h
    have sc : ∀ z : Int, ok z = true → arrOk [] [z] = true := fun z hz => by simp [arrOk, sizeV, prodV, hz]
    have e1 : ∀ x, arrOk s x = true → turnR s x = (0, s, turnD s x) := fun x hx => by unfold turnR okC; rw [if_pos hx]; rfl
    have e2 : ∀ t x, arrOk t x = true → flipR t x = (0, t.reverse, flipD t x) := fun t x hx => by unfold flipR okC; rw [if_pos hx]; rfl
    have e3 : ∀ z x, ok z = true → arrOk s x = true → rotateR [] [z] s x = (0, s, rotateD z s x) := fun z x hz hx => by unfold rotateR oneC; rw [if_pos ⟨sc z hz, hx⟩, if_neg (by simp)]; rfl
    obtain ⟨t1, t2⟩ := turn_ok ho
    obtain ⟨f1, f2⟩ := flip_ok ho
    obtain ⟨r1, r2⟩ := rot_ok (bb - 100) ho
    rw [e1 d ho] at hS hD
    rw [e2 s d ho] at hS2 hD2
    rw [e3 _ d okk.1 ho] at hC5 hS5 hD5
    rw [hS, hD, e1 _ t1, t2] at hC3 hS3 hD3
    rw [hS2, hD2, e2 _ _ f1, f2, List.reverse_reverse] at hC4 hS4 hD4
    rw [hS5, hD5, e3 _ _ okk.2 r1, show (100 : Int) - bb = 0 - (bb - 100) by omega, r2] at hC6 hS6 hD6
    exact ⟨hC3, hC4, hC5, hC6, ⟨hS3, hD3⟩, ⟨hS4, hD4⟩, ⟨hS6, hD6⟩⟩
  have FB : Hid (C ≠ 0 → D.length = 0 ∧ D2.length = 0) := by
    intro h
    rw [hD, hD2]
    rw [hC] at h
    unfold turnR okC at h
    unfold turnR flipR okC
    by_cases q : arrOk s d = true
    · rw [if_pos q, mkR_code] at h; exact absurd rfl h
    · rw [if_neg q]; exact ⟨rfl, rfl⟩
  have SA : Hid (∀ (X Y : List Int), X = s → Y = d → ∀ (W : World) (u v : Value), ArrI W u s d → ArrI W v X Y → Calls Try.prog 23 #[u, v] W fun e w' => e = .returned (.bool true) ∧ Below W.heap.size W w') := fun X Y hX hY W u v h k => by
    have q := same_arr h k Ls.out Ld.out
    rw [hX, hY] at q
    simpa [hX, hY] using q
  have hneC : (C != C) = false := by simp
  clear hC hS hD hC2 hS2 hD2 hC3 hS3 hD3 hC4 hS4 hD4 hC5 hS5 hD5 hC6 hS6 hD6
  subst hCC
  go_wp2_with fail
  refine (EI.out _ _ ((N_1.out.arrI).keep (bAlloc (Below.refl _ _) _))).mono ?_
  rintro r w2 ⟨vG, rfl, ha, hb⟩
  obtain ⟨aG, cG, bG, eG, rfl, _, _, _, _⟩ := ha.arrI
  have G_2 : Hid (Arr (w1.heap.size + 1) w2.heap.size w2 (.agg #[.slice aG S.length cG, .slice bG D.length eG]) S D) := ha.mono (by first | exact Nat.le_refl _ | simp | (simp; omega)) (Nat.le_refl _)
  clear ha
  have HB2 : Hid (Below w1.heap.size w1 w2) := bTrans (bAlloc (Below.refl _ _) _) hb
  have HT2 : Hid (Below w.heap.size w w2) := bTrans HT1.out HB2.out
  have SZ2 : Hid (w1.heap.size ≤ w2.heap.size) := HB2.out.size
  have N_2 : Hid (Arr w.heap.size w1.heap.size w2 (.agg #[.slice a1 s.length c1, .slice b1 d.length e1]) s d) := N_1.out.keep HB2.out
  have QN_2 : Hid (Box w2 w1.heap.size (.slice a1 s.length c1) (.slice b1 d.length e1) 26) := (box_new w1 _ _ _).keep hb
  have LTQN : Hid (w1.heap.size < w2.heap.size) := QN_2.out.lt
  clear N_1 hb
  have QNc0 := QN_2.out.c0
  have QNc1 := QN_2.out.c1
  have QNd0 : ∀ o : Obj, (w2.alloc o).cell? ⟨w1.heap.size, 0, none⟩ = some (.slice a1 s.length c1) := fun o => (QN_2.out.keep (bAlloc (Below.refl _ _) o)).c0
  have QNd1 : ∀ o : Obj, (w2.alloc o).cell? ⟨w1.heap.size, 1, none⟩ = some (.slice b1 d.length e1) := fun o => (QN_2.out.keep (bAlloc (Below.refl _ _) o)).c1
  go_wp2_with fail
  refine (E2.out _ _ ((N_2.out.arrI).keep (bAlloc (Below.refl _ _) _))).mono ?_
  rintro r w3 ⟨vF, rfl, ha, hb⟩
  obtain ⟨aF, cF, bF, eF, rfl, _, _, _, _⟩ := ha.arrI
  have F_3 : Hid (Arr (w2.heap.size + 1) w3.heap.size w3 (.agg #[.slice aF S2.length cF, .slice bF D2.length eF]) S2 D2) := ha.mono (by first | exact Nat.le_refl _ | simp | (simp; omega)) (Nat.le_refl _)
  clear ha
  have HB3 : Hid (Below w2.heap.size w2 w3) := bTrans (bAlloc (Below.refl _ _) _) hb
  have HT3 : Hid (Below w.heap.size w w3) := bTrans HT2.out HB3.out
  have SZ3 : Hid (w2.heap.size ≤ w3.heap.size) := HB3.out.size
  have QN_3 : Hid (Box w3 w1.heap.size (.slice a1 s.length c1) (.slice b1 d.length e1) 26) := QN_2.out.keep HB3.out
  have N_3 : Hid (Arr w.heap.size w1.heap.size w3 (.agg #[.slice a1 s.length c1, .slice b1 d.length e1]) s d) := N_2.out.keep HB3.out
  have G_3 : Hid (Arr (w1.heap.size + 1) w2.heap.size w3 (.agg #[.slice aG S.length cG, .slice bG D.length eG]) S D) := G_2.out.keep HB3.out
  have QG_3 : Hid (Box w3 w2.heap.size (.slice aG S.length cG) (.slice bG D.length eG) 26) := (box_new w2 _ _ _).keep hb
  have LTQG : Hid (w2.heap.size < w3.heap.size) := QG_3.out.lt
  clear QN_2 N_2 G_2 QNc0 QNc1 QNd0 QNd1 hb
  have QNc0 := QN_3.out.c0
  have QNc1 := QN_3.out.c1
  have QNd0 : ∀ o : Obj, (w3.alloc o).cell? ⟨w1.heap.size, 0, none⟩ = some (.slice a1 s.length c1) := fun o => (QN_3.out.keep (bAlloc (Below.refl _ _) o)).c0
  have QNd1 : ∀ o : Obj, (w3.alloc o).cell? ⟨w1.heap.size, 1, none⟩ = some (.slice b1 d.length e1) := fun o => (QN_3.out.keep (bAlloc (Below.refl _ _) o)).c1
  have QGc0 := QG_3.out.c0
  have QGc1 := QG_3.out.c1
  have QGd0 : ∀ o : Obj, (w3.alloc o).cell? ⟨w2.heap.size, 0, none⟩ = some (.slice aG S.length cG) := fun o => (QG_3.out.keep (bAlloc (Below.refl _ _) o)).c0
  have QGd1 : ∀ o : Obj, (w3.alloc o).cell? ⟨w2.heap.size, 1, none⟩ = some (.slice bG D.length eG) := fun o => (QG_3.out.keep (bAlloc (Below.refl _ _) o)).c1
  go_wp2_with fail
  refine (ES.out _ _ ((N_3.out.arrI).keep (bAlloc (Below.refl _ _) _))).mono ?_
  rintro r w4 ⟨vW, rfl, ha, hb⟩
  obtain ⟨aW, cW, bW, eW, rfl, _, _, _, _⟩ := ha.arrI
  have W_4 : Hid (Arr (w3.heap.size + 1) w4.heap.size w4 (.agg #[.slice aW S.length cW, .slice bW D.length eW]) S D) := ha.mono (by first | exact Nat.le_refl _ | simp | (simp; omega)) (Nat.le_refl _)
  clear ha
  have HB4 : Hid (Below w3.heap.size w3 w4) := bTrans (bAlloc (Below.refl _ _) _) hb
  have HT4 : Hid (Below w.heap.size w w4) := bTrans HT3.out HB4.out
  have SZ4 : Hid (w3.heap.size ≤ w4.heap.size) := HB4.out.size
  have QN_4 : Hid (Box w4 w1.heap.size (.slice a1 s.length c1) (.slice b1 d.length e1) 26) := QN_3.out.keep HB4.out
  have QG_4 : Hid (Box w4 w2.heap.size (.slice aG S.length cG) (.slice bG D.length eG) 26) := QG_3.out.keep HB4.out
  have N_4 : Hid (Arr w.heap.size w1.heap.size w4 (.agg #[.slice a1 s.length c1, .slice b1 d.length e1]) s d) := N_3.out.keep HB4.out
  have G_4 : Hid (Arr (w1.heap.size + 1) w2.heap.size w4 (.agg #[.slice aG S.length cG, .slice bG D.length eG]) S D) := G_3.out.keep HB4.out
  have F_4 : Hid (Arr (w2.heap.size + 1) w3.heap.size w4 (.agg #[.slice aF S2.length cF, .slice bF D2.length eF]) S2 D2) := F_3.out.keep HB4.out
  have QF_4 : Hid (Box w4 w3.heap.size (.slice aF S2.length cF) (.slice bF D2.length eF) 26) := (box_new w3 _ _ _).keep hb
  have LTQF : Hid (w3.heap.size < w4.heap.size) := QF_4.out.lt
  clear QN_3 QG_3 N_3 G_3 F_3 QNc0 QNc1 QNd0 QNd1 QGc0 QGc1 QGd0 QGd1 hb
  have QNc0 := QN_4.out.c0
  have QNc1 := QN_4.out.c1
  have QNd0 : ∀ o : Obj, (w4.alloc o).cell? ⟨w1.heap.size, 0, none⟩ = some (.slice a1 s.length c1) := fun o => (QN_4.out.keep (bAlloc (Below.refl _ _) o)).c0
  have QNd1 : ∀ o : Obj, (w4.alloc o).cell? ⟨w1.heap.size, 1, none⟩ = some (.slice b1 d.length e1) := fun o => (QN_4.out.keep (bAlloc (Below.refl _ _) o)).c1
  have QGc0 := QG_4.out.c0
  have QGc1 := QG_4.out.c1
  have QGd0 : ∀ o : Obj, (w4.alloc o).cell? ⟨w2.heap.size, 0, none⟩ = some (.slice aG S.length cG) := fun o => (QG_4.out.keep (bAlloc (Below.refl _ _) o)).c0
  have QGd1 : ∀ o : Obj, (w4.alloc o).cell? ⟨w2.heap.size, 1, none⟩ = some (.slice bG D.length eG) := fun o => (QG_4.out.keep (bAlloc (Below.refl _ _) o)).c1
  have QFc0 := QF_4.out.c0
  have QFc1 := QF_4.out.c1
  have QFd0 : ∀ o : Obj, (w4.alloc o).cell? ⟨w3.heap.size, 0, none⟩ = some (.slice aF S2.length cF) := fun o => (QF_4.out.keep (bAlloc (Below.refl _ _) o)).c0
  have QFd1 : ∀ o : Obj, (w4.alloc o).cell? ⟨w3.heap.size, 1, none⟩ = some (.slice bF D2.length eF) := fun o => (QF_4.out.keep (bAlloc (Below.refl _ _) o)).c1
  by_cases hc : C2 = 0
  · obtain ⟨rfl, rfl, rfl, rfl, ⟨x1, x2⟩, ⟨x3, x4⟩, ⟨x5, x6⟩⟩ := FG.out hc
    subst hc
    have SA1 : Hid (∀ (W : World) (u v : Value), ArrI W u s d → ArrI W v S3 D3 → Calls Try.prog 23 #[u, v] W fun e w' => e = .returned (.bool true) ∧ Below W.heap.size W w') := SA.out _ _ x1 x2
    have SA2 : Hid (∀ (W : World) (u v : Value), ArrI W u s d → ArrI W v S4 D4 → Calls Try.prog 23 #[u, v] W fun e w' => e = .returned (.bool true) ∧ Below W.heap.size W w') := SA.out _ _ x3 x4
    have SA3 : Hid (∀ (W : World) (u v : Value), ArrI W u s d → ArrI W v S6 D6 → Calls Try.prog 23 #[u, v] W fun e w' => e = .returned (.bool true) ∧ Below W.heap.size W w') := SA.out _ _ x5 x6
    obtain ⟨wk1, wk2⟩ := wk
    clear FG FB SA x1 x2 x3 x4 x5 x6
    go_wp2_with fail
    refine (E3.out _ _ ((G_4.out.arrI).keep (bAlloc (Below.refl _ _) _))).mono ?_
    rintro r w5 ⟨vX, rfl, ha, hb⟩
    obtain ⟨aX, cX, bX, eX, rfl, _, _, _, _⟩ := ha.arrI
    have X_5 : Hid (Arr (w4.heap.size + 1) w5.heap.size w5 (.agg #[.slice aX S3.length cX, .slice bX D3.length eX]) S3 D3) := ha.mono (by first | exact Nat.le_refl _ | simp | (simp; omega)) (Nat.le_refl _)
    clear ha
    have HB5 : Hid (Below w4.heap.size w4 w5) := bTrans (bAlloc (Below.refl _ _) _) hb
    have HT5 : Hid (Below w.heap.size w w5) := bTrans HT4.out HB5.out
    have SZ5 : Hid (w4.heap.size ≤ w5.heap.size) := HB5.out.size
    have QN_5 : Hid (Box w5 w1.heap.size (.slice a1 s.length c1) (.slice b1 d.length e1) 26) := QN_4.out.keep HB5.out
    have QG_5 : Hid (Box w5 w2.heap.size (.slice aG S.length cG) (.slice bG D.length eG) 26) := QG_4.out.keep HB5.out
    have QF_5 : Hid (Box w5 w3.heap.size (.slice aF S2.length cF) (.slice bF D2.length eF) 26) := QF_4.out.keep HB5.out
    have N_5 : Hid (Arr w.heap.size w1.heap.size w5 (.agg #[.slice a1 s.length c1, .slice b1 d.length e1]) s d) := N_4.out.keep HB5.out
    have G_5 : Hid (Arr (w1.heap.size + 1) w2.heap.size w5 (.agg #[.slice aG S.length cG, .slice bG D.length eG]) S D) := G_4.out.keep HB5.out
    have F_5 : Hid (Arr (w2.heap.size + 1) w3.heap.size w5 (.agg #[.slice aF S2.length cF, .slice bF D2.length eF]) S2 D2) := F_4.out.keep HB5.out
    have QW_5 : Hid (Box w5 w4.heap.size (.slice aW S.length cW) (.slice bW D.length eW) 26) := (box_new w4 _ _ _).keep hb
    have LTQW : Hid (w4.heap.size < w5.heap.size) := QW_5.out.lt
    clear QN_4 QG_4 QF_4 N_4 G_4 F_4 QNc0 QNc1 QNd0 QNd1 QGc0 QGc1 QGd0 QGd1 QFc0 QFc1 QFd0 QFd1 hb
    have QNc0 := QN_5.out.c0
    have QNc1 := QN_5.out.c1
    have QNd0 : ∀ o : Obj, (w5.alloc o).cell? ⟨w1.heap.size, 0, none⟩ = some (.slice a1 s.length c1) := fun o => (QN_5.out.keep (bAlloc (Below.refl _ _) o)).c0
    have QNd1 : ∀ o : Obj, (w5.alloc o).cell? ⟨w1.heap.size, 1, none⟩ = some (.slice b1 d.length e1) := fun o => (QN_5.out.keep (bAlloc (Below.refl _ _) o)).c1
    have QGc0 := QG_5.out.c0
    have QGc1 := QG_5.out.c1
    have QGd0 : ∀ o : Obj, (w5.alloc o).cell? ⟨w2.heap.size, 0, none⟩ = some (.slice aG S.length cG) := fun o => (QG_5.out.keep (bAlloc (Below.refl _ _) o)).c0
    have QGd1 : ∀ o : Obj, (w5.alloc o).cell? ⟨w2.heap.size, 1, none⟩ = some (.slice bG D.length eG) := fun o => (QG_5.out.keep (bAlloc (Below.refl _ _) o)).c1
    have QFc0 := QF_5.out.c0
    have QFc1 := QF_5.out.c1
    have QFd0 : ∀ o : Obj, (w5.alloc o).cell? ⟨w3.heap.size, 0, none⟩ = some (.slice aF S2.length cF) := fun o => (QF_5.out.keep (bAlloc (Below.refl _ _) o)).c0
    have QFd1 : ∀ o : Obj, (w5.alloc o).cell? ⟨w3.heap.size, 1, none⟩ = some (.slice bF D2.length eF) := fun o => (QF_5.out.keep (bAlloc (Below.refl _ _) o)).c1
    have QWc0 := QW_5.out.c0
    have QWc1 := QW_5.out.c1
    have QWd0 : ∀ o : Obj, (w5.alloc o).cell? ⟨w4.heap.size, 0, none⟩ = some (.slice aW S.length cW) := fun o => (QW_5.out.keep (bAlloc (Below.refl _ _) o)).c0
    have QWd1 : ∀ o : Obj, (w5.alloc o).cell? ⟨w4.heap.size, 1, none⟩ = some (.slice bW D.length eW) := fun o => (QW_5.out.keep (bAlloc (Below.refl _ _) o)).c1
    go_wp2_with fail
    refine (E4.out _ _ ((F_5.out.arrI).keep (bAlloc (Below.refl _ _) _))).mono ?_
    rintro r w6 ⟨vY, rfl, ha, hb⟩
    obtain ⟨aY, cY, bY, eY, rfl, _, _, _, _⟩ := ha.arrI
    have Y_6 : Hid (Arr (w5.heap.size + 1) w6.heap.size w6 (.agg #[.slice aY S4.length cY, .slice bY D4.length eY]) S4 D4) := ha.mono (by first | exact Nat.le_refl _ | simp | (simp; omega)) (Nat.le_refl _)
    clear ha
    have HB6 : Hid (Below w5.heap.size w5 w6) := bTrans (bAlloc (Below.refl _ _) _) hb
    have HT6 : Hid (Below w.heap.size w w6) := bTrans HT5.out HB6.out
    have SZ6 : Hid (w5.heap.size ≤ w6.heap.size) := HB6.out.size
    have QN_6 : Hid (Box w6 w1.heap.size (.slice a1 s.length c1) (.slice b1 d.length e1) 26) := QN_5.out.keep HB6.out
    have QG_6 : Hid (Box w6 w2.heap.size (.slice aG S.length cG) (.slice bG D.length eG) 26) := QG_5.out.keep HB6.out
    have QF_6 : Hid (Box w6 w3.heap.size (.slice aF S2.length cF) (.slice bF D2.length eF) 26) := QF_5.out.keep HB6.out
    have QW_6 : Hid (Box w6 w4.heap.size (.slice aW S.length cW) (.slice bW D.length eW) 26) := QW_5.out.keep HB6.out
    have N_6 : Hid (Arr w.heap.size w1.heap.size w6 (.agg #[.slice a1 s.length c1, .slice b1 d.length e1]) s d) := N_5.out.keep HB6.out
    have F_6 : Hid (Arr (w2.heap.size + 1) w3.heap.size w6 (.agg #[.slice aF S2.length cF, .slice bF D2.length eF]) S2 D2) := F_5.out.keep HB6.out
    have X_6 : Hid (Arr (w4.heap.size + 1) w5.heap.size w6 (.agg #[.slice aX S3.length cX, .slice bX D3.length eX]) S3 D3) := X_5.out.keep HB6.out
    have QX_6 : Hid (Box w6 w5.heap.size (.slice aX S3.length cX) (.slice bX D3.length eX) 26) := (box_new w5 _ _ _).keep hb
    have LTQX : Hid (w5.heap.size < w6.heap.size) := QX_6.out.lt
    clear QN_5 QG_5 QF_5 QW_5 N_5 F_5 X_5 QNc0 QNc1 QNd0 QNd1 QGc0 QGc1 QGd0 QGd1 QFc0 QFc1 QFd0 QFd1 QWc0 QWc1 QWd0 QWd1 hb
    have QNc0 := QN_6.out.c0
    have QNc1 := QN_6.out.c1
    have QNd0 : ∀ o : Obj, (w6.alloc o).cell? ⟨w1.heap.size, 0, none⟩ = some (.slice a1 s.length c1) := fun o => (QN_6.out.keep (bAlloc (Below.refl _ _) o)).c0
    have QNd1 : ∀ o : Obj, (w6.alloc o).cell? ⟨w1.heap.size, 1, none⟩ = some (.slice b1 d.length e1) := fun o => (QN_6.out.keep (bAlloc (Below.refl _ _) o)).c1
    have QGc0 := QG_6.out.c0
    have QGc1 := QG_6.out.c1
    have QGd0 : ∀ o : Obj, (w6.alloc o).cell? ⟨w2.heap.size, 0, none⟩ = some (.slice aG S.length cG) := fun o => (QG_6.out.keep (bAlloc (Below.refl _ _) o)).c0
    have QGd1 : ∀ o : Obj, (w6.alloc o).cell? ⟨w2.heap.size, 1, none⟩ = some (.slice bG D.length eG) := fun o => (QG_6.out.keep (bAlloc (Below.refl _ _) o)).c1
    have QFc0 := QF_6.out.c0
    have QFc1 := QF_6.out.c1
    have QFd0 : ∀ o : Obj, (w6.alloc o).cell? ⟨w3.heap.size, 0, none⟩ = some (.slice aF S2.length cF) := fun o => (QF_6.out.keep (bAlloc (Below.refl _ _) o)).c0
    have QFd1 : ∀ o : Obj, (w6.alloc o).cell? ⟨w3.heap.size, 1, none⟩ = some (.slice bF D2.length eF) := fun o => (QF_6.out.keep (bAlloc (Below.refl _ _) o)).c1
    have QWc0 := QW_6.out.c0
    have QWc1 := QW_6.out.c1
    have QWd0 : ∀ o : Obj, (w6.alloc o).cell? ⟨w4.heap.size, 0, none⟩ = some (.slice aW S.length cW) := fun o => (QW_6.out.keep (bAlloc (Below.refl _ _) o)).c0
    have QWd1 : ∀ o : Obj, (w6.alloc o).cell? ⟨w4.heap.size, 1, none⟩ = some (.slice bW D.length eW) := fun o => (QW_6.out.keep (bAlloc (Below.refl _ _) o)).c1
    have QXc0 := QX_6.out.c0
    have QXc1 := QX_6.out.c1
    have QXd0 : ∀ o : Obj, (w6.alloc o).cell? ⟨w5.heap.size, 0, none⟩ = some (.slice aX S3.length cX) := fun o => (QX_6.out.keep (bAlloc (Below.refl _ _) o)).c0
    have QXd1 : ∀ o : Obj, (w6.alloc o).cell? ⟨w5.heap.size, 1, none⟩ = some (.slice bX D3.length eX) := fun o => (QX_6.out.keep (bAlloc (Below.refl _ _) o)).c1
    go_wp2_with fail
    refine (AT.out _ (bTrans HT6.out (bAlloc (Below.refl _ _) _))).mono ?_
    rintro r w7 ⟨rfl, hb⟩
    have HB7 : Hid (Below w6.heap.size w6 w7) := bTrans (bAlloc (Below.refl _ _) _) hb
    have HT7 : Hid (Below w.heap.size w w7) := bTrans HT6.out HB7.out
    have SZ7 : Hid (w6.heap.size ≤ w7.heap.size) := HB7.out.size
    have QN_7 : Hid (Box w7 w1.heap.size (.slice a1 s.length c1) (.slice b1 d.length e1) 26) := QN_6.out.keep HB7.out
    have QG_7 : Hid (Box w7 w2.heap.size (.slice aG S.length cG) (.slice bG D.length eG) 26) := QG_6.out.keep HB7.out
    have QF_7 : Hid (Box w7 w3.heap.size (.slice aF S2.length cF) (.slice bF D2.length eF) 26) := QF_6.out.keep HB7.out
    have QW_7 : Hid (Box w7 w4.heap.size (.slice aW S.length cW) (.slice bW D.length eW) 26) := QW_6.out.keep HB7.out
    have QX_7 : Hid (Box w7 w5.heap.size (.slice aX S3.length cX) (.slice bX D3.length eX) 26) := QX_6.out.keep HB7.out
    have N_7 : Hid (Arr w.heap.size w1.heap.size w7 (.agg #[.slice a1 s.length c1, .slice b1 d.length e1]) s d) := N_6.out.keep HB7.out
    have X_7 : Hid (Arr (w4.heap.size + 1) w5.heap.size w7 (.agg #[.slice aX S3.length cX, .slice bX D3.length eX]) S3 D3) := X_6.out.keep HB7.out
    have Y_7 : Hid (Arr (w5.heap.size + 1) w6.heap.size w7 (.agg #[.slice aY S4.length cY, .slice bY D4.length eY]) S4 D4) := Y_6.out.keep HB7.out
    have QY_7 : Hid (Box w7 w6.heap.size (.slice aY S4.length cY) (.slice bY D4.length eY) 26) := (box_new w6 _ _ _).keep hb
    have LTQY : Hid (w6.heap.size < w7.heap.size) := QY_7.out.lt
    clear QN_6 QG_6 QF_6 QW_6 QX_6 N_6 X_6 Y_6 QNc0 QNc1 QNd0 QNd1 QGc0 QGc1 QGd0 QGd1 QFc0 QFc1 QFd0 QFd1 QWc0 QWc1 QWd0 QWd1 QXc0 QXc1 QXd0 QXd1 hb
    have QNc0 := QN_7.out.c0
    have QNc1 := QN_7.out.c1
    have QGc0 := QG_7.out.c0
    have QGc1 := QG_7.out.c1
    have QFc0 := QF_7.out.c0
    have QFc1 := QF_7.out.c1
    have QWc0 := QW_7.out.c0
    have QWc1 := QW_7.out.c1
    have QXc0 := QX_7.out.c0
    have QXc1 := QX_7.out.c1
    have QYc0 := QY_7.out.c0
    have QYc1 := QY_7.out.c1
    go_wp2_with fail
    refine (SK.out _).mono ?_
    rintro r w8 ⟨vK, rfl, ha, hb⟩
    obtain ⟨aK, cK, bK, eK, rfl, _, _, _, _⟩ := ha.arrI
    have K_8 : Hid (Arr w7.heap.size w8.heap.size w8 (.agg #[.slice aK 0 cK, .slice bK 1 eK]) [] [bb - 100]) := ha.mono (by first | exact Nat.le_refl _ | simp | (simp; omega)) (Nat.le_refl _)
    clear ha
    have HB8 : Hid (Below w7.heap.size w7 w8) := hb
    have HT8 : Hid (Below w.heap.size w w8) := bTrans HT7.out HB8.out
    have SZ8 : Hid (w7.heap.size ≤ w8.heap.size) := HB8.out.size
    have QN_8 : Hid (Box w8 w1.heap.size (.slice a1 s.length c1) (.slice b1 d.length e1) 26) := QN_7.out.keep HB8.out
    have QG_8 : Hid (Box w8 w2.heap.size (.slice aG S.length cG) (.slice bG D.length eG) 26) := QG_7.out.keep HB8.out
    have QF_8 : Hid (Box w8 w3.heap.size (.slice aF S2.length cF) (.slice bF D2.length eF) 26) := QF_7.out.keep HB8.out
    have QW_8 : Hid (Box w8 w4.heap.size (.slice aW S.length cW) (.slice bW D.length eW) 26) := QW_7.out.keep HB8.out
    have QX_8 : Hid (Box w8 w5.heap.size (.slice aX S3.length cX) (.slice bX D3.length eX) 26) := QX_7.out.keep HB8.out
    have QY_8 : Hid (Box w8 w6.heap.size (.slice aY S4.length cY) (.slice bY D4.length eY) 26) := QY_7.out.keep HB8.out
    have N_8 : Hid (Arr w.heap.size w1.heap.size w8 (.agg #[.slice a1 s.length c1, .slice b1 d.length e1]) s d) := N_7.out.keep HB8.out
    have X_8 : Hid (Arr (w4.heap.size + 1) w5.heap.size w8 (.agg #[.slice aX S3.length cX, .slice bX D3.length eX]) S3 D3) := X_7.out.keep HB8.out
    have Y_8 : Hid (Arr (w5.heap.size + 1) w6.heap.size w8 (.agg #[.slice aY S4.length cY, .slice bY D4.length eY]) S4 D4) := Y_7.out.keep HB8.out
    clear QN_7 QG_7 QF_7 QW_7 QX_7 QY_7 N_7 X_7 Y_7 QNc0 QNc1 QGc0 QGc1 QFc0 QFc1 QWc0 QWc1 QXc0 QXc1 QYc0 QYc1 hb
    have QNc0 := QN_8.out.c0
    have QNc1 := QN_8.out.c1
    have QNd0 : ∀ o : Obj, (w8.alloc o).cell? ⟨w1.heap.size, 0, none⟩ = some (.slice a1 s.length c1) := fun o => (QN_8.out.keep (bAlloc (Below.refl _ _) o)).c0
    have QNd1 : ∀ o : Obj, (w8.alloc o).cell? ⟨w1.heap.size, 1, none⟩ = some (.slice b1 d.length e1) := fun o => (QN_8.out.keep (bAlloc (Below.refl _ _) o)).c1
    have QGc0 := QG_8.out.c0
    have QGc1 := QG_8.out.c1
    have QGd0 : ∀ o : Obj, (w8.alloc o).cell? ⟨w2.heap.size, 0, none⟩ = some (.slice aG S.length cG) := fun o => (QG_8.out.keep (bAlloc (Below.refl _ _) o)).c0
    have QGd1 : ∀ o : Obj, (w8.alloc o).cell? ⟨w2.heap.size, 1, none⟩ = some (.slice bG D.length eG) := fun o => (QG_8.out.keep (bAlloc (Below.refl _ _) o)).c1
    have QFc0 := QF_8.out.c0
    have QFc1 := QF_8.out.c1
    have QFd0 : ∀ o : Obj, (w8.alloc o).cell? ⟨w3.heap.size, 0, none⟩ = some (.slice aF S2.length cF) := fun o => (QF_8.out.keep (bAlloc (Below.refl _ _) o)).c0
    have QFd1 : ∀ o : Obj, (w8.alloc o).cell? ⟨w3.heap.size, 1, none⟩ = some (.slice bF D2.length eF) := fun o => (QF_8.out.keep (bAlloc (Below.refl _ _) o)).c1
    have QWc0 := QW_8.out.c0
    have QWc1 := QW_8.out.c1
    have QWd0 : ∀ o : Obj, (w8.alloc o).cell? ⟨w4.heap.size, 0, none⟩ = some (.slice aW S.length cW) := fun o => (QW_8.out.keep (bAlloc (Below.refl _ _) o)).c0
    have QWd1 : ∀ o : Obj, (w8.alloc o).cell? ⟨w4.heap.size, 1, none⟩ = some (.slice bW D.length eW) := fun o => (QW_8.out.keep (bAlloc (Below.refl _ _) o)).c1
    have QXc0 := QX_8.out.c0
    have QXc1 := QX_8.out.c1
    have QXd0 : ∀ o : Obj, (w8.alloc o).cell? ⟨w5.heap.size, 0, none⟩ = some (.slice aX S3.length cX) := fun o => (QX_8.out.keep (bAlloc (Below.refl _ _) o)).c0
    have QXd1 : ∀ o : Obj, (w8.alloc o).cell? ⟨w5.heap.size, 1, none⟩ = some (.slice bX D3.length eX) := fun o => (QX_8.out.keep (bAlloc (Below.refl _ _) o)).c1
    have QYc0 := QY_8.out.c0
    have QYc1 := QY_8.out.c1
    have QYd0 : ∀ o : Obj, (w8.alloc o).cell? ⟨w6.heap.size, 0, none⟩ = some (.slice aY S4.length cY) := fun o => (QY_8.out.keep (bAlloc (Below.refl _ _) o)).c0
    have QYd1 : ∀ o : Obj, (w8.alloc o).cell? ⟨w6.heap.size, 1, none⟩ = some (.slice bY D4.length eY) := fun o => (QY_8.out.keep (bAlloc (Below.refl _ _) o)).c1
    go_wp2_with fail
    refine (AT.out _ (bTrans HT8.out (bAlloc (Below.refl _ _) _))).mono ?_
    rintro r w9 ⟨rfl, hb⟩
    have HB9 : Hid (Below w8.heap.size w8 w9) := bTrans (bAlloc (Below.refl _ _) _) hb
    have HT9 : Hid (Below w.heap.size w w9) := bTrans HT8.out HB9.out
    have SZ9 : Hid (w8.heap.size ≤ w9.heap.size) := HB9.out.size
    have QN_9 : Hid (Box w9 w1.heap.size (.slice a1 s.length c1) (.slice b1 d.length e1) 26) := QN_8.out.keep HB9.out
    have QG_9 : Hid (Box w9 w2.heap.size (.slice aG S.length cG) (.slice bG D.length eG) 26) := QG_8.out.keep HB9.out
    have QF_9 : Hid (Box w9 w3.heap.size (.slice aF S2.length cF) (.slice bF D2.length eF) 26) := QF_8.out.keep HB9.out
    have QW_9 : Hid (Box w9 w4.heap.size (.slice aW S.length cW) (.slice bW D.length eW) 26) := QW_8.out.keep HB9.out
    have QX_9 : Hid (Box w9 w5.heap.size (.slice aX S3.length cX) (.slice bX D3.length eX) 26) := QX_8.out.keep HB9.out
    have QY_9 : Hid (Box w9 w6.heap.size (.slice aY S4.length cY) (.slice bY D4.length eY) 26) := QY_8.out.keep HB9.out
    have N_9 : Hid (Arr w.heap.size w1.heap.size w9 (.agg #[.slice a1 s.length c1, .slice b1 d.length e1]) s d) := N_8.out.keep HB9.out
    have X_9 : Hid (Arr (w4.heap.size + 1) w5.heap.size w9 (.agg #[.slice aX S3.length cX, .slice bX D3.length eX]) S3 D3) := X_8.out.keep HB9.out
    have Y_9 : Hid (Arr (w5.heap.size + 1) w6.heap.size w9 (.agg #[.slice aY S4.length cY, .slice bY D4.length eY]) S4 D4) := Y_8.out.keep HB9.out
    have K_9 : Hid (Arr w7.heap.size w8.heap.size w9 (.agg #[.slice aK 0 cK, .slice bK 1 eK]) [] [bb - 100]) := K_8.out.keep HB9.out
    have QK_9 : Hid (Box w9 w8.heap.size (.slice aK 0 cK) (.slice bK 1 eK) 26) := (box_new w8 _ _ _).keep hb
    have LTQK : Hid (w8.heap.size < w9.heap.size) := QK_9.out.lt
    clear QN_8 QG_8 QF_8 QW_8 QX_8 QY_8 N_8 X_8 Y_8 K_8 QNc0 QNc1 QNd0 QNd1 QGc0 QGc1 QGd0 QGd1 QFc0 QFc1 QFd0 QFd1 QWc0 QWc1 QWd0 QWd1 QXc0 QXc1 QXd0 QXd1 QYc0 QYc1 QYd0 QYd1 hb
    have QNc0 := QN_9.out.c0
    have QNc1 := QN_9.out.c1
    have QGc0 := QG_9.out.c0
    have QGc1 := QG_9.out.c1
    have QFc0 := QF_9.out.c0
    have QFc1 := QF_9.out.c1
    have QWc0 := QW_9.out.c0
    have QWc1 := QW_9.out.c1
    have QXc0 := QX_9.out.c0
    have QXc1 := QX_9.out.c1
    have QYc0 := QY_9.out.c0
    have QYc1 := QY_9.out.c1
    have QKc0 := QK_9.out.c0
    have QKc1 := QK_9.out.c1
    go_wp2_with fail
    refine (SJ.out _).mono ?_
    rintro r w10 ⟨vJ, rfl, ha, hb⟩
    obtain ⟨aJ, cJ, bJ, eJ, rfl, _, _, _, _⟩ := ha.arrI
    have J_10 : Hid (Arr w9.heap.size w10.heap.size w10 (.agg #[.slice aJ 0 cJ, .slice bJ 1 eJ]) [] [100 - bb]) := ha.mono (by first | exact Nat.le_refl _ | simp | (simp; omega)) (Nat.le_refl _)
    clear ha
    have HB10 : Hid (Below w9.heap.size w9 w10) := hb
    have HT10 : Hid (Below w.heap.size w w10) := bTrans HT9.out HB10.out
    have SZ10 : Hid (w9.heap.size ≤ w10.heap.size) := HB10.out.size
    have QN_10 : Hid (Box w10 w1.heap.size (.slice a1 s.length c1) (.slice b1 d.length e1) 26) := QN_9.out.keep HB10.out
    have QG_10 : Hid (Box w10 w2.heap.size (.slice aG S.length cG) (.slice bG D.length eG) 26) := QG_9.out.keep HB10.out
    have QF_10 : Hid (Box w10 w3.heap.size (.slice aF S2.length cF) (.slice bF D2.length eF) 26) := QF_9.out.keep HB10.out
    have QW_10 : Hid (Box w10 w4.heap.size (.slice aW S.length cW) (.slice bW D.length eW) 26) := QW_9.out.keep HB10.out
    have QX_10 : Hid (Box w10 w5.heap.size (.slice aX S3.length cX) (.slice bX D3.length eX) 26) := QX_9.out.keep HB10.out
    have QY_10 : Hid (Box w10 w6.heap.size (.slice aY S4.length cY) (.slice bY D4.length eY) 26) := QY_9.out.keep HB10.out
    have QK_10 : Hid (Box w10 w8.heap.size (.slice aK 0 cK) (.slice bK 1 eK) 26) := QK_9.out.keep HB10.out
    have N_10 : Hid (Arr w.heap.size w1.heap.size w10 (.agg #[.slice a1 s.length c1, .slice b1 d.length e1]) s d) := N_9.out.keep HB10.out
    have X_10 : Hid (Arr (w4.heap.size + 1) w5.heap.size w10 (.agg #[.slice aX S3.length cX, .slice bX D3.length eX]) S3 D3) := X_9.out.keep HB10.out
    have Y_10 : Hid (Arr (w5.heap.size + 1) w6.heap.size w10 (.agg #[.slice aY S4.length cY, .slice bY D4.length eY]) S4 D4) := Y_9.out.keep HB10.out
    have K_10 : Hid (Arr w7.heap.size w8.heap.size w10 (.agg #[.slice aK 0 cK, .slice bK 1 eK]) [] [bb - 100]) := K_9.out.keep HB10.out
    clear QN_9 QG_9 QF_9 QW_9 QX_9 QY_9 QK_9 N_9 X_9 Y_9 K_9 QNc0 QNc1 QGc0 QGc1 QFc0 QFc1 QWc0 QWc1 QXc0 QXc1 QYc0 QYc1 QKc0 QKc1 hb
    have QNc0 := QN_10.out.c0
    have QNc1 := QN_10.out.c1
    have QNd0 : ∀ o : Obj, (w10.alloc o).cell? ⟨w1.heap.size, 0, none⟩ = some (.slice a1 s.length c1) := fun o => (QN_10.out.keep (bAlloc (Below.refl _ _) o)).c0
    have QNd1 : ∀ o : Obj, (w10.alloc o).cell? ⟨w1.heap.size, 1, none⟩ = some (.slice b1 d.length e1) := fun o => (QN_10.out.keep (bAlloc (Below.refl _ _) o)).c1
    have QGc0 := QG_10.out.c0
    have QGc1 := QG_10.out.c1
    have QGd0 : ∀ o : Obj, (w10.alloc o).cell? ⟨w2.heap.size, 0, none⟩ = some (.slice aG S.length cG) := fun o => (QG_10.out.keep (bAlloc (Below.refl _ _) o)).c0
    have QGd1 : ∀ o : Obj, (w10.alloc o).cell? ⟨w2.heap.size, 1, none⟩ = some (.slice bG D.length eG) := fun o => (QG_10.out.keep (bAlloc (Below.refl _ _) o)).c1
    have QFc0 := QF_10.out.c0
    have QFc1 := QF_10.out.c1
    have QFd0 : ∀ o : Obj, (w10.alloc o).cell? ⟨w3.heap.size, 0, none⟩ = some (.slice aF S2.length cF) := fun o => (QF_10.out.keep (bAlloc (Below.refl _ _) o)).c0
    have QFd1 : ∀ o : Obj, (w10.alloc o).cell? ⟨w3.heap.size, 1, none⟩ = some (.slice bF D2.length eF) := fun o => (QF_10.out.keep (bAlloc (Below.refl _ _) o)).c1
    have QWc0 := QW_10.out.c0
    have QWc1 := QW_10.out.c1
    have QWd0 : ∀ o : Obj, (w10.alloc o).cell? ⟨w4.heap.size, 0, none⟩ = some (.slice aW S.length cW) := fun o => (QW_10.out.keep (bAlloc (Below.refl _ _) o)).c0
    have QWd1 : ∀ o : Obj, (w10.alloc o).cell? ⟨w4.heap.size, 1, none⟩ = some (.slice bW D.length eW) := fun o => (QW_10.out.keep (bAlloc (Below.refl _ _) o)).c1
    have QXc0 := QX_10.out.c0
    have QXc1 := QX_10.out.c1
    have QXd0 : ∀ o : Obj, (w10.alloc o).cell? ⟨w5.heap.size, 0, none⟩ = some (.slice aX S3.length cX) := fun o => (QX_10.out.keep (bAlloc (Below.refl _ _) o)).c0
    have QXd1 : ∀ o : Obj, (w10.alloc o).cell? ⟨w5.heap.size, 1, none⟩ = some (.slice bX D3.length eX) := fun o => (QX_10.out.keep (bAlloc (Below.refl _ _) o)).c1
    have QYc0 := QY_10.out.c0
    have QYc1 := QY_10.out.c1
    have QYd0 : ∀ o : Obj, (w10.alloc o).cell? ⟨w6.heap.size, 0, none⟩ = some (.slice aY S4.length cY) := fun o => (QY_10.out.keep (bAlloc (Below.refl _ _) o)).c0
    have QYd1 : ∀ o : Obj, (w10.alloc o).cell? ⟨w6.heap.size, 1, none⟩ = some (.slice bY D4.length eY) := fun o => (QY_10.out.keep (bAlloc (Below.refl _ _) o)).c1
    have QKc0 := QK_10.out.c0
    have QKc1 := QK_10.out.c1
    have QKd0 : ∀ o : Obj, (w10.alloc o).cell? ⟨w8.heap.size, 0, none⟩ = some (.slice aK 0 cK) := fun o => (QK_10.out.keep (bAlloc (Below.refl _ _) o)).c0
    have QKd1 : ∀ o : Obj, (w10.alloc o).cell? ⟨w8.heap.size, 1, none⟩ = some (.slice bK 1 eK) := fun o => (QK_10.out.keep (bAlloc (Below.refl _ _) o)).c1
    go_wp2_with fail
    refine (E5.out _ _ ((K_10.out.arrI).keep (bAlloc (Below.refl _ _) _)) _ ((N_10.out.arrI).keep (bAlloc (Below.refl _ _) _))).mono ?_
    rintro r w11 ⟨vR, rfl, ha, hb⟩
    obtain ⟨aR, cR, bR, eR, rfl, _, _, _, _⟩ := ha.arrI
    have R_11 : Hid (Arr (w10.heap.size + 1) w11.heap.size w11 (.agg #[.slice aR S5.length cR, .slice bR D5.length eR]) S5 D5) := ha.mono (by first | exact Nat.le_refl _ | simp | (simp; omega)) (Nat.le_refl _)
    clear ha
    have HB11 : Hid (Below w10.heap.size w10 w11) := bTrans (bAlloc (Below.refl _ _) _) hb
    have HT11 : Hid (Below w.heap.size w w11) := bTrans HT10.out HB11.out
    have SZ11 : Hid (w10.heap.size ≤ w11.heap.size) := HB11.out.size
    have QN_11 : Hid (Box w11 w1.heap.size (.slice a1 s.length c1) (.slice b1 d.length e1) 26) := QN_10.out.keep HB11.out
    have QG_11 : Hid (Box w11 w2.heap.size (.slice aG S.length cG) (.slice bG D.length eG) 26) := QG_10.out.keep HB11.out
    have QF_11 : Hid (Box w11 w3.heap.size (.slice aF S2.length cF) (.slice bF D2.length eF) 26) := QF_10.out.keep HB11.out
    have QW_11 : Hid (Box w11 w4.heap.size (.slice aW S.length cW) (.slice bW D.length eW) 26) := QW_10.out.keep HB11.out
    have QX_11 : Hid (Box w11 w5.heap.size (.slice aX S3.length cX) (.slice bX D3.length eX) 26) := QX_10.out.keep HB11.out
    have QY_11 : Hid (Box w11 w6.heap.size (.slice aY S4.length cY) (.slice bY D4.length eY) 26) := QY_10.out.keep HB11.out
    have QK_11 : Hid (Box w11 w8.heap.size (.slice aK 0 cK) (.slice bK 1 eK) 26) := QK_10.out.keep HB11.out
    have N_11 : Hid (Arr w.heap.size w1.heap.size w11 (.agg #[.slice a1 s.length c1, .slice b1 d.length e1]) s d) := N_10.out.keep HB11.out
    have X_11 : Hid (Arr (w4.heap.size + 1) w5.heap.size w11 (.agg #[.slice aX S3.length cX, .slice bX D3.length eX]) S3 D3) := X_10.out.keep HB11.out
    have Y_11 : Hid (Arr (w5.heap.size + 1) w6.heap.size w11 (.agg #[.slice aY S4.length cY, .slice bY D4.length eY]) S4 D4) := Y_10.out.keep HB11.out
    have K_11 : Hid (Arr w7.heap.size w8.heap.size w11 (.agg #[.slice aK 0 cK, .slice bK 1 eK]) [] [bb - 100]) := K_10.out.keep HB11.out
    have J_11 : Hid (Arr w9.heap.size w10.heap.size w11 (.agg #[.slice aJ 0 cJ, .slice bJ 1 eJ]) [] [100 - bb]) := J_10.out.keep HB11.out
    have QJ_11 : Hid (Box w11 w10.heap.size (.slice aJ 0 cJ) (.slice bJ 1 eJ) 26) := (box_new w10 _ _ _).keep hb
    have LTQJ : Hid (w10.heap.size < w11.heap.size) := QJ_11.out.lt
    clear QN_10 QG_10 QF_10 QW_10 QX_10 QY_10 QK_10 N_10 X_10 Y_10 K_10 J_10 QNc0 QNc1 QNd0 QNd1 QGc0 QGc1 QGd0 QGd1 QFc0 QFc1 QFd0 QFd1 QWc0 QWc1 QWd0 QWd1 QXc0 QXc1 QXd0 QXd1 QYc0 QYc1 QYd0 QYd1 QKc0 QKc1 QKd0 QKd1 hb
    have QNc0 := QN_11.out.c0
    have QNc1 := QN_11.out.c1
    have QNd0 : ∀ o : Obj, (w11.alloc o).cell? ⟨w1.heap.size, 0, none⟩ = some (.slice a1 s.length c1) := fun o => (QN_11.out.keep (bAlloc (Below.refl _ _) o)).c0
    have QNd1 : ∀ o : Obj, (w11.alloc o).cell? ⟨w1.heap.size, 1, none⟩ = some (.slice b1 d.length e1) := fun o => (QN_11.out.keep (bAlloc (Below.refl _ _) o)).c1
    have QGc0 := QG_11.out.c0
    have QGc1 := QG_11.out.c1
    have QGd0 : ∀ o : Obj, (w11.alloc o).cell? ⟨w2.heap.size, 0, none⟩ = some (.slice aG S.length cG) := fun o => (QG_11.out.keep (bAlloc (Below.refl _ _) o)).c0
    have QGd1 : ∀ o : Obj, (w11.alloc o).cell? ⟨w2.heap.size, 1, none⟩ = some (.slice bG D.length eG) := fun o => (QG_11.out.keep (bAlloc (Below.refl _ _) o)).c1
    have QFc0 := QF_11.out.c0
    have QFc1 := QF_11.out.c1
    have QFd0 : ∀ o : Obj, (w11.alloc o).cell? ⟨w3.heap.size, 0, none⟩ = some (.slice aF S2.length cF) := fun o => (QF_11.out.keep (bAlloc (Below.refl _ _) o)).c0
    have QFd1 : ∀ o : Obj, (w11.alloc o).cell? ⟨w3.heap.size, 1, none⟩ = some (.slice bF D2.length eF) := fun o => (QF_11.out.keep (bAlloc (Below.refl _ _) o)).c1
    have QWc0 := QW_11.out.c0
    have QWc1 := QW_11.out.c1
    have QWd0 : ∀ o : Obj, (w11.alloc o).cell? ⟨w4.heap.size, 0, none⟩ = some (.slice aW S.length cW) := fun o => (QW_11.out.keep (bAlloc (Below.refl _ _) o)).c0
    have QWd1 : ∀ o : Obj, (w11.alloc o).cell? ⟨w4.heap.size, 1, none⟩ = some (.slice bW D.length eW) := fun o => (QW_11.out.keep (bAlloc (Below.refl _ _) o)).c1
    have QXc0 := QX_11.out.c0
    have QXc1 := QX_11.out.c1
    have QXd0 : ∀ o : Obj, (w11.alloc o).cell? ⟨w5.heap.size, 0, none⟩ = some (.slice aX S3.length cX) := fun o => (QX_11.out.keep (bAlloc (Below.refl _ _) o)).c0
    have QXd1 : ∀ o : Obj, (w11.alloc o).cell? ⟨w5.heap.size, 1, none⟩ = some (.slice bX D3.length eX) := fun o => (QX_11.out.keep (bAlloc (Below.refl _ _) o)).c1
    have QYc0 := QY_11.out.c0
    have QYc1 := QY_11.out.c1
    have QYd0 : ∀ o : Obj, (w11.alloc o).cell? ⟨w6.heap.size, 0, none⟩ = some (.slice aY S4.length cY) := fun o => (QY_11.out.keep (bAlloc (Below.refl _ _) o)).c0
    have QYd1 : ∀ o : Obj, (w11.alloc o).cell? ⟨w6.heap.size, 1, none⟩ = some (.slice bY D4.length eY) := fun o => (QY_11.out.keep (bAlloc (Below.refl _ _) o)).c1
    have QKc0 := QK_11.out.c0
    have QKc1 := QK_11.out.c1
    have QKd0 : ∀ o : Obj, (w11.alloc o).cell? ⟨w8.heap.size, 0, none⟩ = some (.slice aK 0 cK) := fun o => (QK_11.out.keep (bAlloc (Below.refl _ _) o)).c0
    have QKd1 : ∀ o : Obj, (w11.alloc o).cell? ⟨w8.heap.size, 1, none⟩ = some (.slice bK 1 eK) := fun o => (QK_11.out.keep (bAlloc (Below.refl _ _) o)).c1
    have QJc0 := QJ_11.out.c0
    have QJc1 := QJ_11.out.c1
    have QJd0 : ∀ o : Obj, (w11.alloc o).cell? ⟨w10.heap.size, 0, none⟩ = some (.slice aJ 0 cJ) := fun o => (QJ_11.out.keep (bAlloc (Below.refl _ _) o)).c0
    have QJd1 : ∀ o : Obj, (w11.alloc o).cell? ⟨w10.heap.size, 1, none⟩ = some (.slice bJ 1 eJ) := fun o => (QJ_11.out.keep (bAlloc (Below.refl _ _) o)).c1
    go_wp2_with fail
    refine (E6.out _ _ ((J_11.out.arrI).keep (bAlloc (Below.refl _ _) _)) _ ((R_11.out.arrI).keep (bAlloc (Below.refl _ _) _))).mono ?_
    rintro r w12 ⟨vZ, rfl, ha, hb⟩
    obtain ⟨aZ, cZ, bZ, eZ, rfl, _, _, _, _⟩ := ha.arrI
    have Z_12 : Hid (Arr (w11.heap.size + 1) w12.heap.size w12 (.agg #[.slice aZ S6.length cZ, .slice bZ D6.length eZ]) S6 D6) := ha.mono (by first | exact Nat.le_refl _ | simp | (simp; omega)) (Nat.le_refl _)
    clear ha
    have HB12 : Hid (Below w11.heap.size w11 w12) := bTrans (bAlloc (Below.refl _ _) _) hb
    have HT12 : Hid (Below w.heap.size w w12) := bTrans HT11.out HB12.out
    have SZ12 : Hid (w11.heap.size ≤ w12.heap.size) := HB12.out.size
    have QN_12 : Hid (Box w12 w1.heap.size (.slice a1 s.length c1) (.slice b1 d.length e1) 26) := QN_11.out.keep HB12.out
    have QG_12 : Hid (Box w12 w2.heap.size (.slice aG S.length cG) (.slice bG D.length eG) 26) := QG_11.out.keep HB12.out
    have QF_12 : Hid (Box w12 w3.heap.size (.slice aF S2.length cF) (.slice bF D2.length eF) 26) := QF_11.out.keep HB12.out
    have QW_12 : Hid (Box w12 w4.heap.size (.slice aW S.length cW) (.slice bW D.length eW) 26) := QW_11.out.keep HB12.out
    have QX_12 : Hid (Box w12 w5.heap.size (.slice aX S3.length cX) (.slice bX D3.length eX) 26) := QX_11.out.keep HB12.out
    have QY_12 : Hid (Box w12 w6.heap.size (.slice aY S4.length cY) (.slice bY D4.length eY) 26) := QY_11.out.keep HB12.out
    have QK_12 : Hid (Box w12 w8.heap.size (.slice aK 0 cK) (.slice bK 1 eK) 26) := QK_11.out.keep HB12.out
    have QJ_12 : Hid (Box w12 w10.heap.size (.slice aJ 0 cJ) (.slice bJ 1 eJ) 26) := QJ_11.out.keep HB12.out
    have N_12 : Hid (Arr w.heap.size w1.heap.size w12 (.agg #[.slice a1 s.length c1, .slice b1 d.length e1]) s d) := N_11.out.keep HB12.out
    have X_12 : Hid (Arr (w4.heap.size + 1) w5.heap.size w12 (.agg #[.slice aX S3.length cX, .slice bX D3.length eX]) S3 D3) := X_11.out.keep HB12.out
    have Y_12 : Hid (Arr (w5.heap.size + 1) w6.heap.size w12 (.agg #[.slice aY S4.length cY, .slice bY D4.length eY]) S4 D4) := Y_11.out.keep HB12.out
    have J_12 : Hid (Arr w9.heap.size w10.heap.size w12 (.agg #[.slice aJ 0 cJ, .slice bJ 1 eJ]) [] [100 - bb]) := J_11.out.keep HB12.out
    have R_12 : Hid (Arr (w10.heap.size + 1) w11.heap.size w12 (.agg #[.slice aR S5.length cR, .slice bR D5.length eR]) S5 D5) := R_11.out.keep HB12.out
    have QR_12 : Hid (Box w12 w11.heap.size (.slice aR S5.length cR) (.slice bR D5.length eR) 26) := (box_new w11 _ _ _).keep hb
    have LTQR : Hid (w11.heap.size < w12.heap.size) := QR_12.out.lt
    clear QN_11 QG_11 QF_11 QW_11 QX_11 QY_11 QK_11 QJ_11 N_11 X_11 Y_11 J_11 R_11 QNc0 QNc1 QNd0 QNd1 QGc0 QGc1 QGd0 QGd1 QFc0 QFc1 QFd0 QFd1 QWc0 QWc1 QWd0 QWd1 QXc0 QXc1 QXd0 QXd1 QYc0 QYc1 QYd0 QYd1 QKc0 QKc1 QKd0 QKd1 QJc0 QJc1 QJd0 QJd1 hb
    have QNc0 := QN_12.out.c0
    have QNc1 := QN_12.out.c1
    have QNd0 : ∀ o : Obj, (w12.alloc o).cell? ⟨w1.heap.size, 0, none⟩ = some (.slice a1 s.length c1) := fun o => (QN_12.out.keep (bAlloc (Below.refl _ _) o)).c0
    have QNd1 : ∀ o : Obj, (w12.alloc o).cell? ⟨w1.heap.size, 1, none⟩ = some (.slice b1 d.length e1) := fun o => (QN_12.out.keep (bAlloc (Below.refl _ _) o)).c1
    have QGc0 := QG_12.out.c0
    have QGc1 := QG_12.out.c1
    have QGd0 : ∀ o : Obj, (w12.alloc o).cell? ⟨w2.heap.size, 0, none⟩ = some (.slice aG S.length cG) := fun o => (QG_12.out.keep (bAlloc (Below.refl _ _) o)).c0
    have QGd1 : ∀ o : Obj, (w12.alloc o).cell? ⟨w2.heap.size, 1, none⟩ = some (.slice bG D.length eG) := fun o => (QG_12.out.keep (bAlloc (Below.refl _ _) o)).c1
    have QFc0 := QF_12.out.c0
    have QFc1 := QF_12.out.c1
    have QFd0 : ∀ o : Obj, (w12.alloc o).cell? ⟨w3.heap.size, 0, none⟩ = some (.slice aF S2.length cF) := fun o => (QF_12.out.keep (bAlloc (Below.refl _ _) o)).c0
    have QFd1 : ∀ o : Obj, (w12.alloc o).cell? ⟨w3.heap.size, 1, none⟩ = some (.slice bF D2.length eF) := fun o => (QF_12.out.keep (bAlloc (Below.refl _ _) o)).c1
    have QWc0 := QW_12.out.c0
    have QWc1 := QW_12.out.c1
    have QWd0 : ∀ o : Obj, (w12.alloc o).cell? ⟨w4.heap.size, 0, none⟩ = some (.slice aW S.length cW) := fun o => (QW_12.out.keep (bAlloc (Below.refl _ _) o)).c0
    have QWd1 : ∀ o : Obj, (w12.alloc o).cell? ⟨w4.heap.size, 1, none⟩ = some (.slice bW D.length eW) := fun o => (QW_12.out.keep (bAlloc (Below.refl _ _) o)).c1
    have QXc0 := QX_12.out.c0
    have QXc1 := QX_12.out.c1
    have QXd0 : ∀ o : Obj, (w12.alloc o).cell? ⟨w5.heap.size, 0, none⟩ = some (.slice aX S3.length cX) := fun o => (QX_12.out.keep (bAlloc (Below.refl _ _) o)).c0
    have QXd1 : ∀ o : Obj, (w12.alloc o).cell? ⟨w5.heap.size, 1, none⟩ = some (.slice bX D3.length eX) := fun o => (QX_12.out.keep (bAlloc (Below.refl _ _) o)).c1
    have QYc0 := QY_12.out.c0
    have QYc1 := QY_12.out.c1
    have QYd0 : ∀ o : Obj, (w12.alloc o).cell? ⟨w6.heap.size, 0, none⟩ = some (.slice aY S4.length cY) := fun o => (QY_12.out.keep (bAlloc (Below.refl _ _) o)).c0
    have QYd1 : ∀ o : Obj, (w12.alloc o).cell? ⟨w6.heap.size, 1, none⟩ = some (.slice bY D4.length eY) := fun o => (QY_12.out.keep (bAlloc (Below.refl _ _) o)).c1
    have QKc0 := QK_12.out.c0
    have QKc1 := QK_12.out.c1
    have QKd0 : ∀ o : Obj, (w12.alloc o).cell? ⟨w8.heap.size, 0, none⟩ = some (.slice aK 0 cK) := fun o => (QK_12.out.keep (bAlloc (Below.refl _ _) o)).c0
    have QKd1 : ∀ o : Obj, (w12.alloc o).cell? ⟨w8.heap.size, 1, none⟩ = some (.slice bK 1 eK) := fun o => (QK_12.out.keep (bAlloc (Below.refl _ _) o)).c1
    have QJc0 := QJ_12.out.c0
    have QJc1 := QJ_12.out.c1
    have QJd0 : ∀ o : Obj, (w12.alloc o).cell? ⟨w10.heap.size, 0, none⟩ = some (.slice aJ 0 cJ) := fun o => (QJ_12.out.keep (bAlloc (Below.refl _ _) o)).c0
    have QJd1 : ∀ o : Obj, (w12.alloc o).cell? ⟨w10.heap.size, 1, none⟩ = some (.slice bJ 1 eJ) := fun o => (QJ_12.out.keep (bAlloc (Below.refl _ _) o)).c1
    have QRc0 := QR_12.out.c0
    have QRc1 := QR_12.out.c1
    have QRd0 : ∀ o : Obj, (w12.alloc o).cell? ⟨w11.heap.size, 0, none⟩ = some (.slice aR S5.length cR) := fun o => (QR_12.out.keep (bAlloc (Below.refl _ _) o)).c0
    have QRd1 : ∀ o : Obj, (w12.alloc o).cell? ⟨w11.heap.size, 1, none⟩ = some (.slice bR D5.length eR) := fun o => (QR_12.out.keep (bAlloc (Below.refl _ _) o)).c1
    go_wp2_with fail
    refine (SA1.out _ _ _ ((N_12.out.arrI).keep (bAlloc (Below.refl _ _) _)) ((X_12.out.arrI).keep (bAlloc (Below.refl _ _) _))).mono ?_
    rintro r w13 ⟨rfl, hb⟩
    have HB13 : Hid (Below w12.heap.size w12 w13) := bTrans (bAlloc (Below.refl _ _) _) hb
    have HT13 : Hid (Below w.heap.size w w13) := bTrans HT12.out HB13.out
    have SZ13 : Hid (w12.heap.size ≤ w13.heap.size) := HB13.out.size
    have QN_13 : Hid (Box w13 w1.heap.size (.slice a1 s.length c1) (.slice b1 d.length e1) 26) := QN_12.out.keep HB13.out
    have QG_13 : Hid (Box w13 w2.heap.size (.slice aG S.length cG) (.slice bG D.length eG) 26) := QG_12.out.keep HB13.out
    have QF_13 : Hid (Box w13 w3.heap.size (.slice aF S2.length cF) (.slice bF D2.length eF) 26) := QF_12.out.keep HB13.out
    have QW_13 : Hid (Box w13 w4.heap.size (.slice aW S.length cW) (.slice bW D.length eW) 26) := QW_12.out.keep HB13.out
    have QX_13 : Hid (Box w13 w5.heap.size (.slice aX S3.length cX) (.slice bX D3.length eX) 26) := QX_12.out.keep HB13.out
    have QY_13 : Hid (Box w13 w6.heap.size (.slice aY S4.length cY) (.slice bY D4.length eY) 26) := QY_12.out.keep HB13.out
    have QK_13 : Hid (Box w13 w8.heap.size (.slice aK 0 cK) (.slice bK 1 eK) 26) := QK_12.out.keep HB13.out
    have QJ_13 : Hid (Box w13 w10.heap.size (.slice aJ 0 cJ) (.slice bJ 1 eJ) 26) := QJ_12.out.keep HB13.out
    have QR_13 : Hid (Box w13 w11.heap.size (.slice aR S5.length cR) (.slice bR D5.length eR) 26) := QR_12.out.keep HB13.out
    have N_13 : Hid (Arr w.heap.size w1.heap.size w13 (.agg #[.slice a1 s.length c1, .slice b1 d.length e1]) s d) := N_12.out.keep HB13.out
    have X_13 : Hid (Arr (w4.heap.size + 1) w5.heap.size w13 (.agg #[.slice aX S3.length cX, .slice bX D3.length eX]) S3 D3) := X_12.out.keep HB13.out
    have Y_13 : Hid (Arr (w5.heap.size + 1) w6.heap.size w13 (.agg #[.slice aY S4.length cY, .slice bY D4.length eY]) S4 D4) := Y_12.out.keep HB13.out
    have Z_13 : Hid (Arr (w11.heap.size + 1) w12.heap.size w13 (.agg #[.slice aZ S6.length cZ, .slice bZ D6.length eZ]) S6 D6) := Z_12.out.keep HB13.out
    have QZ_13 : Hid (Box w13 w12.heap.size (.slice aZ S6.length cZ) (.slice bZ D6.length eZ) 26) := (box_new w12 _ _ _).keep hb
    have LTQZ : Hid (w12.heap.size < w13.heap.size) := QZ_13.out.lt
    clear QN_12 QG_12 QF_12 QW_12 QX_12 QY_12 QK_12 QJ_12 QR_12 N_12 X_12 Y_12 Z_12 QNc0 QNc1 QNd0 QNd1 QGc0 QGc1 QGd0 QGd1 QFc0 QFc1 QFd0 QFd1 QWc0 QWc1 QWd0 QWd1 QXc0 QXc1 QXd0 QXd1 QYc0 QYc1 QYd0 QYd1 QKc0 QKc1 QKd0 QKd1 QJc0 QJc1 QJd0 QJd1 QRc0 QRc1 QRd0 QRd1 hb
    have QNc0 := QN_13.out.c0
    have QNc1 := QN_13.out.c1
    have QGc0 := QG_13.out.c0
    have QGc1 := QG_13.out.c1
    have QFc0 := QF_13.out.c0
    have QFc1 := QF_13.out.c1
    have QWc0 := QW_13.out.c0
    have QWc1 := QW_13.out.c1
    have QXc0 := QX_13.out.c0
    have QXc1 := QX_13.out.c1
    have QYc0 := QY_13.out.c0
    have QYc1 := QY_13.out.c1
    have QKc0 := QK_13.out.c0
    have QKc1 := QK_13.out.c1
    have QJc0 := QJ_13.out.c0
    have QJc1 := QJ_13.out.c1
    have QRc0 := QR_13.out.c0
    have QRc1 := QR_13.out.c1
    have QZc0 := QZ_13.out.c0
    have QZc1 := QZ_13.out.c1
    go_wp2_with fail
    refine (SA2.out _ _ _ (N_13.out.arrI) (Y_13.out.arrI)).mono ?_
    rintro r w14 ⟨rfl, hb⟩
    have HB14 : Hid (Below w13.heap.size w13 w14) := hb
    have HT14 : Hid (Below w.heap.size w w14) := bTrans HT13.out HB14.out
    have SZ14 : Hid (w13.heap.size ≤ w14.heap.size) := HB14.out.size
    have QN_14 : Hid (Box w14 w1.heap.size (.slice a1 s.length c1) (.slice b1 d.length e1) 26) := QN_13.out.keep HB14.out
    have QG_14 : Hid (Box w14 w2.heap.size (.slice aG S.length cG) (.slice bG D.length eG) 26) := QG_13.out.keep HB14.out
    have QF_14 : Hid (Box w14 w3.heap.size (.slice aF S2.length cF) (.slice bF D2.length eF) 26) := QF_13.out.keep HB14.out
    have QW_14 : Hid (Box w14 w4.heap.size (.slice aW S.length cW) (.slice bW D.length eW) 26) := QW_13.out.keep HB14.out
    have QX_14 : Hid (Box w14 w5.heap.size (.slice aX S3.length cX) (.slice bX D3.length eX) 26) := QX_13.out.keep HB14.out
    have QY_14 : Hid (Box w14 w6.heap.size (.slice aY S4.length cY) (.slice bY D4.length eY) 26) := QY_13.out.keep HB14.out
    have QK_14 : Hid (Box w14 w8.heap.size (.slice aK 0 cK) (.slice bK 1 eK) 26) := QK_13.out.keep HB14.out
    have QJ_14 : Hid (Box w14 w10.heap.size (.slice aJ 0 cJ) (.slice bJ 1 eJ) 26) := QJ_13.out.keep HB14.out
    have QR_14 : Hid (Box w14 w11.heap.size (.slice aR S5.length cR) (.slice bR D5.length eR) 26) := QR_13.out.keep HB14.out
    have QZ_14 : Hid (Box w14 w12.heap.size (.slice aZ S6.length cZ) (.slice bZ D6.length eZ) 26) := QZ_13.out.keep HB14.out
    have N_14 : Hid (Arr w.heap.size w1.heap.size w14 (.agg #[.slice a1 s.length c1, .slice b1 d.length e1]) s d) := N_13.out.keep HB14.out
    have Y_14 : Hid (Arr (w5.heap.size + 1) w6.heap.size w14 (.agg #[.slice aY S4.length cY, .slice bY D4.length eY]) S4 D4) := Y_13.out.keep HB14.out
    have Z_14 : Hid (Arr (w11.heap.size + 1) w12.heap.size w14 (.agg #[.slice aZ S6.length cZ, .slice bZ D6.length eZ]) S6 D6) := Z_13.out.keep HB14.out
    clear QN_13 QG_13 QF_13 QW_13 QX_13 QY_13 QK_13 QJ_13 QR_13 QZ_13 N_13 Y_13 Z_13 QNc0 QNc1 QGc0 QGc1 QFc0 QFc1 QWc0 QWc1 QXc0 QXc1 QYc0 QYc1 QKc0 QKc1 QJc0 QJc1 QRc0 QRc1 QZc0 QZc1 hb
    have QNc0 := QN_14.out.c0
    have QNc1 := QN_14.out.c1
    have QGc0 := QG_14.out.c0
    have QGc1 := QG_14.out.c1
    have QFc0 := QF_14.out.c0
    have QFc1 := QF_14.out.c1
    have QWc0 := QW_14.out.c0
    have QWc1 := QW_14.out.c1
    have QXc0 := QX_14.out.c0
    have QXc1 := QX_14.out.c1
    have QYc0 := QY_14.out.c0
    have QYc1 := QY_14.out.c1
    have QKc0 := QK_14.out.c0
    have QKc1 := QK_14.out.c1
    have QJc0 := QJ_14.out.c0
    have QJc1 := QJ_14.out.c1
    have QRc0 := QR_14.out.c0
    have QRc1 := QR_14.out.c1
    have QZc0 := QZ_14.out.c0
    have QZc1 := QZ_14.out.c1
    go_wp2_with fail
    refine (SA3.out _ _ _ (N_14.out.arrI) (Z_14.out.arrI)).mono ?_
    rintro r w15 ⟨rfl, hb⟩
    have HB15 : Hid (Below w14.heap.size w14 w15) := hb
    have HT15 : Hid (Below w.heap.size w w15) := bTrans HT14.out HB15.out
    have SZ15 : Hid (w14.heap.size ≤ w15.heap.size) := HB15.out.size
    have QN_15 : Hid (Box w15 w1.heap.size (.slice a1 s.length c1) (.slice b1 d.length e1) 26) := QN_14.out.keep HB15.out
    have QG_15 : Hid (Box w15 w2.heap.size (.slice aG S.length cG) (.slice bG D.length eG) 26) := QG_14.out.keep HB15.out
    have QF_15 : Hid (Box w15 w3.heap.size (.slice aF S2.length cF) (.slice bF D2.length eF) 26) := QF_14.out.keep HB15.out
    have QW_15 : Hid (Box w15 w4.heap.size (.slice aW S.length cW) (.slice bW D.length eW) 26) := QW_14.out.keep HB15.out
    have QX_15 : Hid (Box w15 w5.heap.size (.slice aX S3.length cX) (.slice bX D3.length eX) 26) := QX_14.out.keep HB15.out
    have QY_15 : Hid (Box w15 w6.heap.size (.slice aY S4.length cY) (.slice bY D4.length eY) 26) := QY_14.out.keep HB15.out
    have QK_15 : Hid (Box w15 w8.heap.size (.slice aK 0 cK) (.slice bK 1 eK) 26) := QK_14.out.keep HB15.out
    have QJ_15 : Hid (Box w15 w10.heap.size (.slice aJ 0 cJ) (.slice bJ 1 eJ) 26) := QJ_14.out.keep HB15.out
    have QR_15 : Hid (Box w15 w11.heap.size (.slice aR S5.length cR) (.slice bR D5.length eR) 26) := QR_14.out.keep HB15.out
    have QZ_15 : Hid (Box w15 w12.heap.size (.slice aZ S6.length cZ) (.slice bZ D6.length eZ) 26) := QZ_14.out.keep HB15.out
    have N_15 : Hid (Arr w.heap.size w1.heap.size w15 (.agg #[.slice a1 s.length c1, .slice b1 d.length e1]) s d) := N_14.out.keep HB15.out
    have Z_15 : Hid (Arr (w11.heap.size + 1) w12.heap.size w15 (.agg #[.slice aZ S6.length cZ, .slice bZ D6.length eZ]) S6 D6) := Z_14.out.keep HB15.out
    clear QN_14 QG_14 QF_14 QW_14 QX_14 QY_14 QK_14 QJ_14 QR_14 QZ_14 N_14 Z_14 QNc0 QNc1 QGc0 QGc1 QFc0 QFc1 QWc0 QWc1 QXc0 QXc1 QYc0 QYc1 QKc0 QKc1 QJc0 QJc1 QRc0 QRc1 QZc0 QZc1 hb
    have QNc0 := QN_15.out.c0
    have QNc1 := QN_15.out.c1
    have QGc0 := QG_15.out.c0
    have QGc1 := QG_15.out.c1
    have QFc0 := QF_15.out.c0
    have QFc1 := QF_15.out.c1
    have QWc0 := QW_15.out.c0
    have QWc1 := QW_15.out.c1
    have QXc0 := QX_15.out.c0
    have QXc1 := QX_15.out.c1
    have QYc0 := QY_15.out.c0
    have QYc1 := QY_15.out.c1
    have QKc0 := QK_15.out.c0
    have QKc1 := QK_15.out.c1
    have QJc0 := QJ_15.out.c0
    have QJc1 := QJ_15.out.c1
    have QRc0 := QR_15.out.c0
    have QRc1 := QR_15.out.c1
    have QZc0 := QZ_15.out.c0
    have QZc1 := QZ_15.out.c1
    go_wp2
    go_ret
    exact ⟨rfl, HT15.out⟩
  · have n0 : (C2 != 0) = true := by simpa using hc
    obtain ⟨l1, l2⟩ := FB.out hc
    clear FG FB SA
    go_wp2
    go_ret
    exact ⟨rfl, bTrans HT4.out (bAlloc (Below.refl _ _) _)⟩

/-! ### THE ROW's STEP: WRITTEN OUT: LEAVE IT -/
set_option maxRecDepth 100000 in
theorem lifted (os : Os) (started : os.Started) (H : Type) (enc : TypeId × Value → H) :
    ReturnsInHanded {} Try.checked os 4 .any (Rows.fnTurnedSpec.pre6 enc Try.prog Try.f4 Rows.fnTurnedRow.domain false) (Rows.fnTurnedSpec.post enc Try.prog Try.f4 false true false false) := by
  refine returnsInHanded_of_change (C := Try.checked) own started (by kernel_rfl) Try.func4
    (ChangeSpec.witness6 (enc := enc) (C := Try.checked) false ⟨#[], #[.slice none 0 0], []⟩ 8 (by kernel_rfl) (by kernel_rfl) (by kernel_rfl) (by kernel_rfl)) ?_
  intro W base args ds gs before hval0 hW hcnd _
  have hval : ∀ (j : Nat) t v, Try.f4.params[j]? = some t → args[j]? = some v → Value.okWide Try.prog W .any base t v := hval0
  have hW' := hW
  obtain ⟨p, q, hA0, hV, rfl, hfz, hnd⟩ := hW
  have hA : DataW.TrodAll enc Try.prog W 0 (fun _ => true) true Try.f4.params.toList args.toList ds p := hA0
  rw [Try.params4] at hA hval
  obtain ⟨v0, vs0, d0, ds0, p0, q0, hargs, rfl, rfl, h0, r0⟩ := trodAll_cons hA
  obtain ⟨rfl, rfl, rfl⟩ := trodAll_nil r0
  obtain rfl : args = #[v0] := by cases args; simp_all
  obtain ⟨rfl, rfl⟩ := trodVars_none hV
  obtain ⟨a0, len0, cap0, rfl⟩ := okWide_slice Try.underlying22 (hval 0 22 v0 rfl rfl)
  have k0 := h0
  have lt0 : ∀ x ∈ p0, x.block < W.heap.size := by obtain ⟨m, hm⟩ := k0; exact DataW.trod_lt m _ _ _ hm
  obtain ⟨z0, w0⟩ : ∃ zs, IsRow .u8 W a0 len0 cap0 zs := by
    obtain ⟨fuel, hf⟩ := h0
    rcases open_ints Try.underlying22 Try.underlying5 (by kernel_rfl) hf with ⟨hcs, _⟩ | ⟨x, l, c, zs, hcs, _, hl, hm, hz, _, hcell, hwz⟩
    · simp [Value.cells] at hcs
      obtain ⟨rfl, rfl, rfl⟩ := hcs
      exact ⟨[], .inl ⟨rfl, rfl, rfl, rfl⟩⟩
    · simp [Value.cells] at hcs
      obtain ⟨rfl, rfl, rfl⟩ := hcs
      exact ⟨zs, .inr ⟨_, rfl, hl, hm, by simpa using hz, hcell, hwz⟩⟩
  clear hA0 hval0
  refine (walk a0 len0 cap0 z0 W w0).mono fun e W' ⟨he, bel⟩ => ?_
  subst he
  exact ⟨_, rfl, _, _, _, [], _, [], hW', trodAll_mk1 (shut_bool Try.underlying4 _), (trodAll_cons_mk (Below.trod laidOut (by kernel_rfl) (of_decide_eq_true (by kernel_rfl)) k0 bel lt0) trodAll_mk0), rfl, bel.frame _, fun h => by cases h⟩

theorem over : Rows.fnTurnedRow.holds Try.pinned (OpenSpec.ofChange Rows.fnTurnedSpec) :=
  OpenClaim.holds_of_wide 4 Try.f4 rfl rfl rfl rfl rfl rfl rfl ⟨rfl, rfl, rfl, rfl, rfl⟩ rfl rfl rfl rfl rfl (by kernel_rfl) Try.func4 (by kernel_rfl)
    (of_decide_eq_true (by kernel_rfl)) (by unfold Func.isWrapper; first | (rw [if_pos (by decide +kernel)]; kernel_rfl) | (rw [if_neg (by decide +kernel)]; exact ⟨rfl, rfl⟩))
    (fun os started H enc _ => lifted os started H enc)

/-- ████ THE STATEMENT ████ -/
theorem proved : Rows.FnTurnedSaid := over
end Go.Proofs.Ytlbmbjgbihljhad.fnTurned
namespace Go.Proofs.Ytlbmbjgbihljhad
theorem fnTurned_holds : Rows.FnTurnedSaid := fnTurned.proved
#print axioms fnTurned_holds
end Go.Proofs.Ytlbmbjgbihljhad
