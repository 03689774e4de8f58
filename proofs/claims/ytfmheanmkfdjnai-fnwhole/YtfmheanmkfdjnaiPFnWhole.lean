/-
  Proved: whatever code it is given, the law FnWhole returns true (all rows of a drawn array that the program picks in order are itself; in the other order it is turned). No condition.
-/
import Derived.Test.YtfmheanmkfdjnaiRows
import Derived.WalkKit
import Derived.ProofKit
import Derived.OpenShut
import Derived.ShutString
import Derived.ChangeOld
import Derived.Below
import Derived.Test.YtfmheanmkfdjnaiWholeF
import Derived.Test.YtfmheanmkfdjnaiDrawFill
import Derived.Test.YtfmheanmkfdjnaiSpecFlip
import Derived.Test.YtfmheanmkfdjnaiImplFlip
import Derived.Test.YtfmheanmkfdjnaiImplMake1
import Derived.Test.YtfmheanmkfdjnaiImplMake5
import Derived.Test.YtfmheanmkfdjnaiImplPick
import Derived.Test.YtfmheanmkfdjnaiSpecEach1
import Derived.Test.YtfmheanmkfdjnaiImplArr3
import Derived.Test.YtfmheanmkfdjnaiLaw3
namespace Go.Proofs.Ytfmheanmkfdjnai.fnWhole
open Go.ChangeShapes Go.WideShapes Go.ChangeAt Go.RowKit
open Go.ChangeMaps (open_string shut_string)
set_option linter.unusedVariables false
set_option linter.unusedSimpArgs false
set_option linter.unusedVariables false

theorem own : ownKnob Try.prog.godebug = none := by kernel_rfl
theorem laidOut : laidOutB Try.prog = true := by kernel_rfl

/-! ### STEP 1: THE WALK: the Go text returns true, AND WRITES NOTHING THAT WAS THERE: 'Below w.heap.size w w'' (Derived/Below.lean: '.refl', '.alloc', '.drew', '.setCell' at a new block, '.trans'). Open each 'IsRow' by 'rcases' AHEAD of 'go_enter'; part every test ahead of the walk. -/
set_option maxRecDepth 20000 in
set_option maxHeartbeats 8000000 in
theorem walk (a0 : Option Addr) (len0 cap0 : Nat) (z0 : List Int) (w : World) (w0 : IsRow .u8 w a0 len0 cap0 z0) :
    Calls Try.prog 5 #[.slice a0 len0 cap0] w fun e w' => e = .returned (.bool true) ∧ Below w.heap.size w w' := by
  have HS : Hid (Src w.heap.size w a0 len0) := src_of_row w0
  clear w0
  by_cases hbig : (1048576 : Int) < (len0 : Int)
  · go_enter Try.func5, Try.ntmps5
    go_wp2_with (go_at_call 6; refine (big_laws _ _ _ _).mono ?_; rintro e w' ⟨rfl, hw⟩; subst w')
    go_ret
    exact ⟨rfl, Below.refl _ _⟩
  have hb20 : len0 ≤ 1048576 := by omega
  go_enter Try.func5, Try.ntmps5
  go_wp2_with (go_at_call 6; refine (big_laws _ _ _ _).mono ?_; rintro e w' ⟨rfl, hw⟩; subst w')
  refine (drawFlip_spec HS.out hb20).mono ?_
  rintro r w1 ⟨v1, s, d, rfl, ha, hls, hld, hb⟩
  obtain ⟨a1, c1, b1, e1, rfl, _, _, _, _⟩ := ha.arrI
  have N_1 : Hid (Arr w.heap.size w1.heap.size w1 (.agg #[.slice a1 s.length c1, .slice b1 d.length e1]) s d) := ha
  have Ls : Hid (s.length ≤ 1048576) := by show _ ≤ _; omega
  have Ld : Hid (d.length ≤ 1048576) := by show _ ≤ _; omega
  have HT1 : Hid (Below w.heap.size w w1) := hb
  have SZ1 : Hid (w.heap.size ≤ w1.heap.size) := hb.size
  clear hb ha hls hld
  obtain ⟨C, hC⟩ : ∃ y, y = (flipR s d).1 := ⟨_, rfl⟩
  obtain ⟨S, hS⟩ : ∃ y, y = (flipR s d).2.1 := ⟨_, rfl⟩
  obtain ⟨D, hD⟩ : ∃ y, y = (flipR s d).2.2 := ⟨_, rfl⟩
  obtain ⟨n, hn⟩ : ∃ n, n = s.getD 0 0 := ⟨_, rfl⟩
  obtain ⟨C3, hC3⟩ : ∃ y, y = (iotaR [] [n]).1 := ⟨_, rfl⟩
  obtain ⟨S3, hS3⟩ : ∃ y, y = (iotaR [] [n]).2.1 := ⟨_, rfl⟩
  obtain ⟨D3, hD3⟩ : ∃ y, y = (iotaR [] [n]).2.2 := ⟨_, rfl⟩
  obtain ⟨C4, hC4⟩ : ∃ y, y = (turnR S3 D3).1 := ⟨_, rfl⟩
  obtain ⟨S4, hS4⟩ : ∃ y, y = (turnR S3 D3).2.1 := ⟨_, rfl⟩
  obtain ⟨D4, hD4⟩ : ∃ y, y = (turnR S3 D3).2.2 := ⟨_, rfl⟩
  obtain ⟨C5, hC5⟩ : ∃ y, y = (pickR S3 D3 s d).1 := ⟨_, rfl⟩
  obtain ⟨S5, hS5⟩ : ∃ y, y = (pickR S3 D3 s d).2.1 := ⟨_, rfl⟩
  obtain ⟨D5, hD5⟩ : ∃ y, y = (pickR S3 D3 s d).2.2 := ⟨_, rfl⟩
  obtain ⟨C6, hC6⟩ : ∃ y, y = (pickR S4 D4 s d).1 := ⟨_, rfl⟩
  obtain ⟨S6, hS6⟩ : ∃ y, y = (pickR S4 D4 s d).2.1 := ⟨_, rfl⟩
  obtain ⟨D6, hD6⟩ : ∃ y, y = (pickR S4 D4 s d).2.2 := ⟨_, rfl⟩
  obtain ⟨C7, hC7⟩ : ∃ y, y = (turnR s d).1 := ⟨_, rfl⟩
  obtain ⟨S7, hS7⟩ : ∃ y, y = (turnR s d).2.1 := ⟨_, rfl⟩
  obtain ⟨D7, hD7⟩ : ∃ y, y = (turnR s d).2.2 := ⟨_, rfl⟩
  have LA : Hid (S.length ≤ 1048576 ∧ D.length ≤ 1048576) := by show _ ∧ _; rw [hS, hD]; exact mkR_len (fun _ => by rw [List.length_reverse]; exact Ls.out) (fun _ => by simp [flipD]; exact Ld.out)
  have LB : Hid (S3.length ≤ 1048576 ∧ D3.length ≤ 1048576) := by show _ ∧ _; rw [hS3, hD3]; exact mkR_len (fun _ => by simp) (fun h => iotaD_len h)
  have LC : Hid (S4.length ≤ 1048576 ∧ D4.length ≤ 1048576) := by show _ ∧ _; rw [hS4, hD4]; exact mkR_len (fun _ => LB.out.1) (fun h => by rw [turnD_len h]; exact LB.out.2)
  have LE : Hid (S6.length ≤ 1048576 ∧ D6.length ≤ 1048576) := by show _ ∧ _; rw [hS6, hD6]; exact mkR_len (fun h => (pick_len h).1) (fun h => (pick_len h).2)
  have LF : Hid (S5.length ≤ 1048576 ∧ D5.length ≤ 1048576) := by show _ ∧ _; rw [hS5, hD5]; exact mkR_len (fun h => (pick_len h).1) (fun h => (pick_len h).2)
  have EI : Hid (∀ (W : World) (u0 : Value) (_ : ArrI W u0 s d), Calls Try.prog 20 #[u0] W fun e w' => ∃ v, e = .returned (.tuple #[v, .int .i64 C]) ∧ Arr W.heap.size w'.heap.size w' v S D ∧ Below W.heap.size W w') := by
    intro W u0 h0
    rw [hC, hS, hD]
    exact flip_impl h0 Ls.out Ld.out
  have ES : Hid (∀ (W : World) (u0 : Value) (_ : ArrI W u0 s d), Calls Try.prog 21 #[u0] W fun e w' => ∃ v, e = .returned (.tuple #[v, .int .i64 C]) ∧ Arr W.heap.size w'.heap.size w' v S D ∧ Below W.heap.size W w') := by
    intro W u0 h0
    rw [hC, hS, hD]
    exact flip_spec h0 Ls.out Ld.out
  have E3 : Hid (∀ (W : World) (u0 : Value) (_ : ArrI W u0 [] [n]), Calls Try.prog 22 #[u0] W fun e w' => ∃ v, e = .returned (.tuple #[v, .int .i64 C3]) ∧ Arr W.heap.size w'.heap.size w' v S3 D3 ∧ Below W.heap.size W w') := by
    intro W u0 h0
    rw [hC3, hS3, hD3]
    exact iota_impl h0 (by simp)
  have E4 : Hid (∀ (W : World) (u0 : Value) (_ : ArrI W u0 S3 D3), Calls Try.prog 23 #[u0] W fun e w' => ∃ v, e = .returned (.tuple #[v, .int .i64 C4]) ∧ Arr W.heap.size w'.heap.size w' v S4 D4 ∧ Below W.heap.size W w') := by
    intro W u0 h0
    rw [hC4, hS4, hD4]
    exact turn_impl h0 LB.out.1 LB.out.2
  have E5 : Hid (∀ (W : World) (u0 : Value) (_ : ArrI W u0 S3 D3) (u1 : Value) (_ : ArrI W u1 s d), Calls Try.prog 24 #[u0, u1] W fun e w' => ∃ v, e = .returned (.tuple #[v, .int .i64 C5]) ∧ Arr W.heap.size w'.heap.size w' v S5 D5 ∧ Below W.heap.size W w') := by
    intro W u0 h0 u1 h1
    rw [hC5, hS5, hD5]
    exact pick_impl h0 h1 LB.out.1 LB.out.2 Ls.out Ld.out
  have E6 : Hid (∀ (W : World) (u0 : Value) (_ : ArrI W u0 S4 D4) (u1 : Value) (_ : ArrI W u1 s d), Calls Try.prog 24 #[u0, u1] W fun e w' => ∃ v, e = .returned (.tuple #[v, .int .i64 C6]) ∧ Arr W.heap.size w'.heap.size w' v S6 D6 ∧ Below W.heap.size W w') := by
    intro W u0 h0 u1 h1
    rw [hC6, hS6, hD6]
    exact pick_impl h0 h1 LC.out.1 LC.out.2 Ls.out Ld.out
  have E7 : Hid (∀ (W : World) (u0 : Value) (_ : ArrI W u0 s d), Calls Try.prog 23 #[u0] W fun e w' => ∃ v, e = .returned (.tuple #[v, .int .i64 C7]) ∧ Arr W.heap.size w'.heap.size w' v S7 D7 ∧ Below W.heap.size W w') := by
    intro W u0 h0
    rw [hC7, hS7, hD7]
    exact turn_impl h0 Ls.out Ld.out
  have FG : Hid (C = 0 → s ≠ [] → ok n = true ∧ C3 = 0 ∧ C4 = 0 ∧ C5 = 0 ∧ C6 = 0 ∧ C7 = 0 ∧ (S5 = s ∧ D5 = d) ∧ (S6 = S7 ∧ D6 = D7)) := by
    intro h hs
    have ho : arrOk s d = true := by
      rw [hC] at h
      unfold flipR okC at h
      by_cases q : arrOk s d = true
      · exact q
      · rw [if_neg q, mkR_code] at h; cases h
    obtain ⟨q1, q2, q3, q4, q5⟩ := whole_ok ho hs
    have hb := head_bd ho
    rw [← hn] at q1 q2 q3 q4 hb
    rw [q1] at hC3 hS3 hD3
    rw [hS3, hD3, q2] at hC4 hS4 hD4
    rw [hS3, hD3, q3] at hC5 hS5 hD5
    rw [hS4, hD4, q4] at hC6 hS6 hD6
    rw [q5] at hC7 hS7 hD7
    exact ⟨by simp [ok]; omega, hC3, hC4, hC5, hC6, hC7, ⟨hS5, hD5⟩, ⟨by rw [hS6, hS7], by rw [hD6, hD7]⟩⟩
  have FB : Hid (C ≠ 0 → D.length = 0) := by
    intro h
    rw [hD]
    rw [hC] at h
    unfold flipR okC at h
    unfold flipR okC
    by_cases q : arrOk s d = true
    · rw [if_pos q, mkR_code] at h; exact absurd rfl h
    · rw [if_neg q]; rfl
  have SA : Hid (∀ (X Y P Q : List Int), X = P → Y = Q → X.length ≤ 1048576 → Y.length ≤ 1048576 → ∀ (W : World) (u v : Value), ArrI W u X Y → ArrI W v P Q → Calls Try.prog 12 #[u, v] W fun e w' => e = .returned (.bool true) ∧ Below W.heap.size W w') := fun X Y P Q hX hY l1 l2 W u v h k => by
    have q := same_arr h k l1 l2
    rw [hX, hY] at q
    simpa [hX, hY] using q
  have CN : Hid (∀ W, ArrI W (.agg #[.slice a1 s.length c1, .slice b1 d.length e1]) s d → s ≠ [] → ∃ bS oS, a1 = some ⟨bS, oS, none⟩ ∧ W.cell? ⟨bS, oS, none⟩ = some (.int .i64 n)) := fun W h hs => by
    obtain ⟨_, _, _, _, ev, j1, _, _, _⟩ := h
    cases ev
    obtain ⟨bS, oS, rfl, hbS, cS⟩ := j1.at (k := 0) (List.length_pos_iff.2 hs)
    rw [Nat.add_zero, ← hn] at cS
    exact ⟨bS, oS, rfl, cS⟩
  have hneC : (C != C) = false := by simp
  clear hC hS hD hC3 hS3 hD3 hC4 hS4 hD4 hC5 hS5 hD5 hC6 hS6 hD6 hC7 hS7 hD7 hn
  go_wp2_with fail
  refine (EI.out _ _ ((N_1.out.arrI).keep (bAlloc (Below.refl _ _) _))).mono ?_
  rintro r w2 ⟨vG, rfl, ha, hb⟩
  obtain ⟨aG, cG, bG, eG, rfl, _, _, _, _⟩ := ha.arrI
  have G_2 : Hid (Arr (w1.heap.size + 1) w2.heap.size w2 (.agg #[.slice aG S.length cG, .slice bG D.length eG]) S D) := ha.mono (by first | exact Nat.le_refl _ | simp | (simp; omega)) (Nat.le_refl _)
  clear ha
  have HB2 : Hid (Below w1.heap.size w1 w2) := bTrans (bAlloc (Below.refl _ _) _) hb
  have HT2 : Hid (Below w.heap.size w w2) := bTrans HT1.out HB2.out
  have SZ2 : Hid (w1.heap.size ≤ w2.heap.size) := HB2.out.size
  have N_2 : Hid (Arr w.heap.size w1.heap.size w2 (.agg #[.slice a1 s.length c1, .slice b1 d.length e1]) s d) := N_1.out.keep HB2.out
  have QN_2 : Hid (Box w2 w1.heap.size (.slice a1 s.length c1) (.slice b1 d.length e1) 26) := (box_new w1 _ _ _).keep hb
  have LTQN : Hid (w1.heap.size < w2.heap.size) := QN_2.out.lt
  clear N_1 hb
  have QNc0 := QN_2.out.c0
  have QNc1 := QN_2.out.c1
  have QNd0 : ∀ o : Obj, (w2.alloc o).cell? ⟨w1.heap.size, 0, none⟩ = some (.slice a1 s.length c1) := fun o => (QN_2.out.keep (bAlloc (Below.refl _ _) o)).c0
  have QNd1 : ∀ o : Obj, (w2.alloc o).cell? ⟨w1.heap.size, 1, none⟩ = some (.slice b1 d.length e1) := fun o => (QN_2.out.keep (bAlloc (Below.refl _ _) o)).c1
  go_wp2_with fail
  refine (ES.out _ _ ((N_2.out.arrI).keep (bAlloc (Below.refl _ _) _))).mono ?_
  rintro r w3 ⟨vW, rfl, ha, hb⟩
  obtain ⟨aW, cW, bW, eW, rfl, _, _, _, _⟩ := ha.arrI
  have W_3 : Hid (Arr (w2.heap.size + 1) w3.heap.size w3 (.agg #[.slice aW S.length cW, .slice bW D.length eW]) S D) := ha.mono (by first | exact Nat.le_refl _ | simp | (simp; omega)) (Nat.le_refl _)
  clear ha
  have HB3 : Hid (Below w2.heap.size w2 w3) := bTrans (bAlloc (Below.refl _ _) _) hb
  have HT3 : Hid (Below w.heap.size w w3) := bTrans HT2.out HB3.out
  have SZ3 : Hid (w2.heap.size ≤ w3.heap.size) := HB3.out.size
  have QN_3 : Hid (Box w3 w1.heap.size (.slice a1 s.length c1) (.slice b1 d.length e1) 26) := QN_2.out.keep HB3.out
  have N_3 : Hid (Arr w.heap.size w1.heap.size w3 (.agg #[.slice a1 s.length c1, .slice b1 d.length e1]) s d) := N_2.out.keep HB3.out
  have G_3 : Hid (Arr (w1.heap.size + 1) w2.heap.size w3 (.agg #[.slice aG S.length cG, .slice bG D.length eG]) S D) := G_2.out.keep HB3.out
  have QG_3 : Hid (Box w3 w2.heap.size (.slice aG S.length cG) (.slice bG D.length eG) 26) := (box_new w2 _ _ _).keep hb
  have LTQG : Hid (w2.heap.size < w3.heap.size) := QG_3.out.lt
  clear QN_2 N_2 G_2 QNc0 QNc1 QNd0 QNd1 hb
  have QNc0 := QN_3.out.c0
  have QNc1 := QN_3.out.c1
  have QNd0 : ∀ o : Obj, (w3.alloc o).cell? ⟨w1.heap.size, 0, none⟩ = some (.slice a1 s.length c1) := fun o => (QN_3.out.keep (bAlloc (Below.refl _ _) o)).c0
  have QNd1 : ∀ o : Obj, (w3.alloc o).cell? ⟨w1.heap.size, 1, none⟩ = some (.slice b1 d.length e1) := fun o => (QN_3.out.keep (bAlloc (Below.refl _ _) o)).c1
  have QGc0 := QG_3.out.c0
  have QGc1 := QG_3.out.c1
  have QGd0 : ∀ o : Obj, (w3.alloc o).cell? ⟨w2.heap.size, 0, none⟩ = some (.slice aG S.length cG) := fun o => (QG_3.out.keep (bAlloc (Below.refl _ _) o)).c0
  have QGd1 : ∀ o : Obj, (w3.alloc o).cell? ⟨w2.heap.size, 1, none⟩ = some (.slice bG D.length eG) := fun o => (QG_3.out.keep (bAlloc (Below.refl _ _) o)).c1
  by_cases hc : C = 0
  · by_cases hs0 : s = []
    · have n1 : ((s.length : Int) == 0) = true := by simp [hs0]
      subst hc
      clear FG FB SA CN hs0
      go_wp2
      go_ret
      exact ⟨rfl, bTrans HT3.out (bAlloc (Below.refl _ _) _)⟩
    · have n1 : ((s.length : Int) == 0) = false := by simpa using hs0
      have hp0 : (0 : Int) < (s.length : Int) := by have := List.length_pos_iff.2 hs0; omega
      obtain ⟨okn, x3, x4, x5, x6, x7, ⟨y1, y2⟩, ⟨y3, y4⟩⟩ := FG.out hc hs0
      subst hc x3 x4 x5 x6 x7
      have SA1 : Hid (∀ (W : World) (u v : Value), ArrI W u S5 D5 → ArrI W v s d → Calls Try.prog 12 #[u, v] W fun e w' => e = .returned (.bool true) ∧ Below W.heap.size W w') := SA.out _ _ _ _ y1 y2 LF.out.1 LF.out.2
      have SA2 : Hid (∀ (W : World) (u v : Value), ArrI W u S6 D6 → ArrI W v S7 D7 → Calls Try.prog 12 #[u, v] W fun e w' => e = .returned (.bool true) ∧ Below W.heap.size W w') := SA.out _ _ _ _ y3 y4 LE.out.1 LE.out.2
      have SK : Hid (∀ W, Calls Try.prog 16 #[.int .i64 n] W fun e w' => ∃ v, e = .returned (.tuple #[v, .bool true]) ∧ Arr W.heap.size w'.heap.size w' v [] [n] ∧ Below W.heap.size W w') := fun W => by
        have q := scalarOf_impl n W
        rw [okn, if_pos rfl] at q
        exact q
      obtain ⟨bS, oS, rfl, cS⟩ := CN.out _ N_3.out.arrI hs0
      have cSd : ∀ o : Obj, (w3.alloc o).cell? ⟨bS, oS, none⟩ = some (.int .i64 n) := fun o => (Below.cell (B := w3.heap.size) (bAlloc (Below.refl _ _) o) (p := ⟨bS, oS, none⟩) (World.block_lt_of_cell? _ _ cS)).trans cS
      clear FG FB SA CN hs0 y1 y2 y3 y4
      go_wp2_with fail
      refine (SK.out _).mono ?_
      rintro r w4 ⟨vK, rfl, ha, hb⟩
      obtain ⟨aK, cK, bK, eK, rfl, _, _, _, _⟩ := ha.arrI
      have K_4 : Hid (Arr (w3.heap.size + 1) w4.heap.size w4 (.agg #[.slice aK 0 cK, .slice bK 1 eK]) [] [n]) := ha.mono (by first | exact Nat.le_refl _ | simp | (simp; omega)) (Nat.le_refl _)
      clear ha
      have HB4 : Hid (Below w3.heap.size w3 w4) := bTrans (bAlloc (Below.refl _ _) _) hb
      have HT4 : Hid (Below w.heap.size w w4) := bTrans HT3.out HB4.out
      have SZ4 : Hid (w3.heap.size ≤ w4.heap.size) := HB4.out.size
      have QN_4 : Hid (Box w4 w1.heap.size (.slice (some ⟨bS, oS, none⟩) s.length c1) (.slice b1 d.length e1) 26) := QN_3.out.keep HB4.out
      have QG_4 : Hid (Box w4 w2.heap.size (.slice aG S.length cG) (.slice bG D.length eG) 26) := QG_3.out.keep HB4.out
      have N_4 : Hid (Arr w.heap.size w1.heap.size w4 (.agg #[.slice (some ⟨bS, oS, none⟩) s.length c1, .slice b1 d.length e1]) s d) := N_3.out.keep HB4.out
      have G_4 : Hid (Arr (w1.heap.size + 1) w2.heap.size w4 (.agg #[.slice aG S.length cG, .slice bG D.length eG]) S D) := G_3.out.keep HB4.out
      have QW_4 : Hid (Box w4 w3.heap.size (.slice aW S.length cW) (.slice bW D.length eW) 26) := (box_new w3 _ _ _).keep hb
      have LTQW : Hid (w3.heap.size < w4.heap.size) := QW_4.out.lt
      clear QN_3 QG_3 N_3 G_3 QNc0 QNc1 QNd0 QNd1 QGc0 QGc1 QGd0 QGd1 hb
      have QNc0 := QN_4.out.c0
      have QNc1 := QN_4.out.c1
      have QNd0 : ∀ o : Obj, (w4.alloc o).cell? ⟨w1.heap.size, 0, none⟩ = some (.slice (some ⟨bS, oS, none⟩) s.length c1) := fun o => (QN_4.out.keep (bAlloc (Below.refl _ _) o)).c0
      have QNd1 : ∀ o : Obj, (w4.alloc o).cell? ⟨w1.heap.size, 1, none⟩ = some (.slice b1 d.length e1) := fun o => (QN_4.out.keep (bAlloc (Below.refl _ _) o)).c1
      have QGc0 := QG_4.out.c0
      have QGc1 := QG_4.out.c1
      have QGd0 : ∀ o : Obj, (w4.alloc o).cell? ⟨w2.heap.size, 0, none⟩ = some (.slice aG S.length cG) := fun o => (QG_4.out.keep (bAlloc (Below.refl _ _) o)).c0
      have QGd1 : ∀ o : Obj, (w4.alloc o).cell? ⟨w2.heap.size, 1, none⟩ = some (.slice bG D.length eG) := fun o => (QG_4.out.keep (bAlloc (Below.refl _ _) o)).c1
      have QWc0 := QW_4.out.c0
      have QWc1 := QW_4.out.c1
      have QWd0 : ∀ o : Obj, (w4.alloc o).cell? ⟨w3.heap.size, 0, none⟩ = some (.slice aW S.length cW) := fun o => (QW_4.out.keep (bAlloc (Below.refl _ _) o)).c0
      have QWd1 : ∀ o : Obj, (w4.alloc o).cell? ⟨w3.heap.size, 1, none⟩ = some (.slice bW D.length eW) := fun o => (QW_4.out.keep (bAlloc (Below.refl _ _) o)).c1
      go_wp2_with fail
      refine (E3.out _ _ ((K_4.out.arrI).keep (bAlloc (Below.refl _ _) _))).mono ?_
      rintro r w5 ⟨vI, rfl, ha, hb⟩
      obtain ⟨aI, cI, bI, eI, rfl, _, _, _, _⟩ := ha.arrI
      have I_5 : Hid (Arr (w4.heap.size + 1) w5.heap.size w5 (.agg #[.slice aI S3.length cI, .slice bI D3.length eI]) S3 D3) := ha.mono (by first | exact Nat.le_refl _ | simp | (simp; omega)) (Nat.le_refl _)
      clear ha
      have HB5 : Hid (Below w4.heap.size w4 w5) := bTrans (bAlloc (Below.refl _ _) _) hb
      have HT5 : Hid (Below w.heap.size w w5) := bTrans HT4.out HB5.out
      have SZ5 : Hid (w4.heap.size ≤ w5.heap.size) := HB5.out.size
      have QN_5 : Hid (Box w5 w1.heap.size (.slice (some ⟨bS, oS, none⟩) s.length c1) (.slice b1 d.length e1) 26) := QN_4.out.keep HB5.out
      have QG_5 : Hid (Box w5 w2.heap.size (.slice aG S.length cG) (.slice bG D.length eG) 26) := QG_4.out.keep HB5.out
      have QW_5 : Hid (Box w5 w3.heap.size (.slice aW S.length cW) (.slice bW D.length eW) 26) := QW_4.out.keep HB5.out
      have N_5 : Hid (Arr w.heap.size w1.heap.size w5 (.agg #[.slice (some ⟨bS, oS, none⟩) s.length c1, .slice b1 d.length e1]) s d) := N_4.out.keep HB5.out
      have G_5 : Hid (Arr (w1.heap.size + 1) w2.heap.size w5 (.agg #[.slice aG S.length cG, .slice bG D.length eG]) S D) := G_4.out.keep HB5.out
      have K_5 : Hid (Arr (w3.heap.size + 1) w4.heap.size w5 (.agg #[.slice aK 0 cK, .slice bK 1 eK]) [] [n]) := K_4.out.keep HB5.out
      have QK_5 : Hid (Box w5 w4.heap.size (.slice aK 0 cK) (.slice bK 1 eK) 26) := (box_new w4 _ _ _).keep hb
      have LTQK : Hid (w4.heap.size < w5.heap.size) := QK_5.out.lt
      clear QN_4 QG_4 QW_4 N_4 G_4 K_4 QNc0 QNc1 QNd0 QNd1 QGc0 QGc1 QGd0 QGd1 QWc0 QWc1 QWd0 QWd1 hb
      have QNc0 := QN_5.out.c0
      have QNc1 := QN_5.out.c1
      have QNd0 : ∀ o : Obj, (w5.alloc o).cell? ⟨w1.heap.size, 0, none⟩ = some (.slice (some ⟨bS, oS, none⟩) s.length c1) := fun o => (QN_5.out.keep (bAlloc (Below.refl _ _) o)).c0
      have QNd1 : ∀ o : Obj, (w5.alloc o).cell? ⟨w1.heap.size, 1, none⟩ = some (.slice b1 d.length e1) := fun o => (QN_5.out.keep (bAlloc (Below.refl _ _) o)).c1
      have QGc0 := QG_5.out.c0
      have QGc1 := QG_5.out.c1
      have QGd0 : ∀ o : Obj, (w5.alloc o).cell? ⟨w2.heap.size, 0, none⟩ = some (.slice aG S.length cG) := fun o => (QG_5.out.keep (bAlloc (Below.refl _ _) o)).c0
      have QGd1 : ∀ o : Obj, (w5.alloc o).cell? ⟨w2.heap.size, 1, none⟩ = some (.slice bG D.length eG) := fun o => (QG_5.out.keep (bAlloc (Below.refl _ _) o)).c1
      have QWc0 := QW_5.out.c0
      have QWc1 := QW_5.out.c1
      have QWd0 : ∀ o : Obj, (w5.alloc o).cell? ⟨w3.heap.size, 0, none⟩ = some (.slice aW S.length cW) := fun o => (QW_5.out.keep (bAlloc (Below.refl _ _) o)).c0
      have QWd1 : ∀ o : Obj, (w5.alloc o).cell? ⟨w3.heap.size, 1, none⟩ = some (.slice bW D.length eW) := fun o => (QW_5.out.keep (bAlloc (Below.refl _ _) o)).c1
      have QKc0 := QK_5.out.c0
      have QKc1 := QK_5.out.c1
      have QKd0 : ∀ o : Obj, (w5.alloc o).cell? ⟨w4.heap.size, 0, none⟩ = some (.slice aK 0 cK) := fun o => (QK_5.out.keep (bAlloc (Below.refl _ _) o)).c0
      have QKd1 : ∀ o : Obj, (w5.alloc o).cell? ⟨w4.heap.size, 1, none⟩ = some (.slice bK 1 eK) := fun o => (QK_5.out.keep (bAlloc (Below.refl _ _) o)).c1
      go_wp2_with fail
      refine (E4.out _ _ ((I_5.out.arrI).keep (bAlloc (Below.refl _ _) _))).mono ?_
      rintro r w6 ⟨vR, rfl, ha, hb⟩
      obtain ⟨aR, cR, bR, eR, rfl, _, _, _, _⟩ := ha.arrI
      have R_6 : Hid (Arr (w5.heap.size + 1) w6.heap.size w6 (.agg #[.slice aR S4.length cR, .slice bR D4.length eR]) S4 D4) := ha.mono (by first | exact Nat.le_refl _ | simp | (simp; omega)) (Nat.le_refl _)
      clear ha
      have HB6 : Hid (Below w5.heap.size w5 w6) := bTrans (bAlloc (Below.refl _ _) _) hb
      have HT6 : Hid (Below w.heap.size w w6) := bTrans HT5.out HB6.out
      have SZ6 : Hid (w5.heap.size ≤ w6.heap.size) := HB6.out.size
      have QN_6 : Hid (Box w6 w1.heap.size (.slice (some ⟨bS, oS, none⟩) s.length c1) (.slice b1 d.length e1) 26) := QN_5.out.keep HB6.out
      have QG_6 : Hid (Box w6 w2.heap.size (.slice aG S.length cG) (.slice bG D.length eG) 26) := QG_5.out.keep HB6.out
      have QW_6 : Hid (Box w6 w3.heap.size (.slice aW S.length cW) (.slice bW D.length eW) 26) := QW_5.out.keep HB6.out
      have QK_6 : Hid (Box w6 w4.heap.size (.slice aK 0 cK) (.slice bK 1 eK) 26) := QK_5.out.keep HB6.out
      have N_6 : Hid (Arr w.heap.size w1.heap.size w6 (.agg #[.slice (some ⟨bS, oS, none⟩) s.length c1, .slice b1 d.length e1]) s d) := N_5.out.keep HB6.out
      have G_6 : Hid (Arr (w1.heap.size + 1) w2.heap.size w6 (.agg #[.slice aG S.length cG, .slice bG D.length eG]) S D) := G_5.out.keep HB6.out
      have I_6 : Hid (Arr (w4.heap.size + 1) w5.heap.size w6 (.agg #[.slice aI S3.length cI, .slice bI D3.length eI]) S3 D3) := I_5.out.keep HB6.out
      have QI_6 : Hid (Box w6 w5.heap.size (.slice aI S3.length cI) (.slice bI D3.length eI) 26) := (box_new w5 _ _ _).keep hb
      have LTQI : Hid (w5.heap.size < w6.heap.size) := QI_6.out.lt
      clear QN_5 QG_5 QW_5 QK_5 N_5 G_5 I_5 QNc0 QNc1 QNd0 QNd1 QGc0 QGc1 QGd0 QGd1 QWc0 QWc1 QWd0 QWd1 QKc0 QKc1 QKd0 QKd1 hb
      have QNc0 := QN_6.out.c0
      have QNc1 := QN_6.out.c1
      have QNd0 : ∀ o : Obj, (w6.alloc o).cell? ⟨w1.heap.size, 0, none⟩ = some (.slice (some ⟨bS, oS, none⟩) s.length c1) := fun o => (QN_6.out.keep (bAlloc (Below.refl _ _) o)).c0
      have QNd1 : ∀ o : Obj, (w6.alloc o).cell? ⟨w1.heap.size, 1, none⟩ = some (.slice b1 d.length e1) := fun o => (QN_6.out.keep (bAlloc (Below.refl _ _) o)).c1
      have QGc0 := QG_6.out.c0
      have QGc1 := QG_6.out.c1
      have QGd0 : ∀ o : Obj, (w6.alloc o).cell? ⟨w2.heap.size, 0, none⟩ = some (.slice aG S.length cG) := fun o => (QG_6.out.keep (bAlloc (Below.refl _ _) o)).c0
      have QGd1 : ∀ o : Obj, (w6.alloc o).cell? ⟨w2.heap.size, 1, none⟩ = some (.slice bG D.length eG) := fun o => (QG_6.out.keep (bAlloc (Below.refl _ _) o)).c1
      have QWc0 := QW_6.out.c0
      have QWc1 := QW_6.out.c1
      have QWd0 : ∀ o : Obj, (w6.alloc o).cell? ⟨w3.heap.size, 0, none⟩ = some (.slice aW S.length cW) := fun o => (QW_6.out.keep (bAlloc (Below.refl _ _) o)).c0
      have QWd1 : ∀ o : Obj, (w6.alloc o).cell? ⟨w3.heap.size, 1, none⟩ = some (.slice bW D.length eW) := fun o => (QW_6.out.keep (bAlloc (Below.refl _ _) o)).c1
      have QKc0 := QK_6.out.c0
      have QKc1 := QK_6.out.c1
      have QKd0 : ∀ o : Obj, (w6.alloc o).cell? ⟨w4.heap.size, 0, none⟩ = some (.slice aK 0 cK) := fun o => (QK_6.out.keep (bAlloc (Below.refl _ _) o)).c0
      have QKd1 : ∀ o : Obj, (w6.alloc o).cell? ⟨w4.heap.size, 1, none⟩ = some (.slice bK 1 eK) := fun o => (QK_6.out.keep (bAlloc (Below.refl _ _) o)).c1
      have QIc0 := QI_6.out.c0
      have QIc1 := QI_6.out.c1
      have QId0 : ∀ o : Obj, (w6.alloc o).cell? ⟨w5.heap.size, 0, none⟩ = some (.slice aI S3.length cI) := fun o => (QI_6.out.keep (bAlloc (Below.refl _ _) o)).c0
      have QId1 : ∀ o : Obj, (w6.alloc o).cell? ⟨w5.heap.size, 1, none⟩ = some (.slice bI D3.length eI) := fun o => (QI_6.out.keep (bAlloc (Below.refl _ _) o)).c1
      go_wp2_with fail
      refine (E5.out _ _ ((I_6.out.arrI).keep (bAlloc (Below.refl _ _) _)) _ ((N_6.out.arrI).keep (bAlloc (Below.refl _ _) _))).mono ?_
      rintro r w7 ⟨vB, rfl, ha, hb⟩
      obtain ⟨aB, cB, bB, eB, rfl, _, _, _, _⟩ := ha.arrI
      have B_7 : Hid (Arr (w6.heap.size + 1) w7.heap.size w7 (.agg #[.slice aB S5.length cB, .slice bB D5.length eB]) S5 D5) := ha.mono (by first | exact Nat.le_refl _ | simp | (simp; omega)) (Nat.le_refl _)
      clear ha
      have HB7 : Hid (Below w6.heap.size w6 w7) := bTrans (bAlloc (Below.refl _ _) _) hb
      have HT7 : Hid (Below w.heap.size w w7) := bTrans HT6.out HB7.out
      have SZ7 : Hid (w6.heap.size ≤ w7.heap.size) := HB7.out.size
      have QN_7 : Hid (Box w7 w1.heap.size (.slice (some ⟨bS, oS, none⟩) s.length c1) (.slice b1 d.length e1) 26) := QN_6.out.keep HB7.out
      have QG_7 : Hid (Box w7 w2.heap.size (.slice aG S.length cG) (.slice bG D.length eG) 26) := QG_6.out.keep HB7.out
      have QW_7 : Hid (Box w7 w3.heap.size (.slice aW S.length cW) (.slice bW D.length eW) 26) := QW_6.out.keep HB7.out
      have QK_7 : Hid (Box w7 w4.heap.size (.slice aK 0 cK) (.slice bK 1 eK) 26) := QK_6.out.keep HB7.out
      have QI_7 : Hid (Box w7 w5.heap.size (.slice aI S3.length cI) (.slice bI D3.length eI) 26) := QI_6.out.keep HB7.out
      have N_7 : Hid (Arr w.heap.size w1.heap.size w7 (.agg #[.slice (some ⟨bS, oS, none⟩) s.length c1, .slice b1 d.length e1]) s d) := N_6.out.keep HB7.out
      have G_7 : Hid (Arr (w1.heap.size + 1) w2.heap.size w7 (.agg #[.slice aG S.length cG, .slice bG D.length eG]) S D) := G_6.out.keep HB7.out
      have I_7 : Hid (Arr (w4.heap.size + 1) w5.heap.size w7 (.agg #[.slice aI S3.length cI, .slice bI D3.length eI]) S3 D3) := I_6.out.keep HB7.out
      have R_7 : Hid (Arr (w5.heap.size + 1) w6.heap.size w7 (.agg #[.slice aR S4.length cR, .slice bR D4.length eR]) S4 D4) := R_6.out.keep HB7.out
      have QR_7 : Hid (Box w7 w6.heap.size (.slice aR S4.length cR) (.slice bR D4.length eR) 26) := (box_new w6 _ _ _).keep hb
      have LTQR : Hid (w6.heap.size < w7.heap.size) := QR_7.out.lt
      clear QN_6 QG_6 QW_6 QK_6 QI_6 N_6 G_6 I_6 R_6 QNc0 QNc1 QNd0 QNd1 QGc0 QGc1 QGd0 QGd1 QWc0 QWc1 QWd0 QWd1 QKc0 QKc1 QKd0 QKd1 QIc0 QIc1 QId0 QId1 hb
      have QNc0 := QN_7.out.c0
      have QNc1 := QN_7.out.c1
      have QNd0 : ∀ o : Obj, (w7.alloc o).cell? ⟨w1.heap.size, 0, none⟩ = some (.slice (some ⟨bS, oS, none⟩) s.length c1) := fun o => (QN_7.out.keep (bAlloc (Below.refl _ _) o)).c0
      have QNd1 : ∀ o : Obj, (w7.alloc o).cell? ⟨w1.heap.size, 1, none⟩ = some (.slice b1 d.length e1) := fun o => (QN_7.out.keep (bAlloc (Below.refl _ _) o)).c1
      have QGc0 := QG_7.out.c0
      have QGc1 := QG_7.out.c1
      have QGd0 : ∀ o : Obj, (w7.alloc o).cell? ⟨w2.heap.size, 0, none⟩ = some (.slice aG S.length cG) := fun o => (QG_7.out.keep (bAlloc (Below.refl _ _) o)).c0
      have QGd1 : ∀ o : Obj, (w7.alloc o).cell? ⟨w2.heap.size, 1, none⟩ = some (.slice bG D.length eG) := fun o => (QG_7.out.keep (bAlloc (Below.refl _ _) o)).c1
      have QWc0 := QW_7.out.c0
      have QWc1 := QW_7.out.c1
      have QWd0 : ∀ o : Obj, (w7.alloc o).cell? ⟨w3.heap.size, 0, none⟩ = some (.slice aW S.length cW) := fun o => (QW_7.out.keep (bAlloc (Below.refl _ _) o)).c0
      have QWd1 : ∀ o : Obj, (w7.alloc o).cell? ⟨w3.heap.size, 1, none⟩ = some (.slice bW D.length eW) := fun o => (QW_7.out.keep (bAlloc (Below.refl _ _) o)).c1
      have QKc0 := QK_7.out.c0
      have QKc1 := QK_7.out.c1
      have QKd0 : ∀ o : Obj, (w7.alloc o).cell? ⟨w4.heap.size, 0, none⟩ = some (.slice aK 0 cK) := fun o => (QK_7.out.keep (bAlloc (Below.refl _ _) o)).c0
      have QKd1 : ∀ o : Obj, (w7.alloc o).cell? ⟨w4.heap.size, 1, none⟩ = some (.slice bK 1 eK) := fun o => (QK_7.out.keep (bAlloc (Below.refl _ _) o)).c1
      have QIc0 := QI_7.out.c0
      have QIc1 := QI_7.out.c1
      have QId0 : ∀ o : Obj, (w7.alloc o).cell? ⟨w5.heap.size, 0, none⟩ = some (.slice aI S3.length cI) := fun o => (QI_7.out.keep (bAlloc (Below.refl _ _) o)).c0
      have QId1 : ∀ o : Obj, (w7.alloc o).cell? ⟨w5.heap.size, 1, none⟩ = some (.slice bI D3.length eI) := fun o => (QI_7.out.keep (bAlloc (Below.refl _ _) o)).c1
      have QRc0 := QR_7.out.c0
      have QRc1 := QR_7.out.c1
      have QRd0 : ∀ o : Obj, (w7.alloc o).cell? ⟨w6.heap.size, 0, none⟩ = some (.slice aR S4.length cR) := fun o => (QR_7.out.keep (bAlloc (Below.refl _ _) o)).c0
      have QRd1 : ∀ o : Obj, (w7.alloc o).cell? ⟨w6.heap.size, 1, none⟩ = some (.slice bR D4.length eR) := fun o => (QR_7.out.keep (bAlloc (Below.refl _ _) o)).c1
      go_wp2_with fail
      refine (E6.out _ _ ((R_7.out.arrI).keep (bAlloc (Below.refl _ _) _)) _ ((N_7.out.arrI).keep (bAlloc (Below.refl _ _) _))).mono ?_
      rintro r w8 ⟨vY, rfl, ha, hb⟩
      obtain ⟨aY, cY, bY, eY, rfl, _, _, _, _⟩ := ha.arrI
      have Y_8 : Hid (Arr (w7.heap.size + 1) w8.heap.size w8 (.agg #[.slice aY S6.length cY, .slice bY D6.length eY]) S6 D6) := ha.mono (by first | exact Nat.le_refl _ | simp | (simp; omega)) (Nat.le_refl _)
      clear ha
      have HB8 : Hid (Below w7.heap.size w7 w8) := bTrans (bAlloc (Below.refl _ _) _) hb
      have HT8 : Hid (Below w.heap.size w w8) := bTrans HT7.out HB8.out
      have SZ8 : Hid (w7.heap.size ≤ w8.heap.size) := HB8.out.size
      have QN_8 : Hid (Box w8 w1.heap.size (.slice (some ⟨bS, oS, none⟩) s.length c1) (.slice b1 d.length e1) 26) := QN_7.out.keep HB8.out
      have QG_8 : Hid (Box w8 w2.heap.size (.slice aG S.length cG) (.slice bG D.length eG) 26) := QG_7.out.keep HB8.out
      have QW_8 : Hid (Box w8 w3.heap.size (.slice aW S.length cW) (.slice bW D.length eW) 26) := QW_7.out.keep HB8.out
      have QK_8 : Hid (Box w8 w4.heap.size (.slice aK 0 cK) (.slice bK 1 eK) 26) := QK_7.out.keep HB8.out
      have QI_8 : Hid (Box w8 w5.heap.size (.slice aI S3.length cI) (.slice bI D3.length eI) 26) := QI_7.out.keep HB8.out
      have QR_8 : Hid (Box w8 w6.heap.size (.slice aR S4.length cR) (.slice bR D4.length eR) 26) := QR_7.out.keep HB8.out
      have N_8 : Hid (Arr w.heap.size w1.heap.size w8 (.agg #[.slice (some ⟨bS, oS, none⟩) s.length c1, .slice b1 d.length e1]) s d) := N_7.out.keep HB8.out
      have G_8 : Hid (Arr (w1.heap.size + 1) w2.heap.size w8 (.agg #[.slice aG S.length cG, .slice bG D.length eG]) S D) := G_7.out.keep HB8.out
      have R_8 : Hid (Arr (w5.heap.size + 1) w6.heap.size w8 (.agg #[.slice aR S4.length cR, .slice bR D4.length eR]) S4 D4) := R_7.out.keep HB8.out
      have B_8 : Hid (Arr (w6.heap.size + 1) w7.heap.size w8 (.agg #[.slice aB S5.length cB, .slice bB D5.length eB]) S5 D5) := B_7.out.keep HB8.out
      have QB_8 : Hid (Box w8 w7.heap.size (.slice aB S5.length cB) (.slice bB D5.length eB) 26) := (box_new w7 _ _ _).keep hb
      have LTQB : Hid (w7.heap.size < w8.heap.size) := QB_8.out.lt
      clear QN_7 QG_7 QW_7 QK_7 QI_7 QR_7 N_7 G_7 R_7 B_7 QNc0 QNc1 QNd0 QNd1 QGc0 QGc1 QGd0 QGd1 QWc0 QWc1 QWd0 QWd1 QKc0 QKc1 QKd0 QKd1 QIc0 QIc1 QId0 QId1 QRc0 QRc1 QRd0 QRd1 hb
      have QNc0 := QN_8.out.c0
      have QNc1 := QN_8.out.c1
      have QNd0 : ∀ o : Obj, (w8.alloc o).cell? ⟨w1.heap.size, 0, none⟩ = some (.slice (some ⟨bS, oS, none⟩) s.length c1) := fun o => (QN_8.out.keep (bAlloc (Below.refl _ _) o)).c0
      have QNd1 : ∀ o : Obj, (w8.alloc o).cell? ⟨w1.heap.size, 1, none⟩ = some (.slice b1 d.length e1) := fun o => (QN_8.out.keep (bAlloc (Below.refl _ _) o)).c1
      have QGc0 := QG_8.out.c0
      have QGc1 := QG_8.out.c1
      have QGd0 : ∀ o : Obj, (w8.alloc o).cell? ⟨w2.heap.size, 0, none⟩ = some (.slice aG S.length cG) := fun o => (QG_8.out.keep (bAlloc (Below.refl _ _) o)).c0
      have QGd1 : ∀ o : Obj, (w8.alloc o).cell? ⟨w2.heap.size, 1, none⟩ = some (.slice bG D.length eG) := fun o => (QG_8.out.keep (bAlloc (Below.refl _ _) o)).c1
      have QWc0 := QW_8.out.c0
      have QWc1 := QW_8.out.c1
      have QWd0 : ∀ o : Obj, (w8.alloc o).cell? ⟨w3.heap.size, 0, none⟩ = some (.slice aW S.length cW) := fun o => (QW_8.out.keep (bAlloc (Below.refl _ _) o)).c0
      have QWd1 : ∀ o : Obj, (w8.alloc o).cell? ⟨w3.heap.size, 1, none⟩ = some (.slice bW D.length eW) := fun o => (QW_8.out.keep (bAlloc (Below.refl _ _) o)).c1
      have QKc0 := QK_8.out.c0
      have QKc1 := QK_8.out.c1
      have QKd0 : ∀ o : Obj, (w8.alloc o).cell? ⟨w4.heap.size, 0, none⟩ = some (.slice aK 0 cK) := fun o => (QK_8.out.keep (bAlloc (Below.refl _ _) o)).c0
      have QKd1 : ∀ o : Obj, (w8.alloc o).cell? ⟨w4.heap.size, 1, none⟩ = some (.slice bK 1 eK) := fun o => (QK_8.out.keep (bAlloc (Below.refl _ _) o)).c1
      have QIc0 := QI_8.out.c0
      have QIc1 := QI_8.out.c1
      have QId0 : ∀ o : Obj, (w8.alloc o).cell? ⟨w5.heap.size, 0, none⟩ = some (.slice aI S3.length cI) := fun o => (QI_8.out.keep (bAlloc (Below.refl _ _) o)).c0
      have QId1 : ∀ o : Obj, (w8.alloc o).cell? ⟨w5.heap.size, 1, none⟩ = some (.slice bI D3.length eI) := fun o => (QI_8.out.keep (bAlloc (Below.refl _ _) o)).c1
      have QRc0 := QR_8.out.c0
      have QRc1 := QR_8.out.c1
      have QRd0 : ∀ o : Obj, (w8.alloc o).cell? ⟨w6.heap.size, 0, none⟩ = some (.slice aR S4.length cR) := fun o => (QR_8.out.keep (bAlloc (Below.refl _ _) o)).c0
      have QRd1 : ∀ o : Obj, (w8.alloc o).cell? ⟨w6.heap.size, 1, none⟩ = some (.slice bR D4.length eR) := fun o => (QR_8.out.keep (bAlloc (Below.refl _ _) o)).c1
      have QBc0 := QB_8.out.c0
      have QBc1 := QB_8.out.c1
      have QBd0 : ∀ o : Obj, (w8.alloc o).cell? ⟨w7.heap.size, 0, none⟩ = some (.slice aB S5.length cB) := fun o => (QB_8.out.keep (bAlloc (Below.refl _ _) o)).c0
      have QBd1 : ∀ o : Obj, (w8.alloc o).cell? ⟨w7.heap.size, 1, none⟩ = some (.slice bB D5.length eB) := fun o => (QB_8.out.keep (bAlloc (Below.refl _ _) o)).c1
      go_wp2_with fail
      refine (E7.out _ _ ((N_8.out.arrI).keep (bAlloc (Below.refl _ _) _))).mono ?_
      rintro r w9 ⟨vZ, rfl, ha, hb⟩
      obtain ⟨aZ, cZ, bZ, eZ, rfl, _, _, _, _⟩ := ha.arrI
      have Z_9 : Hid (Arr (w8.heap.size + 1) w9.heap.size w9 (.agg #[.slice aZ S7.length cZ, .slice bZ D7.length eZ]) S7 D7) := ha.mono (by first | exact Nat.le_refl _ | simp | (simp; omega)) (Nat.le_refl _)
      clear ha
      have HB9 : Hid (Below w8.heap.size w8 w9) := bTrans (bAlloc (Below.refl _ _) _) hb
      have HT9 : Hid (Below w.heap.size w w9) := bTrans HT8.out HB9.out
      have SZ9 : Hid (w8.heap.size ≤ w9.heap.size) := HB9.out.size
      have QN_9 : Hid (Box w9 w1.heap.size (.slice (some ⟨bS, oS, none⟩) s.length c1) (.slice b1 d.length e1) 26) := QN_8.out.keep HB9.out
      have QG_9 : Hid (Box w9 w2.heap.size (.slice aG S.length cG) (.slice bG D.length eG) 26) := QG_8.out.keep HB9.out
      have QW_9 : Hid (Box w9 w3.heap.size (.slice aW S.length cW) (.slice bW D.length eW) 26) := QW_8.out.keep HB9.out
      have QK_9 : Hid (Box w9 w4.heap.size (.slice aK 0 cK) (.slice bK 1 eK) 26) := QK_8.out.keep HB9.out
      have QI_9 : Hid (Box w9 w5.heap.size (.slice aI S3.length cI) (.slice bI D3.length eI) 26) := QI_8.out.keep HB9.out
      have QR_9 : Hid (Box w9 w6.heap.size (.slice aR S4.length cR) (.slice bR D4.length eR) 26) := QR_8.out.keep HB9.out
      have QB_9 : Hid (Box w9 w7.heap.size (.slice aB S5.length cB) (.slice bB D5.length eB) 26) := QB_8.out.keep HB9.out
      have N_9 : Hid (Arr w.heap.size w1.heap.size w9 (.agg #[.slice (some ⟨bS, oS, none⟩) s.length c1, .slice b1 d.length e1]) s d) := N_8.out.keep HB9.out
      have G_9 : Hid (Arr (w1.heap.size + 1) w2.heap.size w9 (.agg #[.slice aG S.length cG, .slice bG D.length eG]) S D) := G_8.out.keep HB9.out
      have B_9 : Hid (Arr (w6.heap.size + 1) w7.heap.size w9 (.agg #[.slice aB S5.length cB, .slice bB D5.length eB]) S5 D5) := B_8.out.keep HB9.out
      have Y_9 : Hid (Arr (w7.heap.size + 1) w8.heap.size w9 (.agg #[.slice aY S6.length cY, .slice bY D6.length eY]) S6 D6) := Y_8.out.keep HB9.out
      have QY_9 : Hid (Box w9 w8.heap.size (.slice aY S6.length cY) (.slice bY D6.length eY) 26) := (box_new w8 _ _ _).keep hb
      have LTQY : Hid (w8.heap.size < w9.heap.size) := QY_9.out.lt
      clear QN_8 QG_8 QW_8 QK_8 QI_8 QR_8 QB_8 N_8 G_8 B_8 Y_8 QNc0 QNc1 QNd0 QNd1 QGc0 QGc1 QGd0 QGd1 QWc0 QWc1 QWd0 QWd1 QKc0 QKc1 QKd0 QKd1 QIc0 QIc1 QId0 QId1 QRc0 QRc1 QRd0 QRd1 QBc0 QBc1 QBd0 QBd1 hb
      have QNc0 := QN_9.out.c0
      have QNc1 := QN_9.out.c1
      have QNd0 : ∀ o : Obj, (w9.alloc o).cell? ⟨w1.heap.size, 0, none⟩ = some (.slice (some ⟨bS, oS, none⟩) s.length c1) := fun o => (QN_9.out.keep (bAlloc (Below.refl _ _) o)).c0
      have QNd1 : ∀ o : Obj, (w9.alloc o).cell? ⟨w1.heap.size, 1, none⟩ = some (.slice b1 d.length e1) := fun o => (QN_9.out.keep (bAlloc (Below.refl _ _) o)).c1
      have QGc0 := QG_9.out.c0
      have QGc1 := QG_9.out.c1
      have QGd0 : ∀ o : Obj, (w9.alloc o).cell? ⟨w2.heap.size, 0, none⟩ = some (.slice aG S.length cG) := fun o => (QG_9.out.keep (bAlloc (Below.refl _ _) o)).c0
      have QGd1 : ∀ o : Obj, (w9.alloc o).cell? ⟨w2.heap.size, 1, none⟩ = some (.slice bG D.length eG) := fun o => (QG_9.out.keep (bAlloc (Below.refl _ _) o)).c1
      have QWc0 := QW_9.out.c0
      have QWc1 := QW_9.out.c1
      have QWd0 : ∀ o : Obj, (w9.alloc o).cell? ⟨w3.heap.size, 0, none⟩ = some (.slice aW S.length cW) := fun o => (QW_9.out.keep (bAlloc (Below.refl _ _) o)).c0
      have QWd1 : ∀ o : Obj, (w9.alloc o).cell? ⟨w3.heap.size, 1, none⟩ = some (.slice bW D.length eW) := fun o => (QW_9.out.keep (bAlloc (Below.refl _ _) o)).c1
      have QKc0 := QK_9.out.c0
      have QKc1 := QK_9.out.c1
      have QKd0 : ∀ o : Obj, (w9.alloc o).cell? ⟨w4.heap.size, 0, none⟩ = some (.slice aK 0 cK) := fun o => (QK_9.out.keep (bAlloc (Below.refl _ _) o)).c0
      have QKd1 : ∀ o : Obj, (w9.alloc o).cell? ⟨w4.heap.size, 1, none⟩ = some (.slice bK 1 eK) := fun o => (QK_9.out.keep (bAlloc (Below.refl _ _) o)).c1
      have QIc0 := QI_9.out.c0
      have QIc1 := QI_9.out.c1
      have QId0 : ∀ o : Obj, (w9.alloc o).cell? ⟨w5.heap.size, 0, none⟩ = some (.slice aI S3.length cI) := fun o => (QI_9.out.keep (bAlloc (Below.refl _ _) o)).c0
      have QId1 : ∀ o : Obj, (w9.alloc o).cell? ⟨w5.heap.size, 1, none⟩ = some (.slice bI D3.length eI) := fun o => (QI_9.out.keep (bAlloc (Below.refl _ _) o)).c1
      have QRc0 := QR_9.out.c0
      have QRc1 := QR_9.out.c1
      have QRd0 : ∀ o : Obj, (w9.alloc o).cell? ⟨w6.heap.size, 0, none⟩ = some (.slice aR S4.length cR) := fun o => (QR_9.out.keep (bAlloc (Below.refl _ _) o)).c0
      have QRd1 : ∀ o : Obj, (w9.alloc o).cell? ⟨w6.heap.size, 1, none⟩ = some (.slice bR D4.length eR) := fun o => (QR_9.out.keep (bAlloc (Below.refl _ _) o)).c1
      have QBc0 := QB_9.out.c0
      have QBc1 := QB_9.out.c1
      have QBd0 : ∀ o : Obj, (w9.alloc o).cell? ⟨w7.heap.size, 0, none⟩ = some (.slice aB S5.length cB) := fun o => (QB_9.out.keep (bAlloc (Below.refl _ _) o)).c0
      have QBd1 : ∀ o : Obj, (w9.alloc o).cell? ⟨w7.heap.size, 1, none⟩ = some (.slice bB D5.length eB) := fun o => (QB_9.out.keep (bAlloc (Below.refl _ _) o)).c1
      have QYc0 := QY_9.out.c0
      have QYc1 := QY_9.out.c1
      have QYd0 : ∀ o : Obj, (w9.alloc o).cell? ⟨w8.heap.size, 0, none⟩ = some (.slice aY S6.length cY) := fun o => (QY_9.out.keep (bAlloc (Below.refl _ _) o)).c0
      have QYd1 : ∀ o : Obj, (w9.alloc o).cell? ⟨w8.heap.size, 1, none⟩ = some (.slice bY D6.length eY) := fun o => (QY_9.out.keep (bAlloc (Below.refl _ _) o)).c1
      go_wp2_with fail
      refine (SA1.out _ _ _ ((B_9.out.arrI).keep (bAlloc (Below.refl _ _) _)) ((N_9.out.arrI).keep (bAlloc (Below.refl _ _) _))).mono ?_
      rintro r w10 ⟨rfl, hb⟩
      have HB10 : Hid (Below w9.heap.size w9 w10) := bTrans (bAlloc (Below.refl _ _) _) hb
      have HT10 : Hid (Below w.heap.size w w10) := bTrans HT9.out HB10.out
      have SZ10 : Hid (w9.heap.size ≤ w10.heap.size) := HB10.out.size
      have QN_10 : Hid (Box w10 w1.heap.size (.slice (some ⟨bS, oS, none⟩) s.length c1) (.slice b1 d.length e1) 26) := QN_9.out.keep HB10.out
      have QG_10 : Hid (Box w10 w2.heap.size (.slice aG S.length cG) (.slice bG D.length eG) 26) := QG_9.out.keep HB10.out
      have QW_10 : Hid (Box w10 w3.heap.size (.slice aW S.length cW) (.slice bW D.length eW) 26) := QW_9.out.keep HB10.out
      have QK_10 : Hid (Box w10 w4.heap.size (.slice aK 0 cK) (.slice bK 1 eK) 26) := QK_9.out.keep HB10.out
      have QI_10 : Hid (Box w10 w5.heap.size (.slice aI S3.length cI) (.slice bI D3.length eI) 26) := QI_9.out.keep HB10.out
      have QR_10 : Hid (Box w10 w6.heap.size (.slice aR S4.length cR) (.slice bR D4.length eR) 26) := QR_9.out.keep HB10.out
      have QB_10 : Hid (Box w10 w7.heap.size (.slice aB S5.length cB) (.slice bB D5.length eB) 26) := QB_9.out.keep HB10.out
      have QY_10 : Hid (Box w10 w8.heap.size (.slice aY S6.length cY) (.slice bY D6.length eY) 26) := QY_9.out.keep HB10.out
      have N_10 : Hid (Arr w.heap.size w1.heap.size w10 (.agg #[.slice (some ⟨bS, oS, none⟩) s.length c1, .slice b1 d.length e1]) s d) := N_9.out.keep HB10.out
      have G_10 : Hid (Arr (w1.heap.size + 1) w2.heap.size w10 (.agg #[.slice aG S.length cG, .slice bG D.length eG]) S D) := G_9.out.keep HB10.out
      have B_10 : Hid (Arr (w6.heap.size + 1) w7.heap.size w10 (.agg #[.slice aB S5.length cB, .slice bB D5.length eB]) S5 D5) := B_9.out.keep HB10.out
      have Y_10 : Hid (Arr (w7.heap.size + 1) w8.heap.size w10 (.agg #[.slice aY S6.length cY, .slice bY D6.length eY]) S6 D6) := Y_9.out.keep HB10.out
      have Z_10 : Hid (Arr (w8.heap.size + 1) w9.heap.size w10 (.agg #[.slice aZ S7.length cZ, .slice bZ D7.length eZ]) S7 D7) := Z_9.out.keep HB10.out
      have QZ_10 : Hid (Box w10 w9.heap.size (.slice aZ S7.length cZ) (.slice bZ D7.length eZ) 26) := (box_new w9 _ _ _).keep hb
      have LTQZ : Hid (w9.heap.size < w10.heap.size) := QZ_10.out.lt
      clear QN_9 QG_9 QW_9 QK_9 QI_9 QR_9 QB_9 QY_9 N_9 G_9 B_9 Y_9 Z_9 QNc0 QNc1 QNd0 QNd1 QGc0 QGc1 QGd0 QGd1 QWc0 QWc1 QWd0 QWd1 QKc0 QKc1 QKd0 QKd1 QIc0 QIc1 QId0 QId1 QRc0 QRc1 QRd0 QRd1 QBc0 QBc1 QBd0 QBd1 QYc0 QYc1 QYd0 QYd1 hb
      have QNc0 := QN_10.out.c0
      have QNc1 := QN_10.out.c1
      have QGc0 := QG_10.out.c0
      have QGc1 := QG_10.out.c1
      have QWc0 := QW_10.out.c0
      have QWc1 := QW_10.out.c1
      have QKc0 := QK_10.out.c0
      have QKc1 := QK_10.out.c1
      have QIc0 := QI_10.out.c0
      have QIc1 := QI_10.out.c1
      have QRc0 := QR_10.out.c0
      have QRc1 := QR_10.out.c1
      have QBc0 := QB_10.out.c0
      have QBc1 := QB_10.out.c1
      have QYc0 := QY_10.out.c0
      have QYc1 := QY_10.out.c1
      have QZc0 := QZ_10.out.c0
      have QZc1 := QZ_10.out.c1
      go_wp2_with fail
      refine (SA2.out _ _ _ (Y_10.out.arrI) (Z_10.out.arrI)).mono ?_
      rintro r w11 ⟨rfl, hb⟩
      have HB11 : Hid (Below w10.heap.size w10 w11) := hb
      have HT11 : Hid (Below w.heap.size w w11) := bTrans HT10.out HB11.out
      have SZ11 : Hid (w10.heap.size ≤ w11.heap.size) := HB11.out.size
      have QN_11 : Hid (Box w11 w1.heap.size (.slice (some ⟨bS, oS, none⟩) s.length c1) (.slice b1 d.length e1) 26) := QN_10.out.keep HB11.out
      have QG_11 : Hid (Box w11 w2.heap.size (.slice aG S.length cG) (.slice bG D.length eG) 26) := QG_10.out.keep HB11.out
      have QW_11 : Hid (Box w11 w3.heap.size (.slice aW S.length cW) (.slice bW D.length eW) 26) := QW_10.out.keep HB11.out
      have QK_11 : Hid (Box w11 w4.heap.size (.slice aK 0 cK) (.slice bK 1 eK) 26) := QK_10.out.keep HB11.out
      have QI_11 : Hid (Box w11 w5.heap.size (.slice aI S3.length cI) (.slice bI D3.length eI) 26) := QI_10.out.keep HB11.out
      have QR_11 : Hid (Box w11 w6.heap.size (.slice aR S4.length cR) (.slice bR D4.length eR) 26) := QR_10.out.keep HB11.out
      have QB_11 : Hid (Box w11 w7.heap.size (.slice aB S5.length cB) (.slice bB D5.length eB) 26) := QB_10.out.keep HB11.out
      have QY_11 : Hid (Box w11 w8.heap.size (.slice aY S6.length cY) (.slice bY D6.length eY) 26) := QY_10.out.keep HB11.out
      have QZ_11 : Hid (Box w11 w9.heap.size (.slice aZ S7.length cZ) (.slice bZ D7.length eZ) 26) := QZ_10.out.keep HB11.out
      have N_11 : Hid (Arr w.heap.size w1.heap.size w11 (.agg #[.slice (some ⟨bS, oS, none⟩) s.length c1, .slice b1 d.length e1]) s d) := N_10.out.keep HB11.out
      have G_11 : Hid (Arr (w1.heap.size + 1) w2.heap.size w11 (.agg #[.slice aG S.length cG, .slice bG D.length eG]) S D) := G_10.out.keep HB11.out
      have Y_11 : Hid (Arr (w7.heap.size + 1) w8.heap.size w11 (.agg #[.slice aY S6.length cY, .slice bY D6.length eY]) S6 D6) := Y_10.out.keep HB11.out
      have Z_11 : Hid (Arr (w8.heap.size + 1) w9.heap.size w11 (.agg #[.slice aZ S7.length cZ, .slice bZ D7.length eZ]) S7 D7) := Z_10.out.keep HB11.out
      clear QN_10 QG_10 QW_10 QK_10 QI_10 QR_10 QB_10 QY_10 QZ_10 N_10 G_10 Y_10 Z_10 QNc0 QNc1 QGc0 QGc1 QWc0 QWc1 QKc0 QKc1 QIc0 QIc1 QRc0 QRc1 QBc0 QBc1 QYc0 QYc1 QZc0 QZc1 hb
      have QNc0 := QN_11.out.c0
      have QNc1 := QN_11.out.c1
      have QGc0 := QG_11.out.c0
      have QGc1 := QG_11.out.c1
      have QWc0 := QW_11.out.c0
      have QWc1 := QW_11.out.c1
      have QKc0 := QK_11.out.c0
      have QKc1 := QK_11.out.c1
      have QIc0 := QI_11.out.c0
      have QIc1 := QI_11.out.c1
      have QRc0 := QR_11.out.c0
      have QRc1 := QR_11.out.c1
      have QBc0 := QB_11.out.c0
      have QBc1 := QB_11.out.c1
      have QYc0 := QY_11.out.c0
      have QYc1 := QY_11.out.c1
      have QZc0 := QZ_11.out.c0
      have QZc1 := QZ_11.out.c1
      go_wp2
      go_ret
      exact ⟨rfl, HT11.out⟩
  · have n0 : (C != 0) = true := by simpa using hc
    have n2 : (C == 0) = false := by simpa using hc
    have l1 := FB.out hc
    clear FG FB SA CN
    go_wp2
    go_ret
    exact ⟨rfl, bTrans HT3.out (bAlloc (Below.refl _ _) _)⟩

/-! ### THE ROW's STEP: WRITTEN OUT: LEAVE IT -/
set_option maxRecDepth 100000 in
theorem lifted (os : Os) (started : os.Started) (H : Type) (enc : TypeId × Value → H) :
    ReturnsInHanded {} Try.checked os 5 .any (Rows.fnWholeSpec.pre6 enc Try.prog Try.f5 Rows.fnWholeRow.domain false) (Rows.fnWholeSpec.post enc Try.prog Try.f5 false true false false) := by
  refine returnsInHanded_of_change (C := Try.checked) own started (by kernel_rfl) Try.func5
    (ChangeSpec.witness6 (enc := enc) (C := Try.checked) false ⟨#[], #[.slice none 0 0], []⟩ 8 (by kernel_rfl) (by kernel_rfl) (by kernel_rfl) (by kernel_rfl)) ?_
  intro W base args ds gs before hval0 hW hcnd _
  have hval : ∀ (j : Nat) t v, Try.f5.params[j]? = some t → args[j]? = some v → Value.okWide Try.prog W .any base t v := hval0
  have hW' := hW
  obtain ⟨p, q, hA0, hV, rfl, hfz, hnd⟩ := hW
  have hA : DataW.TrodAll enc Try.prog W 0 (fun _ => true) true Try.f5.params.toList args.toList ds p := hA0
  rw [Try.params5] at hA hval
  obtain ⟨v0, vs0, d0, ds0, p0, q0, hargs, rfl, rfl, h0, r0⟩ := trodAll_cons hA
  obtain ⟨rfl, rfl, rfl⟩ := trodAll_nil r0
  obtain rfl : args = #[v0] := by cases args; simp_all
  obtain ⟨rfl, rfl⟩ := trodVars_none hV
  obtain ⟨a0, len0, cap0, rfl⟩ := okWide_slice Try.underlying22 (hval 0 22 v0 rfl rfl)
  have k0 := h0
  have lt0 : ∀ x ∈ p0, x.block < W.heap.size := by obtain ⟨m, hm⟩ := k0; exact DataW.trod_lt m _ _ _ hm
  obtain ⟨z0, w0⟩ : ∃ zs, IsRow .u8 W a0 len0 cap0 zs := by
    obtain ⟨fuel, hf⟩ := h0
    rcases open_ints Try.underlying22 Try.underlying5 (by kernel_rfl) hf with ⟨hcs, _⟩ | ⟨x, l, c, zs, hcs, _, hl, hm, hz, _, hcell, hwz⟩
    · simp [Value.cells] at hcs
      obtain ⟨rfl, rfl, rfl⟩ := hcs
      exact ⟨[], .inl ⟨rfl, rfl, rfl, rfl⟩⟩
    · simp [Value.cells] at hcs
      obtain ⟨rfl, rfl, rfl⟩ := hcs
      exact ⟨zs, .inr ⟨_, rfl, hl, hm, by simpa using hz, hcell, hwz⟩⟩
  clear hA0 hval0
  refine (walk a0 len0 cap0 z0 W w0).mono fun e W' ⟨he, bel⟩ => ?_
  subst he
  exact ⟨_, rfl, _, _, _, [], _, [], hW', trodAll_mk1 (shut_bool Try.underlying4 _), (trodAll_cons_mk (Below.trod laidOut (by kernel_rfl) (of_decide_eq_true (by kernel_rfl)) k0 bel lt0) trodAll_mk0), rfl, bel.frame _, fun h => by cases h⟩

theorem over : Rows.fnWholeRow.holds Try.pinned (OpenSpec.ofChange Rows.fnWholeSpec) :=
  OpenClaim.holds_of_wide 5 Try.f5 rfl rfl rfl rfl rfl rfl rfl ⟨rfl, rfl, rfl, rfl, rfl⟩ rfl rfl rfl rfl rfl (by kernel_rfl) Try.func5 (by kernel_rfl)
    (of_decide_eq_true (by kernel_rfl)) (by unfold Func.isWrapper; first | (rw [if_pos (by decide +kernel)]; kernel_rfl) | (rw [if_neg (by decide +kernel)]; exact ⟨rfl, rfl⟩))
    (fun os started H enc _ => lifted os started H enc)

/-- ████ THE STATEMENT ████ -/
theorem proved : Rows.FnWholeSaid := over
end Go.Proofs.Ytfmheanmkfdjnai.fnWhole
namespace Go.Proofs.Ytfmheanmkfdjnai
theorem fnWhole_holds : Rows.FnWholeSaid := fnWhole.proved
#print axioms fnWhole_holds
end Go.Proofs.Ytfmheanmkfdjnai
