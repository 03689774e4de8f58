/-
  Proved: whatever code it is given, the law FnNothing returns true (joined by the program with no rows a drawn array is itself; of it nought rows are none, and without nought it is all). No condition.
-/
import Derived.Test.YtlbmbjgbihljhaiRows
import Derived.WalkKit
import Derived.ProofKit
import Derived.OpenShut
import Derived.ShutString
import Derived.ChangeOld
import Derived.Below
import Derived.Test.YtlbmbjgbihljhaiNothF
import Derived.Test.YtlbmbjgbihljhaiDrawFill
import Derived.Test.YtlbmbjgbihljhaiImplJoin
import Derived.Test.YtlbmbjgbihljhaiImplMake10
import Derived.Test.YtlbmbjgbihljhaiSpecEach1
import Derived.Test.YtlbmbjgbihljhaiImplArr3
import Derived.Test.YtlbmbjgbihljhaiSpecArr
import Derived.Test.YtlbmbjgbihljhaiLaw3
namespace Go.Proofs.Ytlbmbjgbihljhai.fnNothing
open Go.ChangeShapes Go.WideShapes Go.ChangeAt Go.RowKit
open Go.ChangeMaps (open_string shut_string)
set_option linter.unusedVariables false
set_option linter.unusedSimpArgs false
set_option linter.unusedVariables false

theorem own : ownKnob Try.prog.godebug = none := by kernel_rfl
theorem laidOut : laidOutB Try.prog = true := by kernel_rfl

/-! ### STEP 1: THE WALK: the Go text returns true, AND WRITES NOTHING THAT WAS THERE: 'Below w.heap.size w w'' (Derived/Below.lean: '.refl', '.alloc', '.drew', '.setCell' at a new block, '.trans'). Open each 'IsRow' by 'rcases' AHEAD of 'go_enter'; part every test ahead of the walk. -/
set_option maxRecDepth 20000 in
set_option maxHeartbeats 8000000 in
theorem walk (a0 : Option Addr) (len0 cap0 : Nat) (z0 : List Int) (w : World) (w0 : IsRow .u8 w a0 len0 cap0 z0) :
    Calls Try.prog 3 #[.slice a0 len0 cap0] w fun e w' => e = .returned (.bool true) ∧ Below w.heap.size w w' := by
  have HS : Hid (Src w.heap.size w a0 len0) := src_of_row w0
  clear w0
  by_cases hbig : (1048576 : Int) < (len0 : Int)
  · go_enter Try.func3, Try.ntmps3
    go_wp2_with (go_at_call 5; refine (big_laws _ _ _ _).mono ?_; rintro e w' ⟨rfl, hw⟩; subst w')
    go_ret
    exact ⟨rfl, Below.refl _ _⟩
  have hb20 : len0 ≤ 1048576 := by omega
  go_enter Try.func3, Try.ntmps3
  go_wp2_with (go_at_call 5; refine (big_laws _ _ _ _).mono ?_; rintro e w' ⟨rfl, hw⟩; subst w')
  refine (drawTurn_spec HS.out hb20).mono ?_
  rintro r w1 ⟨v1, s, d, rfl, ha, hls, hld, hb⟩
  obtain ⟨a1, c1, b1, e1, rfl, _, _, _, _⟩ := ha.arrI
  have N_1 : Hid (Arr w.heap.size w1.heap.size w1 (.agg #[.slice a1 s.length c1, .slice b1 d.length e1]) s d) := ha
  have Ls : Hid (s.length ≤ 1048576) := by show _ ≤ _; omega
  have Ld : Hid (d.length ≤ 1048576) := by show _ ≤ _; omega
  have HT1 : Hid (Below w.heap.size w w1) := hb
  have SZ1 : Hid (w.heap.size ≤ w1.heap.size) := hb.size
  clear hb ha hls hld
  obtain ⟨C, hC⟩ : ∃ y, y = (takeR [] [0] s d).1 := ⟨_, rfl⟩
  obtain ⟨S, hS⟩ : ∃ y, y = (takeR [] [0] s d).2.1 := ⟨_, rfl⟩
  obtain ⟨D, hD⟩ : ∃ y, y = (takeR [] [0] s d).2.2 := ⟨_, rfl⟩
  obtain ⟨C2, hC2⟩ : ∃ y, y = (dropR [] [0] s d).1 := ⟨_, rfl⟩
  obtain ⟨S2, hS2⟩ : ∃ y, y = (dropR [] [0] s d).2.1 := ⟨_, rfl⟩
  obtain ⟨D2, hD2⟩ : ∃ y, y = (dropR [] [0] s d).2.2 := ⟨_, rfl⟩
  obtain ⟨C3, hC3⟩ : ∃ y, y = (joinR s d S D).1 := ⟨_, rfl⟩
  obtain ⟨S3, hS3⟩ : ∃ y, y = (joinR s d S D).2.1 := ⟨_, rfl⟩
  obtain ⟨D3, hD3⟩ : ∃ y, y = (joinR s d S D).2.2 := ⟨_, rfl⟩
  obtain ⟨C4, hC4⟩ : ∃ y, y = (joinR S D s d).1 := ⟨_, rfl⟩
  obtain ⟨S4, hS4⟩ : ∃ y, y = (joinR S D s d).2.1 := ⟨_, rfl⟩
  obtain ⟨D4, hD4⟩ : ∃ y, y = (joinR S D s d).2.2 := ⟨_, rfl⟩
  have LA : Hid (S.length ≤ 1048576 ∧ D.length ≤ 1048576) := by show _ ∧ _; rw [hS, hD]; exact mkR_len (fun h => takeS_len5 h) (fun h => takeD_len5 h)
  have LB : Hid (S2.length ≤ 1048576 ∧ D2.length ≤ 1048576) := by show _ ∧ _; rw [hS2, hD2]; exact mkR_len (fun h => dropS_len5 h) (fun h => by have := dropD_len5 (([0] : List Int).getD 0 0) s d; have := Ld.out; omega)
  have SK : Hid (∀ W, Calls Try.prog 9 #[.int .i64 0] W fun e w' => ∃ v, e = .returned (.tuple #[v, .bool true]) ∧ Arr W.heap.size w'.heap.size w' v [] [0] ∧ Below W.heap.size W w') := fun W => scalarOf_impl 0 W
  have OKI : Hid (∀ (W : World) (u : Value), ArrI W u s d → Calls Try.prog 7 #[u] W fun e w' => e = .returned (.bool (arrOk s d)) ∧ Below W.heap.size W w') := fun W u h => arrOk_impl h Ld.out
  have OKS : Hid (∀ (W : World) (u : Value), ArrI W u s d → Calls Try.prog 8 #[u] W fun e w' => e = .returned (.bool (arrOk s d)) ∧ Below W.heap.size W w') := fun W u h => arrOk_spec h Ld.out
  have E1 : Hid (∀ (W : World) (u0 : Value) (_ : ArrI W u0 [] [0]) (u1 : Value) (_ : ArrI W u1 s d), Calls Try.prog 10 #[u0, u1] W fun e w' => ∃ v, e = .returned (.tuple #[v, .int .i64 C]) ∧ Arr W.heap.size w'.heap.size w' v S D ∧ Below W.heap.size W w') := by
    intro W u0 h0 u1 h1
    rw [hC, hS, hD]
    exact take_impl h0 h1 (by simp) (by simp) Ls.out Ld.out
  have E2 : Hid (∀ (W : World) (u0 : Value) (_ : ArrI W u0 [] [0]) (u1 : Value) (_ : ArrI W u1 s d), Calls Try.prog 11 #[u0, u1] W fun e w' => ∃ v, e = .returned (.tuple #[v, .int .i64 C2]) ∧ Arr W.heap.size w'.heap.size w' v S2 D2 ∧ Below W.heap.size W w') := by
    intro W u0 h0 u1 h1
    rw [hC2, hS2, hD2]
    exact drop_impl h0 h1 (by simp) (by simp) Ls.out Ld.out
  have E3 : Hid (∀ (W : World) (u0 : Value) (_ : ArrI W u0 s d) (u1 : Value) (_ : ArrI W u1 S D), Calls Try.prog 12 #[u0, u1] W fun e w' => ∃ v, e = .returned (.tuple #[v, .int .i64 C3]) ∧ Arr W.heap.size w'.heap.size w' v S3 D3 ∧ Below W.heap.size W w') := by
    intro W u0 h0 u1 h1
    rw [hC3, hS3, hD3]
    exact join_impl h0 h1 Ls.out Ld.out LA.out.1 LA.out.2
  have E4 : Hid (∀ (W : World) (u0 : Value) (_ : ArrI W u0 S D) (u1 : Value) (_ : ArrI W u1 s d), Calls Try.prog 12 #[u0, u1] W fun e w' => ∃ v, e = .returned (.tuple #[v, .int .i64 C4]) ∧ Arr W.heap.size w'.heap.size w' v S4 D4 ∧ Below W.heap.size W w') := by
    intro W u0 h0 u1 h1
    rw [hC4, hS4, hD4]
    exact join_impl h0 h1 LA.out.1 LA.out.2 Ls.out Ld.out
  have FG : Hid (arrOk s d = true → s ≠ [] → C = 0 ∧ C2 = 0 ∧ C3 = 0 ∧ C4 = 0 ∧ D.length = 0 ∧ 0 < S.length ∧ S.getD 0 0 = 0 ∧ (S2 = s ∧ D2 = d) ∧ (S3 = s ∧ D3 = d) ∧ (S4 = s ∧ D4 = d)) := by
    intro ho hs
    cases s with
    | nil => exact absurd rfl hs
    | cons n0 tl =>
      rw [take_none ho] at hC hS hD
      rw [drop_none ho] at hC2 hS2 hD2
      rw [hS, hD] at hC3 hS3 hD3 hC4 hS4 hD4
      rw [(join_none ho).1] at hC3 hS3 hD3
      rw [(join_none ho).2] at hC4 hS4 hD4
      exact ⟨hC, hC2, hC3, hC4, by rw [hD]; rfl, by rw [hS]; simp, by rw [hS]; rfl, ⟨hS2, hD2⟩, ⟨hS3, hD3⟩, ⟨hS4, hD4⟩⟩
  have SA : Hid (∀ (X Y : List Int), X = s → Y = d → ∀ (W : World) (u v : Value), ArrI W u X Y → ArrI W v s d → Calls Try.prog 13 #[u, v] W fun e w' => e = .returned (.bool true) ∧ Below W.heap.size W w') := fun X Y hX hY W u v h k => by
    have q := same_arr h k (by rw [hX]; exact Ls.out) (by rw [hY]; exact Ld.out)
    rw [hX, hY] at q
    simpa [hX, hY] using q
  have hbb : (arrOk s d != arrOk s d) = false := by simp
  clear hC hS hD hC2 hS2 hD2 hC3 hS3 hD3 hC4 hS4 hD4
  go_wp2_with fail
  generalize hwz : w1.alloc (.cells #[.slice a1 s.length c1, .slice b1 d.length e1] 26) = w2
  have HB2 : Hid (Below w1.heap.size w1 w2) := by rw [← hwz]; exact bAlloc (Below.refl _ _) _
  have QN_2 : Hid (Box w2 w1.heap.size (.slice a1 s.length c1) (.slice b1 d.length e1) 26) := by rw [← hwz]; exact box_new w1 _ _ _
  have N_2 : Hid (Arr w.heap.size w1.heap.size w2 (.agg #[.slice a1 s.length c1, .slice b1 d.length e1]) s d) := N_1.out.keep HB2.out
  have LTQN : Hid (w1.heap.size < w2.heap.size) := QN_2.out.lt
  clear hwz N_1
  have x0 := QN_2.out.c0
  have x1 := QN_2.out.c1
  go_region_held3 (fun w' => w'.cell? ⟨w1.heap.size, 0, none⟩ = some (.slice a1 s.length c1) ∧ w'.cell? ⟨w1.heap.size, 1, none⟩ = some (.slice b1 d.length e1))
    (first | with_reducible exact ⟨z0, z1⟩ | with_reducible exact ⟨y0, y1⟩ | exact ⟨x0, x1⟩)
    (first
      | (go_at_call 7; refine (OKI.out _ _ (N_2.out.arrI.keep ((Below.refl w2.heap.size w2).drew))).mono ?_; rintro r w3 ⟨rfl, hb⟩; have B3 : Hid (Below w2.heap.size w2 w3) := bTrans ((Below.refl w2.heap.size w2).drew) hb; have y0 := (QN_2.out.keep B3.out).c0; have y1 := (QN_2.out.keep B3.out).c1; clear hb)
      | (go_at_call 8; refine (OKS.out _ _ (N_2.out.arrI.keep B3.out)).mono ?_; rintro r w4 ⟨rfl, hb⟩; have B4 : Hid (Below w2.heap.size w2 w4) := bTrans B3.out hb; have z0 := (QN_2.out.keep B4.out).c0; have z1 := (QN_2.out.keep B4.out).c1; clear hb))
  have HT4 : Hid (Below w.heap.size w w4) := bTrans (bTrans HT1.out HB2.out) B4.out
  have SZ2 : Hid (w1.heap.size ≤ w2.heap.size) := HB2.out.size
  have SZ4 : Hid (w2.heap.size ≤ w4.heap.size) := B4.out.size
  have QN_4 : Hid (Box w4 w1.heap.size (.slice a1 s.length c1) (.slice b1 d.length e1) 26) := QN_2.out.keep B4.out
  have N_4 : Hid (Arr w.heap.size w1.heap.size w4 (.agg #[.slice a1 s.length c1, .slice b1 d.length e1]) s d) := N_2.out.keep B4.out
  clear QN_2 N_2 B3 B4 x0 x1 y0 y1 z0 z1
  have QNc0 := QN_4.out.c0
  have QNc1 := QN_4.out.c1
  go_wp2_with fail
  refine (OKS.out _ _ (N_4.out.arrI)).mono ?_
  rintro r w5 ⟨rfl, hb⟩
  have HB5 : Hid (Below w4.heap.size w4 w5) := hb
  have HT5 : Hid (Below w.heap.size w w5) := bTrans HT4.out HB5.out
  have SZ5 : Hid (w4.heap.size ≤ w5.heap.size) := HB5.out.size
  have QN_5 : Hid (Box w5 w1.heap.size (.slice a1 s.length c1) (.slice b1 d.length e1) 26) := QN_4.out.keep HB5.out
  have N_5 : Hid (Arr w.heap.size w1.heap.size w5 (.agg #[.slice a1 s.length c1, .slice b1 d.length e1]) s d) := N_4.out.keep HB5.out
  clear QN_4 N_4 QNc0 QNc1 hb
  have QNc0 := QN_5.out.c0
  have QNc1 := QN_5.out.c1
  by_cases ho : arrOk s d = true
  · rw [ho]
    by_cases hs : s = []
    · have hl0 : ((s.length : Int) == 0) = true := by rw [hs]; rfl
      clear hs FG SA
      go_wp2
      go_ret
      exact ⟨rfl, HT5.out⟩
    · have hl0 : ((s.length : Int) == 0) = false := by simp; exact hs
      obtain ⟨rfl, rfl, rfl, rfl, hD0, hS0, hSz, ⟨x1, x2⟩, ⟨x3, x4⟩, ⟨x5, x6⟩⟩ := FG.out ho hs
      have SA1 : Hid (∀ (W : World) (u v : Value), ArrI W u S2 D2 → ArrI W v s d → Calls Try.prog 13 #[u, v] W fun e w' => e = .returned (.bool true) ∧ Below W.heap.size W w') := SA.out _ _ x1 x2
      have SA2 : Hid (∀ (W : World) (u v : Value), ArrI W u S3 D3 → ArrI W v s d → Calls Try.prog 13 #[u, v] W fun e w' => e = .returned (.bool true) ∧ Below W.heap.size W w') := SA.out _ _ x3 x4
      have SA3 : Hid (∀ (W : World) (u v : Value), ArrI W u S4 D4 → ArrI W v s d → Calls Try.prog 13 #[u, v] W fun e w' => e = .returned (.bool true) ∧ Below W.heap.size W w') := SA.out _ _ x5 x6
      have HD0 : Hid (D.length = 0) := hD0
      have HS0 : Hid (0 < S.length ∧ S.getD 0 0 = 0) := ⟨hS0, hSz⟩
      have hDb : ((D.length : Int) == 0) = true := by rw [hD0]; rfl
      clear FG SA x1 x2 x3 x4 x5 x6 ho hs hD0 hS0 hSz
      go_wp2_with fail
      refine (SK.out _).mono ?_
      rintro r w6 ⟨vK, rfl, ha, hb⟩
      obtain ⟨aK, cK, bK, eK, rfl, _, _, _, _⟩ := ha.arrI
      have K_6 : Hid (Arr w5.heap.size w6.heap.size w6 (.agg #[.slice aK 0 cK, .slice bK 1 eK]) [] [0]) := ha.mono (by first | exact Nat.le_refl _ | simp | (simp; omega)) (Nat.le_refl _)
      clear ha
      have HB6 : Hid (Below w5.heap.size w5 w6) := hb
      have HT6 : Hid (Below w.heap.size w w6) := bTrans HT5.out HB6.out
      have SZ6 : Hid (w5.heap.size ≤ w6.heap.size) := HB6.out.size
      have QN_6 : Hid (Box w6 w1.heap.size (.slice a1 s.length c1) (.slice b1 d.length e1) 26) := QN_5.out.keep HB6.out
      have N_6 : Hid (Arr w.heap.size w1.heap.size w6 (.agg #[.slice a1 s.length c1, .slice b1 d.length e1]) s d) := N_5.out.keep HB6.out
      clear QN_5 N_5 QNc0 QNc1 hb
      have QNc0 := QN_6.out.c0
      have QNc1 := QN_6.out.c1
      have QNd0 : ∀ o : Obj, (w6.alloc o).cell? ⟨w1.heap.size, 0, none⟩ = some (.slice a1 s.length c1) := fun o => (QN_6.out.keep (bAlloc (Below.refl _ _) o)).c0
      have QNd1 : ∀ o : Obj, (w6.alloc o).cell? ⟨w1.heap.size, 1, none⟩ = some (.slice b1 d.length e1) := fun o => (QN_6.out.keep (bAlloc (Below.refl _ _) o)).c1
      go_wp2_with fail
      refine (E1.out _ _ ((K_6.out.arrI).keep (bAlloc (Below.refl _ _) _)) _ ((N_6.out.arrI).keep (bAlloc (Below.refl _ _) _))).mono ?_
      rintro r w7 ⟨vG, rfl, ha, hb⟩
      obtain ⟨aG, cG, bG, eG, rfl, _, _, _, _⟩ := ha.arrI
      have G_7 : Hid (Arr (w6.heap.size + 1) w7.heap.size w7 (.agg #[.slice aG S.length cG, .slice bG D.length eG]) S D) := ha.mono (by first | exact Nat.le_refl _ | simp | (simp; omega)) (Nat.le_refl _)
      clear ha
      have HB7 : Hid (Below w6.heap.size w6 w7) := bTrans (bAlloc (Below.refl _ _) _) hb
      have HT7 : Hid (Below w.heap.size w w7) := bTrans HT6.out HB7.out
      have SZ7 : Hid (w6.heap.size ≤ w7.heap.size) := HB7.out.size
      have QN_7 : Hid (Box w7 w1.heap.size (.slice a1 s.length c1) (.slice b1 d.length e1) 26) := QN_6.out.keep HB7.out
      have N_7 : Hid (Arr w.heap.size w1.heap.size w7 (.agg #[.slice a1 s.length c1, .slice b1 d.length e1]) s d) := N_6.out.keep HB7.out
      have K_7 : Hid (Arr w5.heap.size w6.heap.size w7 (.agg #[.slice aK 0 cK, .slice bK 1 eK]) [] [0]) := K_6.out.keep HB7.out
      have QK_7 : Hid (Box w7 w6.heap.size (.slice aK 0 cK) (.slice bK 1 eK) 26) := (box_new w6 _ _ _).keep hb
      have LTQK : Hid (w6.heap.size < w7.heap.size) := QK_7.out.lt
      clear QN_6 N_6 K_6 QNc0 QNc1 QNd0 QNd1 hb
      have QNc0 := QN_7.out.c0
      have QNc1 := QN_7.out.c1
      have QNd0 : ∀ o : Obj, (w7.alloc o).cell? ⟨w1.heap.size, 0, none⟩ = some (.slice a1 s.length c1) := fun o => (QN_7.out.keep (bAlloc (Below.refl _ _) o)).c0
      have QNd1 : ∀ o : Obj, (w7.alloc o).cell? ⟨w1.heap.size, 1, none⟩ = some (.slice b1 d.length e1) := fun o => (QN_7.out.keep (bAlloc (Below.refl _ _) o)).c1
      have QKc0 := QK_7.out.c0
      have QKc1 := QK_7.out.c1
      have QKd0 : ∀ o : Obj, (w7.alloc o).cell? ⟨w6.heap.size, 0, none⟩ = some (.slice aK 0 cK) := fun o => (QK_7.out.keep (bAlloc (Below.refl _ _) o)).c0
      have QKd1 : ∀ o : Obj, (w7.alloc o).cell? ⟨w6.heap.size, 1, none⟩ = some (.slice bK 1 eK) := fun o => (QK_7.out.keep (bAlloc (Below.refl _ _) o)).c1
      go_wp2_with fail
      refine (E2.out _ _ ((K_7.out.arrI).keep (bAlloc (Below.refl _ _) _)) _ ((N_7.out.arrI).keep (bAlloc (Below.refl _ _) _))).mono ?_
      rintro r w8 ⟨vX, rfl, ha, hb⟩
      obtain ⟨aX, cX, bX, eX, rfl, _, _, _, _⟩ := ha.arrI
      have X_8 : Hid (Arr (w7.heap.size + 1) w8.heap.size w8 (.agg #[.slice aX S2.length cX, .slice bX D2.length eX]) S2 D2) := ha.mono (by first | exact Nat.le_refl _ | simp | (simp; omega)) (Nat.le_refl _)
      clear ha
      have HB8 : Hid (Below w7.heap.size w7 w8) := bTrans (bAlloc (Below.refl _ _) _) hb
      have HT8 : Hid (Below w.heap.size w w8) := bTrans HT7.out HB8.out
      have SZ8 : Hid (w7.heap.size ≤ w8.heap.size) := HB8.out.size
      have QN_8 : Hid (Box w8 w1.heap.size (.slice a1 s.length c1) (.slice b1 d.length e1) 26) := QN_7.out.keep HB8.out
      have QK_8 : Hid (Box w8 w6.heap.size (.slice aK 0 cK) (.slice bK 1 eK) 26) := QK_7.out.keep HB8.out
      have N_8 : Hid (Arr w.heap.size w1.heap.size w8 (.agg #[.slice a1 s.length c1, .slice b1 d.length e1]) s d) := N_7.out.keep HB8.out
      have K_8 : Hid (Arr w5.heap.size w6.heap.size w8 (.agg #[.slice aK 0 cK, .slice bK 1 eK]) [] [0]) := K_7.out.keep HB8.out
      have G_8 : Hid (Arr (w6.heap.size + 1) w7.heap.size w8 (.agg #[.slice aG S.length cG, .slice bG D.length eG]) S D) := G_7.out.keep HB8.out
      have QG_8 : Hid (Box w8 w7.heap.size (.slice aG S.length cG) (.slice bG D.length eG) 26) := (box_new w7 _ _ _).keep hb
      have LTQG : Hid (w7.heap.size < w8.heap.size) := QG_8.out.lt
      clear QN_7 QK_7 N_7 K_7 G_7 QNc0 QNc1 QNd0 QNd1 QKc0 QKc1 QKd0 QKd1 hb
      have QNc0 := QN_8.out.c0
      have QNc1 := QN_8.out.c1
      have QNd0 : ∀ o : Obj, (w8.alloc o).cell? ⟨w1.heap.size, 0, none⟩ = some (.slice a1 s.length c1) := fun o => (QN_8.out.keep (bAlloc (Below.refl _ _) o)).c0
      have QNd1 : ∀ o : Obj, (w8.alloc o).cell? ⟨w1.heap.size, 1, none⟩ = some (.slice b1 d.length e1) := fun o => (QN_8.out.keep (bAlloc (Below.refl _ _) o)).c1
      have QKc0 := QK_8.out.c0
      have QKc1 := QK_8.out.c1
      have QKd0 : ∀ o : Obj, (w8.alloc o).cell? ⟨w6.heap.size, 0, none⟩ = some (.slice aK 0 cK) := fun o => (QK_8.out.keep (bAlloc (Below.refl _ _) o)).c0
      have QKd1 : ∀ o : Obj, (w8.alloc o).cell? ⟨w6.heap.size, 1, none⟩ = some (.slice bK 1 eK) := fun o => (QK_8.out.keep (bAlloc (Below.refl _ _) o)).c1
      have QGc0 := QG_8.out.c0
      have QGc1 := QG_8.out.c1
      have QGd0 : ∀ o : Obj, (w8.alloc o).cell? ⟨w7.heap.size, 0, none⟩ = some (.slice aG S.length cG) := fun o => (QG_8.out.keep (bAlloc (Below.refl _ _) o)).c0
      have QGd1 : ∀ o : Obj, (w8.alloc o).cell? ⟨w7.heap.size, 1, none⟩ = some (.slice bG D.length eG) := fun o => (QG_8.out.keep (bAlloc (Below.refl _ _) o)).c1
      go_wp2_with fail
      refine (E3.out _ _ ((N_8.out.arrI).keep (bAlloc (Below.refl _ _) _)) _ ((G_8.out.arrI).keep (bAlloc (Below.refl _ _) _))).mono ?_
      rintro r w9 ⟨vY, rfl, ha, hb⟩
      obtain ⟨aY, cY, bY, eY, rfl, _, _, _, _⟩ := ha.arrI
      have Y_9 : Hid (Arr (w8.heap.size + 1) w9.heap.size w9 (.agg #[.slice aY S3.length cY, .slice bY D3.length eY]) S3 D3) := ha.mono (by first | exact Nat.le_refl _ | simp | (simp; omega)) (Nat.le_refl _)
      clear ha
      have HB9 : Hid (Below w8.heap.size w8 w9) := bTrans (bAlloc (Below.refl _ _) _) hb
      have HT9 : Hid (Below w.heap.size w w9) := bTrans HT8.out HB9.out
      have SZ9 : Hid (w8.heap.size ≤ w9.heap.size) := HB9.out.size
      have QN_9 : Hid (Box w9 w1.heap.size (.slice a1 s.length c1) (.slice b1 d.length e1) 26) := QN_8.out.keep HB9.out
      have QK_9 : Hid (Box w9 w6.heap.size (.slice aK 0 cK) (.slice bK 1 eK) 26) := QK_8.out.keep HB9.out
      have QG_9 : Hid (Box w9 w7.heap.size (.slice aG S.length cG) (.slice bG D.length eG) 26) := QG_8.out.keep HB9.out
      have N_9 : Hid (Arr w.heap.size w1.heap.size w9 (.agg #[.slice a1 s.length c1, .slice b1 d.length e1]) s d) := N_8.out.keep HB9.out
      have G_9 : Hid (Arr (w6.heap.size + 1) w7.heap.size w9 (.agg #[.slice aG S.length cG, .slice bG D.length eG]) S D) := G_8.out.keep HB9.out
      have X_9 : Hid (Arr (w7.heap.size + 1) w8.heap.size w9 (.agg #[.slice aX S2.length cX, .slice bX D2.length eX]) S2 D2) := X_8.out.keep HB9.out
      have QX_9 : Hid (Box w9 w8.heap.size (.slice aX S2.length cX) (.slice bX D2.length eX) 26) := (box_new w8 _ _ _).keep hb
      have LTQX : Hid (w8.heap.size < w9.heap.size) := QX_9.out.lt
      clear QN_8 QK_8 QG_8 N_8 G_8 X_8 QNc0 QNc1 QNd0 QNd1 QKc0 QKc1 QKd0 QKd1 QGc0 QGc1 QGd0 QGd1 hb
      have QNc0 := QN_9.out.c0
      have QNc1 := QN_9.out.c1
      have QNd0 : ∀ o : Obj, (w9.alloc o).cell? ⟨w1.heap.size, 0, none⟩ = some (.slice a1 s.length c1) := fun o => (QN_9.out.keep (bAlloc (Below.refl _ _) o)).c0
      have QNd1 : ∀ o : Obj, (w9.alloc o).cell? ⟨w1.heap.size, 1, none⟩ = some (.slice b1 d.length e1) := fun o => (QN_9.out.keep (bAlloc (Below.refl _ _) o)).c1
      have QKc0 := QK_9.out.c0
      have QKc1 := QK_9.out.c1
      have QKd0 : ∀ o : Obj, (w9.alloc o).cell? ⟨w6.heap.size, 0, none⟩ = some (.slice aK 0 cK) := fun o => (QK_9.out.keep (bAlloc (Below.refl _ _) o)).c0
      have QKd1 : ∀ o : Obj, (w9.alloc o).cell? ⟨w6.heap.size, 1, none⟩ = some (.slice bK 1 eK) := fun o => (QK_9.out.keep (bAlloc (Below.refl _ _) o)).c1
      have QGc0 := QG_9.out.c0
      have QGc1 := QG_9.out.c1
      have QGd0 : ∀ o : Obj, (w9.alloc o).cell? ⟨w7.heap.size, 0, none⟩ = some (.slice aG S.length cG) := fun o => (QG_9.out.keep (bAlloc (Below.refl _ _) o)).c0
      have QGd1 : ∀ o : Obj, (w9.alloc o).cell? ⟨w7.heap.size, 1, none⟩ = some (.slice bG D.length eG) := fun o => (QG_9.out.keep (bAlloc (Below.refl _ _) o)).c1
      have QXc0 := QX_9.out.c0
      have QXc1 := QX_9.out.c1
      have QXd0 : ∀ o : Obj, (w9.alloc o).cell? ⟨w8.heap.size, 0, none⟩ = some (.slice aX S2.length cX) := fun o => (QX_9.out.keep (bAlloc (Below.refl _ _) o)).c0
      have QXd1 : ∀ o : Obj, (w9.alloc o).cell? ⟨w8.heap.size, 1, none⟩ = some (.slice bX D2.length eX) := fun o => (QX_9.out.keep (bAlloc (Below.refl _ _) o)).c1
      go_wp2_with fail
      refine (E4.out _ _ ((G_9.out.arrI).keep (bAlloc (Below.refl _ _) _)) _ ((N_9.out.arrI).keep (bAlloc (Below.refl _ _) _))).mono ?_
      rintro r w10 ⟨vZ, rfl, ha, hb⟩
      obtain ⟨aZ, cZ, bZ, eZ, rfl, _, _, _, _⟩ := ha.arrI
      have Z_10 : Hid (Arr (w9.heap.size + 1) w10.heap.size w10 (.agg #[.slice aZ S4.length cZ, .slice bZ D4.length eZ]) S4 D4) := ha.mono (by first | exact Nat.le_refl _ | simp | (simp; omega)) (Nat.le_refl _)
      clear ha
      have HB10 : Hid (Below w9.heap.size w9 w10) := bTrans (bAlloc (Below.refl _ _) _) hb
      have HT10 : Hid (Below w.heap.size w w10) := bTrans HT9.out HB10.out
      have SZ10 : Hid (w9.heap.size ≤ w10.heap.size) := HB10.out.size
      have QN_10 : Hid (Box w10 w1.heap.size (.slice a1 s.length c1) (.slice b1 d.length e1) 26) := QN_9.out.keep HB10.out
      have QK_10 : Hid (Box w10 w6.heap.size (.slice aK 0 cK) (.slice bK 1 eK) 26) := QK_9.out.keep HB10.out
      have QG_10 : Hid (Box w10 w7.heap.size (.slice aG S.length cG) (.slice bG D.length eG) 26) := QG_9.out.keep HB10.out
      have QX_10 : Hid (Box w10 w8.heap.size (.slice aX S2.length cX) (.slice bX D2.length eX) 26) := QX_9.out.keep HB10.out
      have N_10 : Hid (Arr w.heap.size w1.heap.size w10 (.agg #[.slice a1 s.length c1, .slice b1 d.length e1]) s d) := N_9.out.keep HB10.out
      have G_10 : Hid (Arr (w6.heap.size + 1) w7.heap.size w10 (.agg #[.slice aG S.length cG, .slice bG D.length eG]) S D) := G_9.out.keep HB10.out
      have X_10 : Hid (Arr (w7.heap.size + 1) w8.heap.size w10 (.agg #[.slice aX S2.length cX, .slice bX D2.length eX]) S2 D2) := X_9.out.keep HB10.out
      have Y_10 : Hid (Arr (w8.heap.size + 1) w9.heap.size w10 (.agg #[.slice aY S3.length cY, .slice bY D3.length eY]) S3 D3) := Y_9.out.keep HB10.out
      have QY_10 : Hid (Box w10 w9.heap.size (.slice aY S3.length cY) (.slice bY D3.length eY) 26) := (box_new w9 _ _ _).keep hb
      have LTQY : Hid (w9.heap.size < w10.heap.size) := QY_10.out.lt
      clear QN_9 QK_9 QG_9 QX_9 N_9 G_9 X_9 Y_9 QNc0 QNc1 QNd0 QNd1 QKc0 QKc1 QKd0 QKd1 QGc0 QGc1 QGd0 QGd1 QXc0 QXc1 QXd0 QXd1 hb
      have QNc0 := QN_10.out.c0
      have QNc1 := QN_10.out.c1
      have QNd0 : ∀ o : Obj, (w10.alloc o).cell? ⟨w1.heap.size, 0, none⟩ = some (.slice a1 s.length c1) := fun o => (QN_10.out.keep (bAlloc (Below.refl _ _) o)).c0
      have QNd1 : ∀ o : Obj, (w10.alloc o).cell? ⟨w1.heap.size, 1, none⟩ = some (.slice b1 d.length e1) := fun o => (QN_10.out.keep (bAlloc (Below.refl _ _) o)).c1
      have QKc0 := QK_10.out.c0
      have QKc1 := QK_10.out.c1
      have QKd0 : ∀ o : Obj, (w10.alloc o).cell? ⟨w6.heap.size, 0, none⟩ = some (.slice aK 0 cK) := fun o => (QK_10.out.keep (bAlloc (Below.refl _ _) o)).c0
      have QKd1 : ∀ o : Obj, (w10.alloc o).cell? ⟨w6.heap.size, 1, none⟩ = some (.slice bK 1 eK) := fun o => (QK_10.out.keep (bAlloc (Below.refl _ _) o)).c1
      have QGc0 := QG_10.out.c0
      have QGc1 := QG_10.out.c1
      have QGd0 : ∀ o : Obj, (w10.alloc o).cell? ⟨w7.heap.size, 0, none⟩ = some (.slice aG S.length cG) := fun o => (QG_10.out.keep (bAlloc (Below.refl _ _) o)).c0
      have QGd1 : ∀ o : Obj, (w10.alloc o).cell? ⟨w7.heap.size, 1, none⟩ = some (.slice bG D.length eG) := fun o => (QG_10.out.keep (bAlloc (Below.refl _ _) o)).c1
      have QXc0 := QX_10.out.c0
      have QXc1 := QX_10.out.c1
      have QXd0 : ∀ o : Obj, (w10.alloc o).cell? ⟨w8.heap.size, 0, none⟩ = some (.slice aX S2.length cX) := fun o => (QX_10.out.keep (bAlloc (Below.refl _ _) o)).c0
      have QXd1 : ∀ o : Obj, (w10.alloc o).cell? ⟨w8.heap.size, 1, none⟩ = some (.slice bX D2.length eX) := fun o => (QX_10.out.keep (bAlloc (Below.refl _ _) o)).c1
      have QYc0 := QY_10.out.c0
      have QYc1 := QY_10.out.c1
      have QYd0 : ∀ o : Obj, (w10.alloc o).cell? ⟨w9.heap.size, 0, none⟩ = some (.slice aY S3.length cY) := fun o => (QY_10.out.keep (bAlloc (Below.refl _ _) o)).c0
      have QYd1 : ∀ o : Obj, (w10.alloc o).cell? ⟨w9.heap.size, 1, none⟩ = some (.slice bY D3.length eY) := fun o => (QY_10.out.keep (bAlloc (Below.refl _ _) o)).c1
      obtain ⟨_, _, _, _, ev, iS, _, _, _⟩ := G_10.out.arrI
      cases ev
      obtain ⟨pS, oS, rfl, hpS, tS⟩ := iS.at HS0.out.1
      rw [Nat.add_zero, HS0.out.2] at tS
      have tSd : ∀ o : Obj, (w10.alloc o).cell? ⟨pS, oS, none⟩ = some (.int .i64 0) := fun o => ((bAlloc (Below.refl w10.heap.size w10) o).cell (p := ⟨pS, oS, none⟩) hpS).trans tS
      have L1 : 0 < S.length := HS0.out.1
      have L1i : (0 : Int) < (S.length : Int) := by omega
      clear iS
      go_wp2_with fail
      refine (SA1.out _ _ _ ((X_10.out.arrI).keep (bAlloc (Below.refl _ _) _)) ((N_10.out.arrI).keep (bAlloc (Below.refl _ _) _))).mono ?_
      rintro r w11 ⟨rfl, hb⟩
      have HB11 : Hid (Below w10.heap.size w10 w11) := bTrans (bAlloc (Below.refl _ _) _) hb
      have HT11 : Hid (Below w.heap.size w w11) := bTrans HT10.out HB11.out
      have SZ11 : Hid (w10.heap.size ≤ w11.heap.size) := HB11.out.size
      have QN_11 : Hid (Box w11 w1.heap.size (.slice a1 s.length c1) (.slice b1 d.length e1) 26) := QN_10.out.keep HB11.out
      have QK_11 : Hid (Box w11 w6.heap.size (.slice aK 0 cK) (.slice bK 1 eK) 26) := QK_10.out.keep HB11.out
      have QG_11 : Hid (Box w11 w7.heap.size (.slice (some ⟨pS, oS, none⟩) S.length cG) (.slice bG D.length eG) 26) := QG_10.out.keep HB11.out
      have QX_11 : Hid (Box w11 w8.heap.size (.slice aX S2.length cX) (.slice bX D2.length eX) 26) := QX_10.out.keep HB11.out
      have QY_11 : Hid (Box w11 w9.heap.size (.slice aY S3.length cY) (.slice bY D3.length eY) 26) := QY_10.out.keep HB11.out
      have N_11 : Hid (Arr w.heap.size w1.heap.size w11 (.agg #[.slice a1 s.length c1, .slice b1 d.length e1]) s d) := N_10.out.keep HB11.out
      have G_11 : Hid (Arr (w6.heap.size + 1) w7.heap.size w11 (.agg #[.slice (some ⟨pS, oS, none⟩) S.length cG, .slice bG D.length eG]) S D) := G_10.out.keep HB11.out
      have X_11 : Hid (Arr (w7.heap.size + 1) w8.heap.size w11 (.agg #[.slice aX S2.length cX, .slice bX D2.length eX]) S2 D2) := X_10.out.keep HB11.out
      have Y_11 : Hid (Arr (w8.heap.size + 1) w9.heap.size w11 (.agg #[.slice aY S3.length cY, .slice bY D3.length eY]) S3 D3) := Y_10.out.keep HB11.out
      have Z_11 : Hid (Arr (w9.heap.size + 1) w10.heap.size w11 (.agg #[.slice aZ S4.length cZ, .slice bZ D4.length eZ]) S4 D4) := Z_10.out.keep HB11.out
      have QZ_11 : Hid (Box w11 w10.heap.size (.slice aZ S4.length cZ) (.slice bZ D4.length eZ) 26) := (box_new w10 _ _ _).keep hb
      have LTQZ : Hid (w10.heap.size < w11.heap.size) := QZ_11.out.lt
      clear QN_10 QK_10 QG_10 QX_10 QY_10 N_10 G_10 X_10 Y_10 Z_10 QNc0 QNc1 QNd0 QNd1 QKc0 QKc1 QKd0 QKd1 QGc0 QGc1 QGd0 QGd1 QXc0 QXc1 QXd0 QXd1 QYc0 QYc1 QYd0 QYd1 hb
      clear tS tSd L1 L1i hDb
      have QNc0 := QN_11.out.c0
      have QNc1 := QN_11.out.c1
      have QKc0 := QK_11.out.c0
      have QKc1 := QK_11.out.c1
      have QGc0 := QG_11.out.c0
      have QGc1 := QG_11.out.c1
      have QXc0 := QX_11.out.c0
      have QXc1 := QX_11.out.c1
      have QYc0 := QY_11.out.c0
      have QYc1 := QY_11.out.c1
      have QZc0 := QZ_11.out.c0
      have QZc1 := QZ_11.out.c1
      go_wp2_with fail
      refine (SA2.out _ _ _ (Y_11.out.arrI) (N_11.out.arrI)).mono ?_
      rintro r w12 ⟨rfl, hb⟩
      have HB12 : Hid (Below w11.heap.size w11 w12) := hb
      have HT12 : Hid (Below w.heap.size w w12) := bTrans HT11.out HB12.out
      have SZ12 : Hid (w11.heap.size ≤ w12.heap.size) := HB12.out.size
      have QN_12 : Hid (Box w12 w1.heap.size (.slice a1 s.length c1) (.slice b1 d.length e1) 26) := QN_11.out.keep HB12.out
      have QK_12 : Hid (Box w12 w6.heap.size (.slice aK 0 cK) (.slice bK 1 eK) 26) := QK_11.out.keep HB12.out
      have QG_12 : Hid (Box w12 w7.heap.size (.slice (some ⟨pS, oS, none⟩) S.length cG) (.slice bG D.length eG) 26) := QG_11.out.keep HB12.out
      have QX_12 : Hid (Box w12 w8.heap.size (.slice aX S2.length cX) (.slice bX D2.length eX) 26) := QX_11.out.keep HB12.out
      have QY_12 : Hid (Box w12 w9.heap.size (.slice aY S3.length cY) (.slice bY D3.length eY) 26) := QY_11.out.keep HB12.out
      have QZ_12 : Hid (Box w12 w10.heap.size (.slice aZ S4.length cZ) (.slice bZ D4.length eZ) 26) := QZ_11.out.keep HB12.out
      have N_12 : Hid (Arr w.heap.size w1.heap.size w12 (.agg #[.slice a1 s.length c1, .slice b1 d.length e1]) s d) := N_11.out.keep HB12.out
      have G_12 : Hid (Arr (w6.heap.size + 1) w7.heap.size w12 (.agg #[.slice (some ⟨pS, oS, none⟩) S.length cG, .slice bG D.length eG]) S D) := G_11.out.keep HB12.out
      have Y_12 : Hid (Arr (w8.heap.size + 1) w9.heap.size w12 (.agg #[.slice aY S3.length cY, .slice bY D3.length eY]) S3 D3) := Y_11.out.keep HB12.out
      have Z_12 : Hid (Arr (w9.heap.size + 1) w10.heap.size w12 (.agg #[.slice aZ S4.length cZ, .slice bZ D4.length eZ]) S4 D4) := Z_11.out.keep HB12.out
      clear QN_11 QK_11 QG_11 QX_11 QY_11 QZ_11 N_11 G_11 Y_11 Z_11 QNc0 QNc1 QKc0 QKc1 QGc0 QGc1 QXc0 QXc1 QYc0 QYc1 QZc0 QZc1 hb
      have QNc0 := QN_12.out.c0
      have QNc1 := QN_12.out.c1
      have QKc0 := QK_12.out.c0
      have QKc1 := QK_12.out.c1
      have QGc0 := QG_12.out.c0
      have QGc1 := QG_12.out.c1
      have QXc0 := QX_12.out.c0
      have QXc1 := QX_12.out.c1
      have QYc0 := QY_12.out.c0
      have QYc1 := QY_12.out.c1
      have QZc0 := QZ_12.out.c0
      have QZc1 := QZ_12.out.c1
      go_wp2_with fail
      refine (SA3.out _ _ _ (Z_12.out.arrI) (N_12.out.arrI)).mono ?_
      rintro r w13 ⟨rfl, hb⟩
      have HB13 : Hid (Below w12.heap.size w12 w13) := hb
      have HT13 : Hid (Below w.heap.size w w13) := bTrans HT12.out HB13.out
      have SZ13 : Hid (w12.heap.size ≤ w13.heap.size) := HB13.out.size
      have QN_13 : Hid (Box w13 w1.heap.size (.slice a1 s.length c1) (.slice b1 d.length e1) 26) := QN_12.out.keep HB13.out
      have QK_13 : Hid (Box w13 w6.heap.size (.slice aK 0 cK) (.slice bK 1 eK) 26) := QK_12.out.keep HB13.out
      have QG_13 : Hid (Box w13 w7.heap.size (.slice (some ⟨pS, oS, none⟩) S.length cG) (.slice bG D.length eG) 26) := QG_12.out.keep HB13.out
      have QX_13 : Hid (Box w13 w8.heap.size (.slice aX S2.length cX) (.slice bX D2.length eX) 26) := QX_12.out.keep HB13.out
      have QY_13 : Hid (Box w13 w9.heap.size (.slice aY S3.length cY) (.slice bY D3.length eY) 26) := QY_12.out.keep HB13.out
      have QZ_13 : Hid (Box w13 w10.heap.size (.slice aZ S4.length cZ) (.slice bZ D4.length eZ) 26) := QZ_12.out.keep HB13.out
      have N_13 : Hid (Arr w.heap.size w1.heap.size w13 (.agg #[.slice a1 s.length c1, .slice b1 d.length e1]) s d) := N_12.out.keep HB13.out
      have G_13 : Hid (Arr (w6.heap.size + 1) w7.heap.size w13 (.agg #[.slice (some ⟨pS, oS, none⟩) S.length cG, .slice bG D.length eG]) S D) := G_12.out.keep HB13.out
      have Z_13 : Hid (Arr (w9.heap.size + 1) w10.heap.size w13 (.agg #[.slice aZ S4.length cZ, .slice bZ D4.length eZ]) S4 D4) := Z_12.out.keep HB13.out
      clear QN_12 QK_12 QG_12 QX_12 QY_12 QZ_12 N_12 G_12 Z_12 QNc0 QNc1 QKc0 QKc1 QGc0 QGc1 QXc0 QXc1 QYc0 QYc1 QZc0 QZc1 hb
      have QNc0 := QN_13.out.c0
      have QNc1 := QN_13.out.c1
      have QKc0 := QK_13.out.c0
      have QKc1 := QK_13.out.c1
      have QGc0 := QG_13.out.c0
      have QGc1 := QG_13.out.c1
      have QXc0 := QX_13.out.c0
      have QXc1 := QX_13.out.c1
      have QYc0 := QY_13.out.c0
      have QYc1 := QY_13.out.c1
      have QZc0 := QZ_13.out.c0
      have QZc1 := QZ_13.out.c1
      go_wp2
      go_ret
      exact ⟨rfl, HT13.out⟩
  · have ho' : arrOk s d = false := by simpa using ho
    rw [ho']
    clear ho ho' FG SA
    go_wp2
    go_ret
    exact ⟨rfl, HT5.out⟩

/-! ### THE ROW's STEP: WRITTEN OUT: LEAVE IT -/
set_option maxRecDepth 100000 in
theorem lifted (os : Os) (started : os.Started) (H : Type) (enc : TypeId × Value → H) :
    ReturnsInHanded {} Try.checked os 3 .any (Rows.fnNothingSpec.pre6 enc Try.prog Try.f3 Rows.fnNothingRow.domain false) (Rows.fnNothingSpec.post enc Try.prog Try.f3 false true false false) := by
  refine returnsInHanded_of_change (C := Try.checked) own started (by kernel_rfl) Try.func3
    (ChangeSpec.witness6 (enc := enc) (C := Try.checked) false ⟨#[], #[.slice none 0 0], []⟩ 8 (by kernel_rfl) (by kernel_rfl) (by kernel_rfl) (by kernel_rfl)) ?_
  intro W base args ds gs before hval0 hW hcnd _
  have hval : ∀ (j : Nat) t v, Try.f3.params[j]? = some t → args[j]? = some v → Value.okWide Try.prog W .any base t v := hval0
  have hW' := hW
  obtain ⟨p, q, hA0, hV, rfl, hfz, hnd⟩ := hW
  have hA : DataW.TrodAll enc Try.prog W 0 (fun _ => true) true Try.f3.params.toList args.toList ds p := hA0
  rw [Try.params3] at hA hval
  obtain ⟨v0, vs0, d0, ds0, p0, q0, hargs, rfl, rfl, h0, r0⟩ := trodAll_cons hA
  obtain ⟨rfl, rfl, rfl⟩ := trodAll_nil r0
  obtain rfl : args = #[v0] := by cases args; simp_all
  obtain ⟨rfl, rfl⟩ := trodVars_none hV
  obtain ⟨a0, len0, cap0, rfl⟩ := okWide_slice Try.underlying22 (hval 0 22 v0 rfl rfl)
  have k0 := h0
  have lt0 : ∀ x ∈ p0, x.block < W.heap.size := by obtain ⟨m, hm⟩ := k0; exact DataW.trod_lt m _ _ _ hm
  obtain ⟨z0, w0⟩ : ∃ zs, IsRow .u8 W a0 len0 cap0 zs := by
    obtain ⟨fuel, hf⟩ := h0
    rcases open_ints Try.underlying22 Try.underlying5 (by kernel_rfl) hf with ⟨hcs, _⟩ | ⟨x, l, c, zs, hcs, _, hl, hm, hz, _, hcell, hwz⟩
    · simp [Value.cells] at hcs
      obtain ⟨rfl, rfl, rfl⟩ := hcs
      exact ⟨[], .inl ⟨rfl, rfl, rfl, rfl⟩⟩
    · simp [Value.cells] at hcs
      obtain ⟨rfl, rfl, rfl⟩ := hcs
      exact ⟨zs, .inr ⟨_, rfl, hl, hm, by simpa using hz, hcell, hwz⟩⟩
  clear hA0 hval0
  refine (walk a0 len0 cap0 z0 W w0).mono fun e W' ⟨he, bel⟩ => ?_
  subst he
  exact ⟨_, rfl, _, _, _, [], _, [], hW', trodAll_mk1 (shut_bool Try.underlying4 _), (trodAll_cons_mk (Below.trod laidOut (by kernel_rfl) (of_decide_eq_true (by kernel_rfl)) k0 bel lt0) trodAll_mk0), rfl, bel.frame _, fun h => by cases h⟩

theorem over : Rows.fnNothingRow.holds Try.pinned (OpenSpec.ofChange Rows.fnNothingSpec) :=
  OpenClaim.holds_of_wide 3 Try.f3 rfl rfl rfl rfl rfl rfl rfl ⟨rfl, rfl, rfl, rfl, rfl⟩ rfl rfl rfl rfl rfl (by kernel_rfl) Try.func3 (by kernel_rfl)
    (of_decide_eq_true (by kernel_rfl)) (by unfold Func.isWrapper; first | (rw [if_pos (by decide +kernel)]; kernel_rfl) | (rw [if_neg (by decide +kernel)]; exact ⟨rfl, rfl⟩))
    (fun os started H enc _ => lifted os started H enc)

/-- ████ THE STATEMENT ████ -/
theorem proved : Rows.FnNothingSaid := over
end Go.Proofs.Ytlbmbjgbihljhai.fnNothing
namespace Go.Proofs.Ytlbmbjgbihljhai
theorem fnNothing_holds : Rows.FnNothingSaid := fnNothing.proved
#print axioms fnNothing_holds
end Go.Proofs.Ytlbmbjgbihljhai
