/-
  Proved: whatever code it is given, the law FnUnit returns true: a drawn matrix times the one with ones from corner to corner is itself. No condition.
-/
import Derived.Test.YthbppjkafbhdaaaRows
import Derived.WalkKit
import Derived.ProofKit
import Derived.OpenShut
import Derived.ShutString
import Derived.ChangeOld
import Derived.Below
import Derived.Test.YthbppjkafbhdaaaY14
import Derived.Test.YthbppjkafbhdaaaDrawInner
import Derived.Test.YthbppjkafbhdaaaImplInner
import Derived.Test.YthbppjkafbhdaaaY40
import Derived.Test.YthbppjkafbhdaaaY42
import Derived.Test.YthbppjkafbhdaaaY10
import Derived.Test.YthbppjkafbhdaaaY22
import Derived.Test.YthbppjkafbhdaaaY7
import Derived.Test.YthbppjkafbhdaaaY3
namespace Go.Proofs.Ythbppjkafbhdaaa.fnUnit
open Go.ChangeShapes Go.WideShapes Go.ChangeAt Go.RowKit
open Go.ChangeMaps (open_string shut_string)
set_option linter.unusedVariables false
set_option linter.unusedSimpArgs false
set_option linter.unusedVariables false

theorem own : ownKnob Try.prog.godebug = none := by kernel_rfl
theorem laidOut : laidOutB Try.prog = true := by kernel_rfl

/-! ### STEP 1: THE WALK: the Go text returns true, AND WRITES NOTHING THAT WAS THERE: 'Below w.heap.size w w'' (Derived/Below.lean: '.refl', '.alloc', '.drew', '.setCell' at a new block, '.trans'). Open each 'IsRow' by 'rcases' AHEAD of 'go_enter'; part every test ahead of the walk. -/
set_option maxRecDepth 20000 in
set_option maxHeartbeats 8000000 in
theorem walk (a0 : Option Addr) (len0 cap0 : Nat) (z0 : List Int) (w : World) (w0 : IsRow .u8 w a0 len0 cap0 z0) :
    Calls Try.prog 3 #[.slice a0 len0 cap0] w fun e w' => e = .returned (.bool true) ∧ Below w.heap.size w w' := by
  have HS : Hid (Src w.heap.size w a0 len0) := src_of_row w0
  clear w0
  by_cases hbig : (1048576 : Int) < (len0 : Int)
  · go_enter Try.func3, Try.ntmps3
    go_wp2_with (go_at_call 4; refine (big_laws _ _ _ _).mono ?_; rintro e w' ⟨rfl, hw⟩; subst w')
    go_ret
    exact ⟨rfl, Below.refl _ _⟩
  have hb20 : len0 ≤ 1048576 := by omega
  go_enter Try.func3, Try.ntmps3
  go_wp2_with (go_at_call 4; refine (big_laws _ _ _ _).mono ?_; rintro e w' ⟨rfl, hw⟩; subst w')
  refine (drawInner_spec HS.out hb20).mono ?_
  rintro r w1 ⟨pf, pg, v1, v2, s, d, t, f, rfl, ha, hc0, ⟨hls, hld, hlt, hlf⟩, hb⟩
  obtain ⟨a1, c1, b1, e1, rfl, _, _, _, _⟩ := ha.arrI
  obtain ⟨a2, c2, b2, e2, rfl, _, _, _, _⟩ := hc0.arrI
  have N_1 : Hid (Arr w.heap.size w1.heap.size w1 (.agg #[.slice a1 s.length c1, .slice b1 d.length e1]) s d) := ha
  have M_1 : Hid (Arr w.heap.size w1.heap.size w1 (.agg #[.slice a2 t.length c2, .slice b2 f.length e2]) t f) := hc0
  have Ls : Hid (s.length ≤ 1048576) := by show _ ≤ _; omega
  have Ld : Hid (d.length ≤ 1048576) := by show _ ≤ _; omega
  have Lt : Hid (t.length ≤ 1048576) := by show _ ≤ _; omega
  have Lf : Hid (f.length ≤ 1048576) := by show _ ≤ _; omega
  have HT1 : Hid (Below w.heap.size w w1) := hb
  have SZ1 : Hid (w.heap.size ≤ w1.heap.size) := hb.size
  clear hb ha hc0 hls hld hlt hlf
  have OKI : Hid (∀ (W : World) (u : Value), ArrI W u s d → Calls Try.prog 6 #[u] W fun e w' => e = .returned (.bool (arrOk s d)) ∧ Below W.heap.size W w') := fun W u h => arrOk_impl h Ld.out
  have OKS : Hid (∀ (W : World) (u : Value), ArrI W u s d → Calls Try.prog 7 #[u] W fun e w' => e = .returned (.bool (arrOk s d)) ∧ Below W.heap.size W w') := fun W u h => arrOk_spec h Ld.out
  have FG : Hid (arrOk s d = true → s.length = 2 → ∃ m n : Nat, s = [(m : Int), (n : Int)]) := fun ho h2 => by
    obtain ⟨x, y, rfl⟩ := two_of h2
    obtain ⟨p1, _, p3, _, _⟩ := size_q2 (arrOk_shape ho)
    obtain ⟨m, rfl⟩ := Int.eq_ofNat_of_zero_le p1
    obtain ⟨n, rfl⟩ := Int.eq_ofNat_of_zero_le p3
    exact ⟨m, n, rfl⟩
  have SA : Hid (∀ (W : World) (u v : Value), ArrI W u s d → ArrI W v s d → Calls Try.prog 12 #[u, v] W fun e w' => e = .returned (.bool true) ∧ Below W.heap.size W w') := fun W u v h k => by
    have q := same_arr h k Ls.out Ld.out
    simpa using q
  have hbb : (arrOk s d != arrOk s d) = false := by simp
  go_wp2_with fail
  generalize hwz : (w1.alloc (.cells #[.slice a1 s.length c1, .slice b1 d.length e1] 26)).alloc (.cells #[.slice a2 t.length c2, .slice b2 f.length e2] 26) = w2
  have HB2 : Hid (Below w1.heap.size w1 w2) := by rw [← hwz]; exact bAlloc (bAlloc (Below.refl _ _) _) _
  have QN_2 : Hid (Box w2 w1.heap.size (.slice a1 s.length c1) (.slice b1 d.length e1) 26) := by rw [← hwz]; exact (box_new w1 _ _ _).keep (bAlloc (Below.refl _ _) _)
  have N_2 : Hid (Arr w.heap.size w1.heap.size w2 (.agg #[.slice a1 s.length c1, .slice b1 d.length e1]) s d) := N_1.out.keep HB2.out
  have LTQN : Hid (w1.heap.size < w2.heap.size) := QN_2.out.lt
  clear hwz N_1 M_1
  have x0 := QN_2.out.c0
  have x1 := QN_2.out.c1
  go_region_held3 (fun w' => w'.cell? ⟨w1.heap.size, 0, none⟩ = some (.slice a1 s.length c1) ∧ w'.cell? ⟨w1.heap.size, 1, none⟩ = some (.slice b1 d.length e1))
    (first | with_reducible exact ⟨z0, z1⟩ | with_reducible exact ⟨y0, y1⟩ | exact ⟨x0, x1⟩)
    (first
      | (go_at_call 6; refine (OKI.out _ _ (N_2.out.arrI.keep ((Below.refl w2.heap.size w2).drew))).mono ?_; rintro r w3 ⟨rfl, hb⟩; have B3 : Hid (Below w2.heap.size w2 w3) := bTrans ((Below.refl w2.heap.size w2).drew) hb; have y0 := (QN_2.out.keep B3.out).c0; have y1 := (QN_2.out.keep B3.out).c1; clear hb)
      | (go_at_call 7; refine (OKS.out _ _ (N_2.out.arrI.keep B3.out)).mono ?_; rintro r w4 ⟨rfl, hb⟩; have B4 : Hid (Below w2.heap.size w2 w4) := bTrans B3.out hb; have z0 := (QN_2.out.keep B4.out).c0; have z1 := (QN_2.out.keep B4.out).c1; clear hb))
  have HT4 : Hid (Below w.heap.size w w4) := bTrans (bTrans HT1.out HB2.out) B4.out
  have SZ2 : Hid (w1.heap.size ≤ w2.heap.size) := HB2.out.size
  have SZ4 : Hid (w2.heap.size ≤ w4.heap.size) := B4.out.size
  have QN_4 : Hid (Box w4 w1.heap.size (.slice a1 s.length c1) (.slice b1 d.length e1) 26) := QN_2.out.keep B4.out
  have N_4 : Hid (Arr w.heap.size w1.heap.size w4 (.agg #[.slice a1 s.length c1, .slice b1 d.length e1]) s d) := N_2.out.keep B4.out
  clear QN_2 N_2 B3 B4 x0 x1 y0 y1 z0 z1
  have QNc0 := QN_4.out.c0
  have QNc1 := QN_4.out.c1
  go_wp2_with fail
  refine (OKS.out _ _ (N_4.out.arrI)).mono ?_
  rintro r w5 ⟨rfl, hb⟩
  have HB5 : Hid (Below w4.heap.size w4 w5) := hb
  have HT5 : Hid (Below w.heap.size w w5) := bTrans HT4.out HB5.out
  have SZ5 : Hid (w4.heap.size ≤ w5.heap.size) := HB5.out.size
  have QN_5 : Hid (Box w5 w1.heap.size (.slice a1 s.length c1) (.slice b1 d.length e1) 26) := QN_4.out.keep HB5.out
  have N_5 : Hid (Arr w.heap.size w1.heap.size w5 (.agg #[.slice a1 s.length c1, .slice b1 d.length e1]) s d) := N_4.out.keep HB5.out
  clear QN_4 N_4 QNc0 QNc1 hb
  have QNc0 := QN_5.out.c0
  have QNc1 := QN_5.out.c1
  by_cases ho : arrOk s d = true
  · rw [ho]
    by_cases h2 : s.length = 2
    · obtain ⟨m, n, hmn⟩ := FG.out ho h2
      have hl2 : ((s.length : Int) != 2) = false := by rw [h2]; rfl
      have hl3 : ((s.length : Int) == 2) = true := by rw [h2]; rfl
      have hl1 : (1 : Int) < (s.length : Int) := by omega
      obtain ⟨_, _, _, _, ev, iS, _, _, _⟩ := N_5.out.arrI
      cases ev
      obtain ⟨pS, oS, rfl, hpS, tS⟩ := iS.at (k := 1) (by omega)
      rw [show s.getD 1 0 = (n : Int) from by rw [hmn]; rfl] at tS
      have HMN : Hid (s = [(m : Int), (n : Int)]) := hmn
      clear iS hmn h2 FG
      by_cases hn : n ≤ 6
      · have hg6 : ¬ (6 : Int) < (n : Int) := by omega
        have hg7 : decide ((6 : Int) < (n : Int)) = false := by simp; omega
        have okk : ok (n : Int) = true := by simp [ok]; omega
        obtain ⟨S1, hS1⟩ : ∃ S1, S1 = [(n : Int)] := ⟨_, rfl⟩
        obtain ⟨D1, hD1⟩ : ∃ D1, D1 = ups n := ⟨_, rfl⟩
        obtain ⟨S2, hS2⟩ : ∃ S2, S2 = [(n : Int), (n : Int)] := ⟨_, rfl⟩
        obtain ⟨D2, hD2⟩ : ∃ D2, D2 = unitD n := ⟨_, rfl⟩
        have L1 : Hid (S1.length ≤ 1048576 ∧ D1.length ≤ 1048576) := by show _ ∧ _; rw [hS1, hD1]; simp [ups]; omega
        have L2 : Hid (S2.length ≤ 1048576 ∧ D2.length ≤ 1048576) := by
          show _ ∧ _
          rw [hS2, hD2]
          have : n * n ≤ 6 * 6 := Nat.mul_le_mul hn hn
          simp [unitD]; omega
        have hu : arrOk [(n : Int), (n : Int)] (unitD n) = true := by rcases six_cases hn with rfl | rfl | rfl | rfl | rfl | rfl | rfl <;> decide
        have SK : Hid (∀ W, Calls Try.prog 8 #[.int .i64 (n : Int)] W fun e w' => ∃ v, e = .returned (.tuple #[v, .bool true]) ∧ Arr W.heap.size w'.heap.size w' v [] [(n : Int)] ∧ Below W.heap.size W w') := fun W => by
          have q := scalarOf_impl (n : Int) W
          rw [okk, if_pos rfl] at q
          exact q
        have E1 : Hid (∀ (W : World) (u : Value), ArrI W u [] [(n : Int)] → Calls Try.prog 9 #[u] W fun e w' => ∃ v, e = .returned (.tuple #[v, .int .i64 0]) ∧ Arr W.heap.size w'.heap.size w' v S1 D1 ∧ Below W.heap.size W w') := fun W u h => by
          have q := iota_impl h (by simp)
          rw [unit_iota hn] at q
          rw [hS1, hD1]
          exact q
        have E2 : Hid (∀ (W : World) (u v : Value), ArrI W u S1 D1 → ArrI W v S1 D1 → Calls Try.prog 10 #[.int .i64 61, u, v] W fun e w' => ∃ v, e = .returned (.tuple #[v, .int .i64 0]) ∧ Arr W.heap.size w'.heap.size w' v S2 D2 ∧ Below W.heap.size W w') := fun W u v h k => by
          have q := outer_impl (g := 61) h k L1.out.1 L1.out.2 L1.out.1 L1.out.2
          rw [show outerR 61 S1 D1 S1 D1 = (0, S2, D2) from by rw [hS1, hD1, hS2, hD2]; exact unit_outer hn] at q
          exact q
        have E3 : Hid (∀ (W : World) (u v : Value), ArrI W u s d → ArrI W v S2 D2 → Calls Try.prog 11 #[.int .i64 43, .int .i64 42, u, v] W fun e w' => ∃ v, e = .returned (.tuple #[v, .int .i64 0]) ∧ Arr W.heap.size w'.heap.size w' v s d ∧ Below W.heap.size W w') := fun W u v h k => by
          have q := inner_impl (F := 43) (G := 42) h k Ls.out Ld.out L2.out.1 L2.out.2
          rw [show innerR 43 42 s d S2 D2 = (0, s, d) from by rw [HMN.out, hS2, hD2]; rw [HMN.out] at ho; exact unit_inner ho hu] at q
          exact q
        clear hS1 hD1 hS2 hD2 hu okk ho hn HMN
        go_wp2_with fail
        refine (SK.out _).mono ?_
        rintro r w6 ⟨vK, rfl, ha, hb⟩
        obtain ⟨aK, cK, bK, eK, rfl, _, _, _, _⟩ := ha.arrI
        have K_6 : Hid (Arr w5.heap.size w6.heap.size w6 (.agg #[.slice aK 0 cK, .slice bK 1 eK]) [] [(n : Int)]) := ha.mono (by first | exact Nat.le_refl _ | simp | (simp; omega)) (Nat.le_refl _)
        clear ha
        have HB6 : Hid (Below w5.heap.size w5 w6) := hb
        have HT6 : Hid (Below w.heap.size w w6) := bTrans HT5.out HB6.out
        have SZ6 : Hid (w5.heap.size ≤ w6.heap.size) := HB6.out.size
        have QN_6 : Hid (Box w6 w1.heap.size (.slice (some ⟨pS, oS, none⟩) s.length c1) (.slice b1 d.length e1) 26) := QN_5.out.keep HB6.out
        have N_6 : Hid (Arr w.heap.size w1.heap.size w6 (.agg #[.slice (some ⟨pS, oS, none⟩) s.length c1, .slice b1 d.length e1]) s d) := N_5.out.keep HB6.out
        clear QN_5 N_5 QNc0 QNc1 hb
        clear tS hl2 hl3 hl1 hg6 hg7
        have QNc0 := QN_6.out.c0
        have QNc1 := QN_6.out.c1
        have QNd0 : ∀ o : Obj, (w6.alloc o).cell? ⟨w1.heap.size, 0, none⟩ = some (.slice (some ⟨pS, oS, none⟩) s.length c1) := fun o => (QN_6.out.keep (bAlloc (Below.refl _ _) o)).c0
        have QNd1 : ∀ o : Obj, (w6.alloc o).cell? ⟨w1.heap.size, 1, none⟩ = some (.slice b1 d.length e1) := fun o => (QN_6.out.keep (bAlloc (Below.refl _ _) o)).c1
        go_wp2_with fail
        refine (E1.out _ _ ((K_6.out.arrI).keep (bAlloc (Below.refl _ _) _))).mono ?_
        rintro r w7 ⟨vG, rfl, ha, hb⟩
        obtain ⟨aG, cG, bG, eG, rfl, _, _, _, _⟩ := ha.arrI
        have G_7 : Hid (Arr (w6.heap.size + 1) w7.heap.size w7 (.agg #[.slice aG S1.length cG, .slice bG D1.length eG]) S1 D1) := ha.mono (by first | exact Nat.le_refl _ | simp | (simp; omega)) (Nat.le_refl _)
        clear ha
        have HB7 : Hid (Below w6.heap.size w6 w7) := bTrans (bAlloc (Below.refl _ _) _) hb
        have HT7 : Hid (Below w.heap.size w w7) := bTrans HT6.out HB7.out
        have SZ7 : Hid (w6.heap.size ≤ w7.heap.size) := HB7.out.size
        have QN_7 : Hid (Box w7 w1.heap.size (.slice (some ⟨pS, oS, none⟩) s.length c1) (.slice b1 d.length e1) 26) := QN_6.out.keep HB7.out
        have N_7 : Hid (Arr w.heap.size w1.heap.size w7 (.agg #[.slice (some ⟨pS, oS, none⟩) s.length c1, .slice b1 d.length e1]) s d) := N_6.out.keep HB7.out
        have K_7 : Hid (Arr w5.heap.size w6.heap.size w7 (.agg #[.slice aK 0 cK, .slice bK 1 eK]) [] [(n : Int)]) := K_6.out.keep HB7.out
        have QK_7 : Hid (Box w7 w6.heap.size (.slice aK 0 cK) (.slice bK 1 eK) 26) := (box_new w6 _ _ _).keep hb
        have LTQK : Hid (w6.heap.size < w7.heap.size) := QK_7.out.lt
        clear QN_6 N_6 K_6 QNc0 QNc1 QNd0 QNd1 hb
        have QNc0 := QN_7.out.c0
        have QNc1 := QN_7.out.c1
        have QNd0 : ∀ o : Obj, (w7.alloc o).cell? ⟨w1.heap.size, 0, none⟩ = some (.slice (some ⟨pS, oS, none⟩) s.length c1) := fun o => (QN_7.out.keep (bAlloc (Below.refl _ _) o)).c0
        have QNd1 : ∀ o : Obj, (w7.alloc o).cell? ⟨w1.heap.size, 1, none⟩ = some (.slice b1 d.length e1) := fun o => (QN_7.out.keep (bAlloc (Below.refl _ _) o)).c1
        have QKc0 := QK_7.out.c0
        have QKc1 := QK_7.out.c1
        have QKd0 : ∀ o : Obj, (w7.alloc o).cell? ⟨w6.heap.size, 0, none⟩ = some (.slice aK 0 cK) := fun o => (QK_7.out.keep (bAlloc (Below.refl _ _) o)).c0
        have QKd1 : ∀ o : Obj, (w7.alloc o).cell? ⟨w6.heap.size, 1, none⟩ = some (.slice bK 1 eK) := fun o => (QK_7.out.keep (bAlloc (Below.refl _ _) o)).c1
        go_wp2_with fail
        refine (E2.out _ _ _ ((G_7.out.arrI).keep (bAlloc (Below.refl _ _) _)) ((G_7.out.arrI).keep (bAlloc (Below.refl _ _) _))).mono ?_
        rintro r w8 ⟨vX, rfl, ha, hb⟩
        obtain ⟨aX, cX, bX, eX, rfl, _, _, _, _⟩ := ha.arrI
        have X_8 : Hid (Arr (w7.heap.size + 1) w8.heap.size w8 (.agg #[.slice aX S2.length cX, .slice bX D2.length eX]) S2 D2) := ha.mono (by first | exact Nat.le_refl _ | simp | (simp; omega)) (Nat.le_refl _)
        clear ha
        have HB8 : Hid (Below w7.heap.size w7 w8) := bTrans (bAlloc (Below.refl _ _) _) hb
        have HT8 : Hid (Below w.heap.size w w8) := bTrans HT7.out HB8.out
        have SZ8 : Hid (w7.heap.size ≤ w8.heap.size) := HB8.out.size
        have QN_8 : Hid (Box w8 w1.heap.size (.slice (some ⟨pS, oS, none⟩) s.length c1) (.slice b1 d.length e1) 26) := QN_7.out.keep HB8.out
        have QK_8 : Hid (Box w8 w6.heap.size (.slice aK 0 cK) (.slice bK 1 eK) 26) := QK_7.out.keep HB8.out
        have N_8 : Hid (Arr w.heap.size w1.heap.size w8 (.agg #[.slice (some ⟨pS, oS, none⟩) s.length c1, .slice b1 d.length e1]) s d) := N_7.out.keep HB8.out
        have G_8 : Hid (Arr (w6.heap.size + 1) w7.heap.size w8 (.agg #[.slice aG S1.length cG, .slice bG D1.length eG]) S1 D1) := G_7.out.keep HB8.out
        have QG_8 : Hid (Box w8 w7.heap.size (.slice aG S1.length cG) (.slice bG D1.length eG) 26) := (box_new w7 _ _ _).keep hb
        have LTQG : Hid (w7.heap.size < w8.heap.size) := QG_8.out.lt
        clear QN_7 QK_7 N_7 G_7 QNc0 QNc1 QNd0 QNd1 QKc0 QKc1 QKd0 QKd1 hb
        have QNc0 := QN_8.out.c0
        have QNc1 := QN_8.out.c1
        have QNd0 : ∀ o : Obj, (w8.alloc o).cell? ⟨w1.heap.size, 0, none⟩ = some (.slice (some ⟨pS, oS, none⟩) s.length c1) := fun o => (QN_8.out.keep (bAlloc (Below.refl _ _) o)).c0
        have QNd1 : ∀ o : Obj, (w8.alloc o).cell? ⟨w1.heap.size, 1, none⟩ = some (.slice b1 d.length e1) := fun o => (QN_8.out.keep (bAlloc (Below.refl _ _) o)).c1
        have QKc0 := QK_8.out.c0
        have QKc1 := QK_8.out.c1
        have QKd0 : ∀ o : Obj, (w8.alloc o).cell? ⟨w6.heap.size, 0, none⟩ = some (.slice aK 0 cK) := fun o => (QK_8.out.keep (bAlloc (Below.refl _ _) o)).c0
        have QKd1 : ∀ o : Obj, (w8.alloc o).cell? ⟨w6.heap.size, 1, none⟩ = some (.slice bK 1 eK) := fun o => (QK_8.out.keep (bAlloc (Below.refl _ _) o)).c1
        have QGc0 := QG_8.out.c0
        have QGc1 := QG_8.out.c1
        have QGd0 : ∀ o : Obj, (w8.alloc o).cell? ⟨w7.heap.size, 0, none⟩ = some (.slice aG S1.length cG) := fun o => (QG_8.out.keep (bAlloc (Below.refl _ _) o)).c0
        have QGd1 : ∀ o : Obj, (w8.alloc o).cell? ⟨w7.heap.size, 1, none⟩ = some (.slice bG D1.length eG) := fun o => (QG_8.out.keep (bAlloc (Below.refl _ _) o)).c1
        go_wp2_with fail
        refine (E3.out _ _ _ ((N_8.out.arrI).keep (bAlloc (Below.refl _ _) _)) ((X_8.out.arrI).keep (bAlloc (Below.refl _ _) _))).mono ?_
        rintro r w9 ⟨vY, rfl, ha, hb⟩
        obtain ⟨aY, cY, bY, eY, rfl, _, _, _, _⟩ := ha.arrI
        have Y_9 : Hid (Arr (w8.heap.size + 1) w9.heap.size w9 (.agg #[.slice aY s.length cY, .slice bY d.length eY]) s d) := ha.mono (by first | exact Nat.le_refl _ | simp | (simp; omega)) (Nat.le_refl _)
        clear ha
        have HB9 : Hid (Below w8.heap.size w8 w9) := bTrans (bAlloc (Below.refl _ _) _) hb
        have HT9 : Hid (Below w.heap.size w w9) := bTrans HT8.out HB9.out
        have SZ9 : Hid (w8.heap.size ≤ w9.heap.size) := HB9.out.size
        have QN_9 : Hid (Box w9 w1.heap.size (.slice (some ⟨pS, oS, none⟩) s.length c1) (.slice b1 d.length e1) 26) := QN_8.out.keep HB9.out
        have QK_9 : Hid (Box w9 w6.heap.size (.slice aK 0 cK) (.slice bK 1 eK) 26) := QK_8.out.keep HB9.out
        have QG_9 : Hid (Box w9 w7.heap.size (.slice aG S1.length cG) (.slice bG D1.length eG) 26) := QG_8.out.keep HB9.out
        have N_9 : Hid (Arr w.heap.size w1.heap.size w9 (.agg #[.slice (some ⟨pS, oS, none⟩) s.length c1, .slice b1 d.length e1]) s d) := N_8.out.keep HB9.out
        have X_9 : Hid (Arr (w7.heap.size + 1) w8.heap.size w9 (.agg #[.slice aX S2.length cX, .slice bX D2.length eX]) S2 D2) := X_8.out.keep HB9.out
        have QX_9 : Hid (Box w9 w8.heap.size (.slice aX S2.length cX) (.slice bX D2.length eX) 26) := (box_new w8 _ _ _).keep hb
        have LTQX : Hid (w8.heap.size < w9.heap.size) := QX_9.out.lt
        clear QN_8 QK_8 QG_8 N_8 X_8 QNc0 QNc1 QNd0 QNd1 QKc0 QKc1 QKd0 QKd1 QGc0 QGc1 QGd0 QGd1 hb
        have QNc0 := QN_9.out.c0
        have QNc1 := QN_9.out.c1
        have QNd0 : ∀ o : Obj, (w9.alloc o).cell? ⟨w1.heap.size, 0, none⟩ = some (.slice (some ⟨pS, oS, none⟩) s.length c1) := fun o => (QN_9.out.keep (bAlloc (Below.refl _ _) o)).c0
        have QNd1 : ∀ o : Obj, (w9.alloc o).cell? ⟨w1.heap.size, 1, none⟩ = some (.slice b1 d.length e1) := fun o => (QN_9.out.keep (bAlloc (Below.refl _ _) o)).c1
        have QKc0 := QK_9.out.c0
        have QKc1 := QK_9.out.c1
        have QKd0 : ∀ o : Obj, (w9.alloc o).cell? ⟨w6.heap.size, 0, none⟩ = some (.slice aK 0 cK) := fun o => (QK_9.out.keep (bAlloc (Below.refl _ _) o)).c0
        have QKd1 : ∀ o : Obj, (w9.alloc o).cell? ⟨w6.heap.size, 1, none⟩ = some (.slice bK 1 eK) := fun o => (QK_9.out.keep (bAlloc (Below.refl _ _) o)).c1
        have QGc0 := QG_9.out.c0
        have QGc1 := QG_9.out.c1
        have QGd0 : ∀ o : Obj, (w9.alloc o).cell? ⟨w7.heap.size, 0, none⟩ = some (.slice aG S1.length cG) := fun o => (QG_9.out.keep (bAlloc (Below.refl _ _) o)).c0
        have QGd1 : ∀ o : Obj, (w9.alloc o).cell? ⟨w7.heap.size, 1, none⟩ = some (.slice bG D1.length eG) := fun o => (QG_9.out.keep (bAlloc (Below.refl _ _) o)).c1
        have QXc0 := QX_9.out.c0
        have QXc1 := QX_9.out.c1
        have QXd0 : ∀ o : Obj, (w9.alloc o).cell? ⟨w8.heap.size, 0, none⟩ = some (.slice aX S2.length cX) := fun o => (QX_9.out.keep (bAlloc (Below.refl _ _) o)).c0
        have QXd1 : ∀ o : Obj, (w9.alloc o).cell? ⟨w8.heap.size, 1, none⟩ = some (.slice bX D2.length eX) := fun o => (QX_9.out.keep (bAlloc (Below.refl _ _) o)).c1
        go_wp2_with fail
        refine (SA.out _ _ _ ((N_9.out.arrI).keep (bAlloc (Below.refl _ _) _)) ((Y_9.out.arrI).keep (bAlloc (Below.refl _ _) _))).mono ?_
        rintro r w10 ⟨rfl, hb⟩
        have HB10 : Hid (Below w9.heap.size w9 w10) := bTrans (bAlloc (Below.refl _ _) _) hb
        have HT10 : Hid (Below w.heap.size w w10) := bTrans HT9.out HB10.out
        have SZ10 : Hid (w9.heap.size ≤ w10.heap.size) := HB10.out.size
        have QN_10 : Hid (Box w10 w1.heap.size (.slice (some ⟨pS, oS, none⟩) s.length c1) (.slice b1 d.length e1) 26) := QN_9.out.keep HB10.out
        have QK_10 : Hid (Box w10 w6.heap.size (.slice aK 0 cK) (.slice bK 1 eK) 26) := QK_9.out.keep HB10.out
        have QG_10 : Hid (Box w10 w7.heap.size (.slice aG S1.length cG) (.slice bG D1.length eG) 26) := QG_9.out.keep HB10.out
        have QX_10 : Hid (Box w10 w8.heap.size (.slice aX S2.length cX) (.slice bX D2.length eX) 26) := QX_9.out.keep HB10.out
        have N_10 : Hid (Arr w.heap.size w1.heap.size w10 (.agg #[.slice (some ⟨pS, oS, none⟩) s.length c1, .slice b1 d.length e1]) s d) := N_9.out.keep HB10.out
        have Y_10 : Hid (Arr (w8.heap.size + 1) w9.heap.size w10 (.agg #[.slice aY s.length cY, .slice bY d.length eY]) s d) := Y_9.out.keep HB10.out
        have QY_10 : Hid (Box w10 w9.heap.size (.slice aY s.length cY) (.slice bY d.length eY) 26) := (box_new w9 _ _ _).keep hb
        have LTQY : Hid (w9.heap.size < w10.heap.size) := QY_10.out.lt
        clear QN_9 QK_9 QG_9 QX_9 N_9 Y_9 QNc0 QNc1 QNd0 QNd1 QKc0 QKc1 QKd0 QKd1 QGc0 QGc1 QGd0 QGd1 QXc0 QXc1 QXd0 QXd1 hb
        have QNc0 := QN_10.out.c0
        have QNc1 := QN_10.out.c1
        have QKc0 := QK_10.out.c0
        have QKc1 := QK_10.out.c1
        have QGc0 := QG_10.out.c0
        have QGc1 := QG_10.out.c1
        have QXc0 := QX_10.out.c0
        have QXc1 := QX_10.out.c1
        have QYc0 := QY_10.out.c0
        have QYc1 := QY_10.out.c1
        go_wp2
        go_ret
        exact ⟨rfl, HT10.out⟩
      · have hg6 : (6 : Int) < (n : Int) := by omega
        have hg7 : decide ((6 : Int) < (n : Int)) = true := by simp; omega
        clear hn ho HMN SA
        go_wp2
        go_ret
        exact ⟨rfl, HT5.out⟩
    · have hl2 : ((s.length : Int) != 2) = true := by simp; omega
      have hl3 : ((s.length : Int) == 2) = false := by simp; omega
      clear h2 ho FG SA
      go_wp2
      go_ret
      exact ⟨rfl, HT5.out⟩
  · have ho' : arrOk s d = false := by simpa using ho
    rw [ho']
    clear ho ho' FG SA
    go_wp2
    go_ret
    exact ⟨rfl, HT5.out⟩

/-! ### THE ROW's STEP: WRITTEN OUT: LEAVE IT -/
set_option maxRecDepth 100000 in
theorem lifted (os : Os) (started : os.Started) (H : Type) (enc : TypeId × Value → H) :
    ReturnsInHanded {} Try.checked os 3 .any (Rows.fnUnitSpec.pre6 enc Try.prog Try.f3 Rows.fnUnitRow.domain false) (Rows.fnUnitSpec.post enc Try.prog Try.f3 false true false false) := by
  refine returnsInHanded_of_change (C := Try.checked) own started (by kernel_rfl) Try.func3
    (ChangeSpec.witness6 (enc := enc) (C := Try.checked) false ⟨#[], #[.slice none 0 0], []⟩ 8 (by kernel_rfl) (by kernel_rfl) (by kernel_rfl) (by kernel_rfl)) ?_
  intro W base args ds gs before hval0 hW hcnd _
  have hval : ∀ (j : Nat) t v, Try.f3.params[j]? = some t → args[j]? = some v → Value.okWide Try.prog W .any base t v := hval0
  have hW' := hW
  obtain ⟨p, q, hA0, hV, rfl, hfz, hnd⟩ := hW
  have hA : DataW.TrodAll enc Try.prog W 0 (fun _ => true) true Try.f3.params.toList args.toList ds p := hA0
  rw [Try.params3] at hA hval
  obtain ⟨v0, vs0, d0, ds0, p0, q0, hargs, rfl, rfl, h0, r0⟩ := trodAll_cons hA
  obtain ⟨rfl, rfl, rfl⟩ := trodAll_nil r0
  obtain rfl : args = #[v0] := by cases args; simp_all
  obtain ⟨rfl, rfl⟩ := trodVars_none hV
  obtain ⟨a0, len0, cap0, rfl⟩ := okWide_slice Try.underlying22 (hval 0 22 v0 rfl rfl)
  have k0 := h0
  have lt0 : ∀ x ∈ p0, x.block < W.heap.size := by obtain ⟨m, hm⟩ := k0; exact DataW.trod_lt m _ _ _ hm
  obtain ⟨z0, w0⟩ : ∃ zs, IsRow .u8 W a0 len0 cap0 zs := by
    obtain ⟨fuel, hf⟩ := h0
    rcases open_ints Try.underlying22 Try.underlying5 (by kernel_rfl) hf with ⟨hcs, _⟩ | ⟨x, l, c, zs, hcs, _, hl, hm, hz, _, hcell, hwz⟩
    · simp [Value.cells] at hcs
      obtain ⟨rfl, rfl, rfl⟩ := hcs
      exact ⟨[], .inl ⟨rfl, rfl, rfl, rfl⟩⟩
    · simp [Value.cells] at hcs
      obtain ⟨rfl, rfl, rfl⟩ := hcs
      exact ⟨zs, .inr ⟨_, rfl, hl, hm, by simpa using hz, hcell, hwz⟩⟩
  clear hA0 hval0
  refine (walk a0 len0 cap0 z0 W w0).mono fun e W' ⟨he, bel⟩ => ?_
  subst he
  exact ⟨_, rfl, _, _, _, [], _, [], hW', trodAll_mk1 (shut_bool Try.underlying4 _), (trodAll_cons_mk (Below.trod laidOut (by kernel_rfl) (of_decide_eq_true (by kernel_rfl)) k0 bel lt0) trodAll_mk0), rfl, bel.frame _, fun h => by cases h⟩

theorem over : Rows.fnUnitRow.holds Try.pinned (OpenSpec.ofChange Rows.fnUnitSpec) :=
  OpenClaim.holds_of_wide 3 Try.f3 rfl rfl rfl rfl rfl rfl rfl ⟨rfl, rfl, rfl, rfl, rfl⟩ rfl rfl rfl rfl rfl (by kernel_rfl) Try.func3 (by kernel_rfl)
    (of_decide_eq_true (by kernel_rfl)) (by unfold Func.isWrapper; first | (rw [if_pos (by decide +kernel)]; kernel_rfl) | (rw [if_neg (by decide +kernel)]; exact ⟨rfl, rfl⟩))
    (fun os started H enc _ => lifted os started H enc)

/-- ████ THE STATEMENT ████ -/
theorem proved : Rows.FnUnitSaid := over
end Go.Proofs.Ythbppjkafbhdaaa.fnUnit
namespace Go.Proofs.Ythbppjkafbhdaaa
theorem fnUnit_holds : Rows.FnUnitSaid := fnUnit.proved
#print axioms fnUnit_holds
end Go.Proofs.Ythbppjkafbhdaaa
