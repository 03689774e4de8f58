/-
  Walks: the program's firstToken.
-/
import Derived.Test.YtcaidhmolnnikaaGreatDoorLexI
namespace Go.Proofs.YtcaidhmolnnikaaGreatDoor
open Go.RowKit
set_option linter.unusedVariables false
set_option linter.unusedSimpArgs false
theorem firstNumber_impl (HC : Cut95) (HAt : AtoiD) (t : ByteArray) (ht : t.size ≤ 300) (h0 : 0 < t.size) {w : World} (he : ErrW w) :
    Calls Tryz.prog 56 #[.string t] w fun e w' => e = .returned (tkOut 1 (numAtS t 0).1 (numAtS t 0).2.1 (numAtS t 0).2.2) ∧ Below w.heap.size w w' := by
  by_cases h : bt t 0 = 95
  · exact firstNumberB HC HAt t ht h0 h he
  · exact firstNumberA HC HAt t ht h0 h he
theorem tkOut_is (k v : Int) (n : Nat) (c : Int) : ∃ a b m d : Int, tkOut k v n c = .tuple #[.agg #[.int .i64 a, .int .i64 b], .int .i64 m, .int .i64 d] := by
  unfold tkOut
  split
  · exact ⟨_, _, _, _, rfl⟩
  · exact ⟨_, _, _, _, rfl⟩
/-- r is the first rune of a text. -/
def Rune0 (t : ByteArray) (r : Int) : Prop := (bt t 0 < 128 ∧ r = bt t 0) ∨ (128 ≤ bt t 0 ∧ 128 ≤ r ∧ r ≤ 2147483647)
theorem rune0_bd {t : ByteArray} {r : Int} (h : Rune0 t r) : 0 ≤ r ∧ r ≤ 2147483647 := by
  have := bt_bd t 0
  rcases h with ⟨_, h⟩ | ⟨_, h1, h2⟩ <;> omega
theorem digD_rune {t : ByteArray} {r : Int} (h0 : 0 < t.size) (h : Rune0 t r) : digD t 0 = (decide (48 ≤ r) && decide (r ≤ 57)) := by
  unfold digD
  rw [decide_eq_true h0, Bool.true_and]
  rcases h with ⟨_, h⟩ | ⟨h1, h2, h3⟩
  · rw [h]
  · rw [Bool.eq_iff_iff]; simp only [Bool.and_eq_true, decide_eq_true_eq]; omega
theorem sign_rune {t : ByteArray} {r : Int} (h : Rune0 t r) : signB (bt t 0) = signB r := by
  rcases h with ⟨_, h⟩ | ⟨h1, h2, h3⟩
  · rw [h]
  · cases e1 : signB (bt t 0)
    · cases e2 : signB r
      · rfl
      · have := sign_bd e2; omega
    · have := sign_bd e1; omega
set_option maxRecDepth 20000 in
set_option maxHeartbeats 4000000 in
theorem firstTokenD (HC : Cut95) (HP : Pre95) (HAt : AtoiD) (t : ByteArray) (ht : t.size ≤ 300) (h0 : 0 < t.size) (r : Int) (hr : Rune0 t r) (hd : digD t 0 = true) {w : World} (he : ErrW w) :
    Calls Tryz.prog 41 #[.int .i32 r, .string t] w fun e w' => e = .returned (tkOut (tkAt t 0).1 (tkAt t 0).2.1 (tkAt t 0).2.2.1 (tkAt t 0).2.2.2) ∧ Below w.heap.size w w' := by
  have hk : tkAt t 0 = (1, (numAtS t 0).1, (numAtS t 0).2.1, (numAtS t 0).2.2) := by unfold tkAt; rw [if_pos (.inl hd)]
  have DQ : Hid (∀ W, Calls Tryz.prog 54 #[.int .i32 r] W fun e w' => e = .returned (.bool true) ∧ w' = W) := fun W => by
    have := isDigit_impl r W
    rw [← digD_rune h0 hr, hd] at this
    exact this
  have FN : Hid (∀ W, ErrW W → Calls Tryz.prog 56 #[.string t] W fun e w' => e = .returned (tkOut 1 (numAtS t 0).1 (numAtS t 0).2.1 (numAtS t 0).2.2) ∧ Below W.heap.size W w') := fun W hW => firstNumber_impl HC HAt t ht h0 hW
  have EW : Hid (ErrW (w.alloc (.cells #[.int .i64 0, .int .i64 0] 29))) := he.on (bAlloc (Below.refl _ _) _)
  rw [hk]
  dsimp only
  obtain ⟨a, b, m, d, hout⟩ := tkOut_is 1 (numAtS t 0).1 (numAtS t 0).2.1 (numAtS t 0).2.2
  rw [hout] at FN ⊢
  have Z0 : Hid ((w.alloc (.cells #[.int .i64 0, .int .i64 0] 29)).heap[w.heap.size]? = some (.cells #[.int .i64 0, .int .i64 0] 29 (0, 0))) := heap_alloc_new w _
  clear hout hk he hr hd 
  go_enter Tryz.func41, Tryz.ntmps41
  go_wp2_with fail
  refine (DQ.out _).mono ?_
  rintro e w1 ⟨rfl, hw1⟩
  subst w1
  go_wp2_with fail
  refine (FN.out _ EW.out).mono ?_
  rintro e w3 ⟨rfl, hb⟩
  have B3 : Hid (Below w.heap.size w w3) := bTrans (bAlloc (Below.refl _ _) _) hb
  have z3 : w3.heap[w.heap.size]? = some (.cells #[.int .i64 0, .int .i64 0] 29 (0, 0)) := (hb.block _ (lt_of_heapA Z0.out)).trans Z0.out
  have Z3 : Hid (w3.heap[w.heap.size]? = some (.cells #[.int .i64 0, .int .i64 0] 29 (0, 0))) := z3
  have zc0 : w3.cell? ⟨w.heap.size, 0, none⟩ = some (.int .i64 0) := cell_at z3 rfl
  have zc1 : w3.cell? ⟨w.heap.size, 1, none⟩ = some (.int .i64 0) := cell_at z3 rfl
  have zf0 : w3.frozen? ⟨w.heap.size, 0, none⟩ = false := free_at z3 _
  have zf1 : w3.frozen? ⟨w.heap.size, 1, none⟩ = false := free_at z3 _
  clear hb z3
  go_wp2
  refine bodyPost_ret (results_tok_2 Tryz.results41 _ _ w.heap.size _ _ rfl (tok_stored Z3.out)) rfl ?_
  exact ⟨rfl, below_setCell (below_setCell B3.out (Nat.le_refl _) _ _) (Nat.le_refl _) _ _⟩
set_option maxRecDepth 20000 in
set_option maxHeartbeats 4000000 in
theorem firstTokenM (HC : Cut95) (HP : Pre95) (HAt : AtoiD) (t : ByteArray) (ht : t.size ≤ 300) (h0 : 0 < t.size) (r : Int) (hr : Rune0 t r) (hd : digD t 0 = false) (hm : bt t 0 = 95) {w : World} (he : ErrW w) :
    Calls Tryz.prog 41 #[.int .i32 r, .string t] w fun e w' => e = .returned (tkOut (tkAt t 0).1 (tkAt t 0).2.1 (tkAt t 0).2.2.1 (tkAt t 0).2.2.2) ∧ Below w.heap.size w w' := by
  have hk : tkAt t 0 = (1, (numAtS t 0).1, (numAtS t 0).2.1, (numAtS t 0).2.2) := by unfold tkAt; rw [if_pos (.inr hm)]
  have DQ : Hid (∀ W, Calls Tryz.prog 54 #[.int .i32 r] W fun e w' => e = .returned (.bool false) ∧ w' = W) := fun W => by
    have := isDigit_impl r W
    rw [← digD_rune h0 hr, hd] at this
    exact this
  have PQ : Hid (∀ W, Calls Tryz.prog 55 #[.string t, .string ⟨#[95]⟩] W fun e w' => e = .returned (.bool true) ∧ w' = W) := fun W => by
    have := HP t W ht
    rw [decide_eq_true hm] at this
    exact this
  have FN : Hid (∀ W, ErrW W → Calls Tryz.prog 56 #[.string t] W fun e w' => e = .returned (tkOut 1 (numAtS t 0).1 (numAtS t 0).2.1 (numAtS t 0).2.2) ∧ Below W.heap.size W w') := fun W hW => firstNumber_impl HC HAt t ht h0 hW
  have EW : Hid (ErrW (w.alloc (.cells #[.int .i64 0, .int .i64 0] 29))) := he.on (bAlloc (Below.refl _ _) _)
  rw [hk]
  dsimp only
  obtain ⟨a, b, m, d, hout⟩ := tkOut_is 1 (numAtS t 0).1 (numAtS t 0).2.1 (numAtS t 0).2.2
  rw [hout] at FN ⊢
  have Z0 : Hid ((w.alloc (.cells #[.int .i64 0, .int .i64 0] 29)).heap[w.heap.size]? = some (.cells #[.int .i64 0, .int .i64 0] 29 (0, 0))) := heap_alloc_new w _
  clear hout hk he hr hd hm
  go_enter Tryz.func41, Tryz.ntmps41
  go_wp2_with fail
  refine (DQ.out _).mono ?_
  rintro e w1 ⟨rfl, hw1⟩
  subst w1
  go_wp2_with fail
  refine (PQ.out _).mono ?_
  rintro e w1 ⟨rfl, hw1⟩
  subst w1
  go_wp2_with fail
  refine (FN.out _ EW.out).mono ?_
  rintro e w3 ⟨rfl, hb⟩
  have B3 : Hid (Below w.heap.size w w3) := bTrans (bAlloc (Below.refl _ _) _) hb
  have z3 : w3.heap[w.heap.size]? = some (.cells #[.int .i64 0, .int .i64 0] 29 (0, 0)) := (hb.block _ (lt_of_heapA Z0.out)).trans Z0.out
  have Z3 : Hid (w3.heap[w.heap.size]? = some (.cells #[.int .i64 0, .int .i64 0] 29 (0, 0))) := z3
  have zc0 : w3.cell? ⟨w.heap.size, 0, none⟩ = some (.int .i64 0) := cell_at z3 rfl
  have zc1 : w3.cell? ⟨w.heap.size, 1, none⟩ = some (.int .i64 0) := cell_at z3 rfl
  have zf0 : w3.frozen? ⟨w.heap.size, 0, none⟩ = false := free_at z3 _
  have zf1 : w3.frozen? ⟨w.heap.size, 1, none⟩ = false := free_at z3 _
  clear hb z3
  go_wp2
  refine bodyPost_ret (results_tok_2 Tryz.results41 _ _ w.heap.size _ _ rfl (tok_stored Z3.out)) rfl ?_
  exact ⟨rfl, below_setCell (below_setCell B3.out (Nat.le_refl _) _ _) (Nat.le_refl _) _ _⟩
set_option maxRecDepth 20000 in
set_option maxHeartbeats 4000000 in
theorem firstTokenL (t : ByteArray) (r : Int) (r0 : 0 ≤ r) (r1 : r ≤ 2147483647) (h1 : 65 ≤ r) (h2 : r ≤ 90)
    (DQ : Hid (∀ W, Calls Tryz.prog 54 #[.int .i32 r] W fun e w' => e = .returned (.bool false) ∧ w' = W)) (PQ : Hid (∀ W, Calls Tryz.prog 55 #[.string t, .string ⟨#[95]⟩] W fun e w' => e = .returned (.bool false) ∧ w' = W)) {w : World} :
    Calls Tryz.prog 41 #[.int .i32 r, .string t] w fun e w' => e = .returned (.tuple #[.agg #[.int .i64 (2), .int .i64 (r - 65)], .int .i64 (1), .int .i64 (0)]) ∧ Below w.heap.size w w' := by
  have Z0 : Hid ((w.alloc (.cells #[.int .i64 0, .int .i64 0] 29)).heap[w.heap.size]? = some (.cells #[.int .i64 0, .int .i64 0] 29 (0, 0))) := heap_alloc_new w _
  have B0 : Hid (Below w.heap.size w (w.alloc (.cells #[.int .i64 0, .int .i64 0] 29))) := bAlloc (Below.refl _ _) _
  go_enter Tryz.func41, Tryz.ntmps41
  go_wp2_with fail
  refine (DQ.out _).mono ?_
  rintro e w1 ⟨rfl, hw1⟩
  subst w1
  go_wp2_with fail
  refine (PQ.out _).mono ?_
  rintro e w1 ⟨rfl, hw1⟩
  subst w1
  go_wp2
  refine bodyPost_ret (results_tok_2 Tryz.results41 _ _ w.heap.size _ _ rfl (heap_alloc_new w _)) rfl ?_
  exact ⟨rfl, bAlloc (Below.refl _ _) _⟩
set_option maxRecDepth 20000 in
set_option maxHeartbeats 4000000 in
theorem firstToken40 (t : ByteArray)  
    (DQ : Hid (∀ W, Calls Tryz.prog 54 #[.int .i32 40] W fun e w' => e = .returned (.bool false) ∧ w' = W)) (PQ : Hid (∀ W, Calls Tryz.prog 55 #[.string t, .string ⟨#[95]⟩] W fun e w' => e = .returned (.bool false) ∧ w' = W)) {w : World} :
    Calls Tryz.prog 41 #[.int .i32 40, .string t] w fun e w' => e = .returned (.tuple #[.agg #[.int .i64 (4), .int .i64 (0)], .int .i64 (1), .int .i64 (0)]) ∧ Below w.heap.size w w' := by
  have Z0 : Hid ((w.alloc (.cells #[.int .i64 0, .int .i64 0] 29)).heap[w.heap.size]? = some (.cells #[.int .i64 0, .int .i64 0] 29 (0, 0))) := heap_alloc_new w _
  have B0 : Hid (Below w.heap.size w (w.alloc (.cells #[.int .i64 0, .int .i64 0] 29))) := bAlloc (Below.refl _ _) _
  go_enter Tryz.func41, Tryz.ntmps41
  go_wp2_with fail
  refine (DQ.out _).mono ?_
  rintro e w1 ⟨rfl, hw1⟩
  subst w1
  go_wp2_with fail
  refine (PQ.out _).mono ?_
  rintro e w1 ⟨rfl, hw1⟩
  subst w1
  go_wp2
  refine bodyPost_ret (results_tok_2 Tryz.results41 _ _ w.heap.size _ _ rfl (heap_alloc_new w _)) rfl ?_
  exact ⟨rfl, bAlloc (Below.refl _ _) _⟩
set_option maxRecDepth 20000 in
set_option maxHeartbeats 4000000 in
theorem firstToken41 (t : ByteArray)  
    (DQ : Hid (∀ W, Calls Tryz.prog 54 #[.int .i32 41] W fun e w' => e = .returned (.bool false) ∧ w' = W)) (PQ : Hid (∀ W, Calls Tryz.prog 55 #[.string t, .string ⟨#[95]⟩] W fun e w' => e = .returned (.bool false) ∧ w' = W)) {w : World} :
    Calls Tryz.prog 41 #[.int .i32 41, .string t] w fun e w' => e = .returned (.tuple #[.agg #[.int .i64 (5), .int .i64 (0)], .int .i64 (1), .int .i64 (0)]) ∧ Below w.heap.size w w' := by
  have Z0 : Hid ((w.alloc (.cells #[.int .i64 0, .int .i64 0] 29)).heap[w.heap.size]? = some (.cells #[.int .i64 0, .int .i64 0] 29 (0, 0))) := heap_alloc_new w _
  have B0 : Hid (Below w.heap.size w (w.alloc (.cells #[.int .i64 0, .int .i64 0] 29))) := bAlloc (Below.refl _ _) _
  go_enter Tryz.func41, Tryz.ntmps41
  go_wp2_with fail
  refine (DQ.out _).mono ?_
  rintro e w1 ⟨rfl, hw1⟩
  subst w1
  go_wp2_with fail
  refine (PQ.out _).mono ?_
  rintro e w1 ⟨rfl, hw1⟩
  subst w1
  go_wp2
  refine bodyPost_ret (results_tok_2 Tryz.results41 _ _ w.heap.size _ _ rfl (heap_alloc_new w _)) rfl ?_
  exact ⟨rfl, bAlloc (Below.refl _ _) _⟩
set_option maxRecDepth 20000 in
set_option maxHeartbeats 4000000 in
theorem firstToken58 (t : ByteArray)  
    (DQ : Hid (∀ W, Calls Tryz.prog 54 #[.int .i32 58] W fun e w' => e = .returned (.bool false) ∧ w' = W)) (PQ : Hid (∀ W, Calls Tryz.prog 55 #[.string t, .string ⟨#[95]⟩] W fun e w' => e = .returned (.bool false) ∧ w' = W)) {w : World} :
    Calls Tryz.prog 41 #[.int .i32 58, .string t] w fun e w' => e = .returned (.tuple #[.agg #[.int .i64 (6), .int .i64 (0)], .int .i64 (1), .int .i64 (0)]) ∧ Below w.heap.size w w' := by
  have Z0 : Hid ((w.alloc (.cells #[.int .i64 0, .int .i64 0] 29)).heap[w.heap.size]? = some (.cells #[.int .i64 0, .int .i64 0] 29 (0, 0))) := heap_alloc_new w _
  have B0 : Hid (Below w.heap.size w (w.alloc (.cells #[.int .i64 0, .int .i64 0] 29))) := bAlloc (Below.refl _ _) _
  go_enter Tryz.func41, Tryz.ntmps41
  go_wp2_with fail
  refine (DQ.out _).mono ?_
  rintro e w1 ⟨rfl, hw1⟩
  subst w1
  go_wp2_with fail
  refine (PQ.out _).mono ?_
  rintro e w1 ⟨rfl, hw1⟩
  subst w1
  go_wp2
  refine bodyPost_ret (results_tok_2 Tryz.results41 _ _ w.heap.size _ _ rfl (heap_alloc_new w _)) rfl ?_
  exact ⟨rfl, bAlloc (Below.refl _ _) _⟩
set_option maxRecDepth 20000 in
set_option maxHeartbeats 4000000 in
theorem firstTokenSa (t : ByteArray) (r : Int) (r0 : 0 ≤ r) (r1 : r ≤ 2147483647) (h1 : r < 65) (h4 : ¬ r = 40) (h5 : ¬ r = 41) (h6 : ¬ r = 58)
    (DQ : Hid (∀ W, Calls Tryz.prog 54 #[.int .i32 r] W fun e w' => e = .returned (.bool false) ∧ w' = W)) (PQ : Hid (∀ W, Calls Tryz.prog 55 #[.string t, .string ⟨#[95]⟩] W fun e w' => e = .returned (.bool false) ∧ w' = W)) (SG : Hid (∀ W, Calls Tryz.prog 23 #[.int .i64 r] W fun e w' => e = .returned (.bool true) ∧ Below W.heap.size W w')) {w : World} :
    Calls Tryz.prog 41 #[.int .i32 r, .string t] w fun e w' => e = .returned (.tuple #[.agg #[.int .i64 (3), .int .i64 (r)], .int .i64 (1), .int .i64 (0)]) ∧ Below w.heap.size w w' := by
  have Z0 : Hid ((w.alloc (.cells #[.int .i64 0, .int .i64 0] 29)).heap[w.heap.size]? = some (.cells #[.int .i64 0, .int .i64 0] 29 (0, 0))) := heap_alloc_new w _
  have B0 : Hid (Below w.heap.size w (w.alloc (.cells #[.int .i64 0, .int .i64 0] 29))) := bAlloc (Below.refl _ _) _
  go_enter Tryz.func41, Tryz.ntmps41
  go_wp2_with fail
  refine (DQ.out _).mono ?_
  rintro e w1 ⟨rfl, hw1⟩
  subst w1
  go_wp2_with fail
  refine (PQ.out _).mono ?_
  rintro e w1 ⟨rfl, hw1⟩
  subst w1
  go_wp2_with fail
  refine (SG.out _).mono ?_
  rintro e w3 ⟨rfl, hb⟩
  have B3 : Hid (Below w.heap.size w w3) := bTrans B0.out hb
  have z3 : w3.heap[w.heap.size]? = some (.cells #[.int .i64 0, .int .i64 0] 29 (0, 0)) := (hb.block _ (lt_of_heapA Z0.out)).trans Z0.out
  have Z3 : Hid (w3.heap[w.heap.size]? = some (.cells #[.int .i64 0, .int .i64 0] 29 (0, 0))) := z3
  have zc0 : w3.cell? ⟨w.heap.size, 0, none⟩ = some (.int .i64 0) := cell_at z3 rfl
  have zc1 : w3.cell? ⟨w.heap.size, 1, none⟩ = some (.int .i64 0) := cell_at z3 rfl
  have zf0 : w3.frozen? ⟨w.heap.size, 0, none⟩ = false := free_at z3 _
  have zf1 : w3.frozen? ⟨w.heap.size, 1, none⟩ = false := free_at z3 _
  clear hb z3
  go_wp2
  refine bodyPost_ret (results_tok_2 Tryz.results41 _ _ w.heap.size _ _ rfl (tok_stored Z3.out)) rfl ?_
  exact ⟨rfl, below_setCell (below_setCell B3.out (Nat.le_refl _) _ _) (Nat.le_refl _) _ _⟩
set_option maxRecDepth 20000 in
set_option maxHeartbeats 4000000 in
theorem firstTokenNa (t : ByteArray) (r : Int) (r0 : 0 ≤ r) (r1 : r ≤ 2147483647) (h1 : r < 65) (h4 : ¬ r = 40) (h5 : ¬ r = 41) (h6 : ¬ r = 58)
    (DQ : Hid (∀ W, Calls Tryz.prog 54 #[.int .i32 r] W fun e w' => e = .returned (.bool false) ∧ w' = W)) (PQ : Hid (∀ W, Calls Tryz.prog 55 #[.string t, .string ⟨#[95]⟩] W fun e w' => e = .returned (.bool false) ∧ w' = W)) (SG : Hid (∀ W, Calls Tryz.prog 23 #[.int .i64 r] W fun e w' => e = .returned (.bool false) ∧ Below W.heap.size W w')) {w : World} :
    Calls Tryz.prog 41 #[.int .i32 r, .string t] w fun e w' => e = .returned (.tuple #[.agg #[.int .i64 (0), .int .i64 (0)], .int .i64 (0), .int .i64 (8)]) ∧ Below w.heap.size w w' := by
  have Z0 : Hid ((w.alloc (.cells #[.int .i64 0, .int .i64 0] 29)).heap[w.heap.size]? = some (.cells #[.int .i64 0, .int .i64 0] 29 (0, 0))) := heap_alloc_new w _
  have B0 : Hid (Below w.heap.size w (w.alloc (.cells #[.int .i64 0, .int .i64 0] 29))) := bAlloc (Below.refl _ _) _
  go_enter Tryz.func41, Tryz.ntmps41
  go_wp2_with fail
  refine (DQ.out _).mono ?_
  rintro e w1 ⟨rfl, hw1⟩
  subst w1
  go_wp2_with fail
  refine (PQ.out _).mono ?_
  rintro e w1 ⟨rfl, hw1⟩
  subst w1
  go_wp2_with fail
  refine (SG.out _).mono ?_
  rintro e w3 ⟨rfl, hb⟩
  have B3 : Hid (Below w.heap.size w w3) := bTrans B0.out hb
  have z3 : w3.heap[w.heap.size]? = some (.cells #[.int .i64 0, .int .i64 0] 29 (0, 0)) := (hb.block _ (lt_of_heapA Z0.out)).trans Z0.out
  have Z3 : Hid (w3.heap[w.heap.size]? = some (.cells #[.int .i64 0, .int .i64 0] 29 (0, 0))) := z3
  have zc0 : w3.cell? ⟨w.heap.size, 0, none⟩ = some (.int .i64 0) := cell_at z3 rfl
  have zc1 : w3.cell? ⟨w.heap.size, 1, none⟩ = some (.int .i64 0) := cell_at z3 rfl
  have zf0 : w3.frozen? ⟨w.heap.size, 0, none⟩ = false := free_at z3 _
  have zf1 : w3.frozen? ⟨w.heap.size, 1, none⟩ = false := free_at z3 _
  clear hb z3
  go_wp2
  refine bodyPost_ret (results_tok_2 Tryz.results41 _ _ w.heap.size _ _ rfl (tok_stored Z3.out)) rfl ?_
  exact ⟨rfl, below_setCell (below_setCell B3.out (Nat.le_refl _) _ _) (Nat.le_refl _) _ _⟩
set_option maxRecDepth 20000 in
set_option maxHeartbeats 4000000 in
theorem firstTokenSb (t : ByteArray) (r : Int) (r0 : 0 ≤ r) (r1 : r ≤ 2147483647) (h1 : 65 ≤ r) (h2 : 90 < r) (h4 : ¬ r = 40) (h5 : ¬ r = 41) (h6 : ¬ r = 58)
    (DQ : Hid (∀ W, Calls Tryz.prog 54 #[.int .i32 r] W fun e w' => e = .returned (.bool false) ∧ w' = W)) (PQ : Hid (∀ W, Calls Tryz.prog 55 #[.string t, .string ⟨#[95]⟩] W fun e w' => e = .returned (.bool false) ∧ w' = W)) (SG : Hid (∀ W, Calls Tryz.prog 23 #[.int .i64 r] W fun e w' => e = .returned (.bool true) ∧ Below W.heap.size W w')) {w : World} :
    Calls Tryz.prog 41 #[.int .i32 r, .string t] w fun e w' => e = .returned (.tuple #[.agg #[.int .i64 (3), .int .i64 (r)], .int .i64 (1), .int .i64 (0)]) ∧ Below w.heap.size w w' := by
  have Z0 : Hid ((w.alloc (.cells #[.int .i64 0, .int .i64 0] 29)).heap[w.heap.size]? = some (.cells #[.int .i64 0, .int .i64 0] 29 (0, 0))) := heap_alloc_new w _
  have B0 : Hid (Below w.heap.size w (w.alloc (.cells #[.int .i64 0, .int .i64 0] 29))) := bAlloc (Below.refl _ _) _
  go_enter Tryz.func41, Tryz.ntmps41
  go_wp2_with fail
  refine (DQ.out _).mono ?_
  rintro e w1 ⟨rfl, hw1⟩
  subst w1
  go_wp2_with fail
  refine (PQ.out _).mono ?_
  rintro e w1 ⟨rfl, hw1⟩
  subst w1
  go_wp2_with fail
  refine (SG.out _).mono ?_
  rintro e w3 ⟨rfl, hb⟩
  have B3 : Hid (Below w.heap.size w w3) := bTrans B0.out hb
  have z3 : w3.heap[w.heap.size]? = some (.cells #[.int .i64 0, .int .i64 0] 29 (0, 0)) := (hb.block _ (lt_of_heapA Z0.out)).trans Z0.out
  have Z3 : Hid (w3.heap[w.heap.size]? = some (.cells #[.int .i64 0, .int .i64 0] 29 (0, 0))) := z3
  have zc0 : w3.cell? ⟨w.heap.size, 0, none⟩ = some (.int .i64 0) := cell_at z3 rfl
  have zc1 : w3.cell? ⟨w.heap.size, 1, none⟩ = some (.int .i64 0) := cell_at z3 rfl
  have zf0 : w3.frozen? ⟨w.heap.size, 0, none⟩ = false := free_at z3 _
  have zf1 : w3.frozen? ⟨w.heap.size, 1, none⟩ = false := free_at z3 _
  clear hb z3
  go_wp2
  refine bodyPost_ret (results_tok_2 Tryz.results41 _ _ w.heap.size _ _ rfl (tok_stored Z3.out)) rfl ?_
  exact ⟨rfl, below_setCell (below_setCell B3.out (Nat.le_refl _) _ _) (Nat.le_refl _) _ _⟩
set_option maxRecDepth 20000 in
set_option maxHeartbeats 4000000 in
theorem firstTokenNb (t : ByteArray) (r : Int) (r0 : 0 ≤ r) (r1 : r ≤ 2147483647) (h1 : 65 ≤ r) (h2 : 90 < r) (h4 : ¬ r = 40) (h5 : ¬ r = 41) (h6 : ¬ r = 58)
    (DQ : Hid (∀ W, Calls Tryz.prog 54 #[.int .i32 r] W fun e w' => e = .returned (.bool false) ∧ w' = W)) (PQ : Hid (∀ W, Calls Tryz.prog 55 #[.string t, .string ⟨#[95]⟩] W fun e w' => e = .returned (.bool false) ∧ w' = W)) (SG : Hid (∀ W, Calls Tryz.prog 23 #[.int .i64 r] W fun e w' => e = .returned (.bool false) ∧ Below W.heap.size W w')) {w : World} :
    Calls Tryz.prog 41 #[.int .i32 r, .string t] w fun e w' => e = .returned (.tuple #[.agg #[.int .i64 (0), .int .i64 (0)], .int .i64 (0), .int .i64 (8)]) ∧ Below w.heap.size w w' := by
  have Z0 : Hid ((w.alloc (.cells #[.int .i64 0, .int .i64 0] 29)).heap[w.heap.size]? = some (.cells #[.int .i64 0, .int .i64 0] 29 (0, 0))) := heap_alloc_new w _
  have B0 : Hid (Below w.heap.size w (w.alloc (.cells #[.int .i64 0, .int .i64 0] 29))) := bAlloc (Below.refl _ _) _
  go_enter Tryz.func41, Tryz.ntmps41
  go_wp2_with fail
  refine (DQ.out _).mono ?_
  rintro e w1 ⟨rfl, hw1⟩
  subst w1
  go_wp2_with fail
  refine (PQ.out _).mono ?_
  rintro e w1 ⟨rfl, hw1⟩
  subst w1
  go_wp2_with fail
  refine (SG.out _).mono ?_
  rintro e w3 ⟨rfl, hb⟩
  have B3 : Hid (Below w.heap.size w w3) := bTrans B0.out hb
  have z3 : w3.heap[w.heap.size]? = some (.cells #[.int .i64 0, .int .i64 0] 29 (0, 0)) := (hb.block _ (lt_of_heapA Z0.out)).trans Z0.out
  have Z3 : Hid (w3.heap[w.heap.size]? = some (.cells #[.int .i64 0, .int .i64 0] 29 (0, 0))) := z3
  have zc0 : w3.cell? ⟨w.heap.size, 0, none⟩ = some (.int .i64 0) := cell_at z3 rfl
  have zc1 : w3.cell? ⟨w.heap.size, 1, none⟩ = some (.int .i64 0) := cell_at z3 rfl
  have zf0 : w3.frozen? ⟨w.heap.size, 0, none⟩ = false := free_at z3 _
  have zf1 : w3.frozen? ⟨w.heap.size, 1, none⟩ = false := free_at z3 _
  clear hb z3
  go_wp2
  refine bodyPost_ret (results_tok_2 Tryz.results41 _ _ w.heap.size _ _ rfl (tok_stored Z3.out)) rfl ?_
  exact ⟨rfl, below_setCell (below_setCell B3.out (Nat.le_refl _) _ _) (Nat.le_refl _) _ _⟩
theorem firstToken_impl (HC : Cut95) (HP : Pre95) (HAt : AtoiD) (t : ByteArray) (ht : t.size ≤ 300) (h0 : 0 < t.size) (r : Int) (hr : Rune0 t r) {w : World} (he : ErrW w) :
    Calls Tryz.prog 41 #[.int .i32 r, .string t] w fun e w' => e = .returned (tkOut (tkAt t 0).1 (tkAt t 0).2.1 (tkAt t 0).2.2.1 (tkAt t 0).2.2.2) ∧ Below w.heap.size w w' := by
  cases hd : digD t 0
  · by_cases hm : bt t 0 = 95
    · exact firstTokenM HC HP HAt t ht h0 r hr hd hm he
    · have DQ : Hid (∀ W, Calls Tryz.prog 54 #[.int .i32 r] W fun e w' => e = .returned (.bool false) ∧ w' = W) := fun W => by
        have := isDigit_impl r W
        rw [← digD_rune h0 hr, hd] at this
        exact this
      have PQ : Hid (∀ W, Calls Tryz.prog 55 #[.string t, .string ⟨#[95]⟩] W fun e w' => e = .returned (.bool false) ∧ w' = W) := fun W => by
        have := HP t W ht
        rw [decide_eq_false hm] at this
        exact this
      have SG : ∀ b, signB r = b → Hid (∀ W, Calls Tryz.prog 23 #[.int .i64 r] W fun e w' => e = .returned (.bool b) ∧ Below W.heap.size W w') := fun b hb W => by
        have := sign_impl r W
        rw [hb] at this
        exact this
      obtain ⟨r0, r1⟩ := rune0_bd hr
      have hno : ¬ (digD t 0 = true ∨ bt t 0 = 95) := by rw [hd]; simp [hm]
      have hk : tkAt t 0 = (if 65 ≤ r ∧ r ≤ 90 then (2, r - 65, 0 + 1, 0) else if r = 40 then (4, 0, 0 + 1, 0) else if r = 41 then (5, 0, 0 + 1, 0) else if r = 58 then (6, 0, 0 + 1, 0) else if signB r = true then (3, r, 0 + 1, 0) else (0, 0, 0 + 1, 8)) := by
        unfold tkAt
        rw [if_neg hno, sign_rune hr]
        rcases hr with ⟨_, e⟩ | ⟨e1, e2, e3⟩
        · rw [e]
        · have hs : signB r = false := by
            cases e : signB r
            · rfl
            · have := sign_bd e; omega
          have a1 : ¬ (65 ≤ bt t 0 ∧ bt t 0 ≤ 90) := by omega
          have a2 : ¬ bt t 0 = 40 := by omega
          have a3 : ¬ bt t 0 = 41 := by omega
          have a4 : ¬ bt t 0 = 58 := by omega
          have b1 : ¬ (65 ≤ r ∧ r ≤ 90) := by omega
          have b2 : ¬ r = 40 := by omega
          have b3 : ¬ r = 41 := by omega
          have b4 : ¬ r = 58 := by omega
          have ns : ¬ signB r = true := by rw [hs]; decide
          simp only [if_neg a1, if_neg a2, if_neg a3, if_neg a4, if_neg b1, if_neg b2, if_neg b3, if_neg b4, if_neg ns]
      rw [hk]
      by_cases h1 : 65 ≤ r ∧ r ≤ 90
      · rw [if_pos h1]; exact firstTokenL t r r0 r1 h1.1 h1.2 DQ PQ
      · rw [if_neg h1]
        by_cases h4 : r = 40
        · rw [if_pos h4]; exact (by subst h4; exact firstToken40 t DQ PQ)
        · rw [if_neg h4]
          by_cases h5 : r = 41
          · rw [if_pos h5]; exact (by subst h5; exact firstToken41 t DQ PQ)
          · rw [if_neg h5]
            by_cases h6 : r = 58
            · rw [if_pos h6]; exact (by subst h6; exact firstToken58 t DQ PQ)
            · rw [if_neg h6]
              cases hs : signB r
              · rw [if_neg (by decide)]
                by_cases h7 : r < 65
                · exact firstTokenNa t r r0 r1 h7 h4 h5 h6 DQ PQ (SG _ hs)
                · exact firstTokenNb t r r0 r1 (by omega) (by omega) h4 h5 h6 DQ PQ (SG _ hs)
              · rw [if_pos rfl]
                by_cases h7 : r < 65
                · exact firstTokenSa t r r0 r1 h7 h4 h5 h6 DQ PQ (SG _ hs)
                · exact firstTokenSb t r r0 r1 (by omega) (by omega) h4 h5 h6 DQ PQ (SG _ hs)
  · exact firstTokenD HC HP HAt t ht h0 r hr hd he
end Go.Proofs.YtcaidhmolnnikaaGreatDoor
