/-
  Walks: the specification's l9Node.
-/
import Derived.Test.YtpmcipnookjmgaaTreeM
import Derived.Test.YtpmcipnookjmgaaTreeQ
import Derived.Test.YtpmcipnookjmgaaCodeS
namespace Go.Proofs.Ytpmcipnookjmgaa
open Go.RowKit
set_option linter.unusedVariables false
set_option linter.unusedSimpArgs false
theorem noFun_false {a b c : Int} (h : noFun a b c = false) : ¬ a = 0 ∨ (a = 0 ∧ ¬ b = 0) ∨ (a = 0 ∧ b = 0 ∧ ¬ c = 0) := by unfold noFun at h; have := of_decide_eq_false h; omega
theorem noFun_true {a b c : Int} (h : noFun a b c = true) : a = 0 ∧ b = 0 ∧ c = 0 := of_decide_eq_true h
section
variable {e1 e2 e3 e4 e5 : Int} {l o : List Int} {w : World} {xa oa : Option Addr} {xc oc k : Nat}
set_option maxRecDepth 20000 in
set_option maxHeartbeats 8000000 in
theorem node1_spec (h : IntsI w (.slice xa l.length xc) l) (hl : l.length ≤ 1048576) : Calls Try.prog 25 #[.agg #[.int .i64 1, .int .i64 e1, .int .i64 e2, .int .i64 e3, .int .i64 e4, .int .i64 e5, .slice xa l.length xc], .int .i64 (k : Int), .slice oa k oc] w fun r w' => r = .returned (.tuple #[.int .i64 (1), .bool (decide (e1 = 0) && decide (e2 = 0) && noFun e3 e4 e5 && numsB l)]) ∧ Below w.heap.size w w' := by
  obtain ⟨_, _, ev, _, hi⟩ := h
  cases ev
  have HN : Hid (∀ W, Below w.heap.size w W → Calls Try.prog 35 #[.slice xa l.length xc] W fun e w' => e = .returned (.bool (numsB l)) ∧ w' = W) := fun W hb => nums9_spec xc (hi.keep hb) hl
  clear hi
  generalize numsB l = q at *
  go_enter Try.func25, Try.ntmps25
  go_wp2_with (go_at_call 35; refine (HN.out _ two_below).mono ?_; rintro r w1 ⟨rfl, hw⟩; subst w1)
  all_goals
    go_ret2
    refine ⟨congrArg (fun b => Ending.returned (.tuple #[.int .i64 1, .bool b])) ?_, two_below⟩
    simp_all [noFun]
set_option maxRecDepth 20000 in
set_option maxHeartbeats 8000000 in
theorem node2_spec  : Calls Try.prog 25 #[.agg #[.int .i64 2, .int .i64 e1, .int .i64 e2, .int .i64 e3, .int .i64 e4, .int .i64 e5, .slice xa l.length xc], .int .i64 (k : Int), .slice oa k oc] w fun r w' => r = .returned (.tuple #[.int .i64 (1), .bool (decide (0 ≤ e1 ∧ e1 ≤ 25) && decide (e2 = 0) && noFun e3 e4 e5 && decide (l.length = 0))]) ∧ Below w.heap.size w w' := by
  generalize l.length = n at *
  have E : decide (0 ≤ e1 ∧ e1 ≤ 25) = (decide (0 ≤ e1) && decide (e1 ≤ 25)) := by rw [Bool.eq_iff_iff]; simp
  rw [E]
  clear E
  cases hq : (decide (0 ≤ e1) && decide (e1 ≤ 25))
  · rw [Bool.false_and, Bool.false_and, Bool.false_and]
    have HI : Hid (∀ W, Calls Try.prog 24 #[.int .i64 e1, .int .i64 0, .int .i64 25] W fun e w' => e = .returned (.bool false) ∧ w' = W) := fun W => by rw [← hq]; exact in_spec _ _ _ _
    clear hq
    go_enter Try.func25, Try.ntmps25
    go_wp2_with fail
    go_quiet ((go_at_call 24; exact Calls.quiet_of_same (HI.out _)))
    go_wp2
    go_ret2
    exact ⟨rfl, bDrewN two_below _⟩
  · rw [Bool.true_and]
    have HI : Hid (∀ W, Calls Try.prog 24 #[.int .i64 e1, .int .i64 0, .int .i64 25] W fun e w' => e = .returned (.bool true) ∧ w' = W) := fun W => by rw [← hq]; exact in_spec _ _ _ _
    clear hq
    by_cases h2 : e2 = 0
    · subst h2
      rw [show decide ((0 : Int) = 0) = true from rfl, Bool.true_and]
      cases hf : noFun e3 e4 e5
      · rw [Bool.false_and]
        rcases noFun_false hf with y3 | ⟨rfl, y4⟩ | ⟨rfl, rfl, y5⟩
        · clear hf
          have z3 : (e3 == 0) = false := by simpa using y3
          have t3 : decide (e3 = 0) = false := decide_eq_false y3
          go_enter Try.func25, Try.ntmps25
          go_wp2_with fail
          go_quiet ((go_at_call 24; exact Calls.quiet_of_same (HI.out _)))
          go_wp2
          go_ret2
          exact ⟨rfl, bDrewN two_below _⟩
        · clear hf
          have z4 : (e4 == 0) = false := by simpa using y4
          have t4 : decide (e4 = 0) = false := decide_eq_false y4
          go_enter Try.func25, Try.ntmps25
          go_wp2_with fail
          go_quiet ((go_at_call 24; exact Calls.quiet_of_same (HI.out _)))
          go_wp2
          go_ret2
          exact ⟨rfl, bDrewN two_below _⟩
        · clear hf
          have z5 : (e5 == 0) = false := by simpa using y5
          have t5 : decide (e5 = 0) = false := decide_eq_false y5
          go_enter Try.func25, Try.ntmps25
          go_wp2_with fail
          go_quiet ((go_at_call 24; exact Calls.quiet_of_same (HI.out _)))
          go_wp2
          go_ret2
          exact ⟨rfl, bDrewN two_below _⟩
      · rw [Bool.true_and]
        obtain ⟨rfl, rfl, rfl⟩ := noFun_true hf
        clear hf
        by_cases hn : n = 0
        · subst hn
          go_enter Try.func25, Try.ntmps25
          go_wp2_with fail
          go_quiet ((go_at_call 24; exact Calls.quiet_of_same (HI.out _)))
          go_wp2
          go_ret2
          exact ⟨rfl, bDrewN two_below _⟩
        · have n1 : ((n : Int) == 0) = false := by simpa using hn
          rw [decide_eq_false hn]
          clear hn
          go_enter Try.func25, Try.ntmps25
          go_wp2_with fail
          go_quiet ((go_at_call 24; exact Calls.quiet_of_same (HI.out _)))
          go_wp2
          go_ret2
          exact ⟨rfl, bDrewN two_below _⟩
    · have b2 : (e2 == 0) = false := by simpa using h2
      rw [decide_eq_false h2, Bool.false_and, Bool.false_and]
      clear h2
      go_enter Try.func25, Try.ntmps25
      go_wp2_with fail
      go_quiet ((go_at_call 24; exact Calls.quiet_of_same (HI.out _)))
      go_wp2
      go_ret2
      exact ⟨rfl, bDrewN two_below _⟩
theorem own_at {K : Nat} {X : Int} (ho : Ints w oa o) (hk : K < o.length) (hX : o.getD K 0 = X) : ∃ b1 o1, oa = some ⟨b1, o1, none⟩ ∧ (∀ W, Below w.heap.size w W → W.cell? ⟨b1, o1 + K, none⟩ = some (.int .i64 X)) := by
  obtain ⟨b1, o1, rfl, hb1, c1⟩ := ho.at hk
  rw [hX] at c1
  exact ⟨b1, o1, rfl, fun W hb => (hb.cell (p := ⟨b1, o1 + K, none⟩) hb1).trans c1⟩
set_option maxRecDepth 20000 in
set_option maxHeartbeats 8000000 in
theorem node3_first {n : Nat} : Calls Try.prog 25 #[.agg #[.int .i64 3, .int .i64 e1, .int .i64 e2, .int .i64 e3, .int .i64 e4, .int .i64 e5, .slice xa n xc], .int .i64 0, .slice oa 0 oc] w fun r w' => r = .returned (.tuple #[.int .i64 (0), .bool (false)]) ∧ Below w.heap.size w w' := by
  go_enter Try.func25, Try.ntmps25
  go_wp2
  go_ret2
  exact ⟨rfl, two_below⟩
set_option maxRecDepth 20000 in
set_option maxHeartbeats 8000000 in
theorem node3_bad {K n : Nat} (hK : K ≤ 60) (h2 : e2 ≠ (K : Int)) : Calls Try.prog 25 #[.agg #[.int .i64 3, .int .i64 e1, .int .i64 e2, .int .i64 e3, .int .i64 e4, .int .i64 e5, .slice xa n xc], .int .i64 ((K : Int) + 1), .slice oa (K + 1) oc] w fun r w' => r = .returned (.tuple #[.int .i64 (0), .bool (false)]) ∧ Below w.heap.size w w' := by
  have g1 : ¬ ((K : Int) + 1 < 1) := by omega
  have g2 : (e2 != (K : Int)) = true := by simpa using h2
  have g3 : (e2 == (K : Int)) = false := by simpa using h2
  go_enter Try.func25, Try.ntmps25
  go_wp2
  go_ret2
  exact ⟨rfl, two_below⟩
set_option maxRecDepth 20000 in
set_option maxHeartbeats 8000000 in
theorem node4_first {n : Nat} : Calls Try.prog 25 #[.agg #[.int .i64 4, .int .i64 e1, .int .i64 e2, .int .i64 e3, .int .i64 e4, .int .i64 e5, .slice xa n xc], .int .i64 0, .slice oa 0 oc] w fun r w' => r = .returned (.tuple #[.int .i64 (0), .bool (false)]) ∧ Below w.heap.size w w' := by
  go_enter Try.func25, Try.ntmps25
  go_wp2
  go_ret2
  exact ⟨rfl, two_below⟩
set_option maxRecDepth 20000 in
set_option maxHeartbeats 8000000 in
theorem node4_bad {K n : Nat} (hK : K ≤ 60) (h2 : e2 ≠ (K : Int)) : Calls Try.prog 25 #[.agg #[.int .i64 4, .int .i64 e1, .int .i64 e2, .int .i64 e3, .int .i64 e4, .int .i64 e5, .slice xa n xc], .int .i64 ((K : Int) + 1), .slice oa (K + 1) oc] w fun r w' => r = .returned (.tuple #[.int .i64 (0), .bool (false)]) ∧ Below w.heap.size w w' := by
  have g1 : ¬ ((K : Int) + 1 < 1) := by omega
  have g2 : (e2 != (K : Int)) = true := by simpa using h2
  have g3 : (e2 == (K : Int)) = false := by simpa using h2
  go_enter Try.func25, Try.ntmps25
  go_wp2
  go_ret2
  exact ⟨rfl, two_below⟩
set_option maxRecDepth 20000 in
set_option maxHeartbeats 8000000 in
theorem node3_good {K n : Nat} (ho : Ints w oa o) (hl : o.length = K + 1) {X : Int} (hX : o.getD K 0 = X) (hX1 : 1 ≤ X) (hX2 : X ≤ 60) (hK : K ≤ 60) : Calls Try.prog 25 #[.agg #[.int .i64 3, .int .i64 e1, .int .i64 (K : Int), .int .i64 e3, .int .i64 e4, .int .i64 e5, .slice xa n xc], .int .i64 ((K : Int) + 1), .slice oa (K + 1) oc] w fun r w' => r = .returned (.tuple #[.int .i64 (X + 1), .bool (decide (0 ≤ e1 ∧ e1 ≤ 25) && noFun e3 e4 e5 && decide (n = 0))]) ∧ Below w.heap.size w w' := by
  have E : decide (0 ≤ e1 ∧ e1 ≤ 25) = (decide (0 ≤ e1) && decide (e1 ≤ 25)) := by rw [Bool.eq_iff_iff]; simp
  rw [E]
  clear E
  cases hq : (decide (0 ≤ e1) && decide (e1 ≤ 25))
  · rw [Bool.false_and, Bool.false_and]
    have HI : Hid (∀ W, Calls Try.prog 24 #[.int .i64 e1, .int .i64 0, .int .i64 25] W fun e w' => e = .returned (.bool false) ∧ w' = W) := fun W => by rw [← hq]; exact in_spec _ _ _ _
    clear hq
    have g1 : ¬ ((K : Int) + 1 < 1) := by omega
    have g2 : ((K : Int) != (K : Int)) = false := by simp
    obtain ⟨b1, o1, rfl, hc1⟩ := own_at ho (by omega) hX
    have c1 := hc1 _ (two_below (A := .cells #[.int .i64 3, .int .i64 e1, .int .i64 (K : Int), .int .i64 e3, .int .i64 e4, .int .i64 e5, .slice xa n xc] 44) (B := .cells #[.int .i64 0, .int .i64 0, .int .i64 0] 41))
    have g4 : (K : Int) < ((K + 1 : Nat) : Int) := by omega
    have g5 : (K : Int) < (K : Int) + 1 := by omega
    have gz : (0 : Int) ≤ (K : Int) := by omega
    have gw : IntKind.i64.wrap ((K : Int) + 1 - 1) = (K : Int) := by rw [IntKind.wrap_i64]; omega
    have gv : IntKind.i64.wrap (K : Int) = (K : Int) := by rw [IntKind.wrap_i64]; omega
    have gx : IntKind.i64.wrap (X + 1) = X + 1 := by rw [IntKind.wrap_i64]; omega
    go_enter Try.func25, Try.ntmps25
    go_wp2_with fail
    go_quiet ((go_at_call 24; exact Calls.quiet_of_same (HI.out _)))
    go_wp2
    go_ret2
    exact ⟨rfl, bDrewN two_below _⟩
  · rw [Bool.true_and]
    have HI : Hid (∀ W, Calls Try.prog 24 #[.int .i64 e1, .int .i64 0, .int .i64 25] W fun e w' => e = .returned (.bool true) ∧ w' = W) := fun W => by rw [← hq]; exact in_spec _ _ _ _
    clear hq
    cases hf : noFun e3 e4 e5
    · rw [Bool.false_and]
      rcases noFun_false hf with y3 | ⟨rfl, y4⟩ | ⟨rfl, rfl, y5⟩
      · clear hf
        have z3 : (e3 == 0) = false := by simpa using y3
        have t3 : decide (e3 = 0) = false := decide_eq_false y3
        have g1 : ¬ ((K : Int) + 1 < 1) := by omega
        have g2 : ((K : Int) != (K : Int)) = false := by simp
        obtain ⟨b1, o1, rfl, hc1⟩ := own_at ho (by omega) hX
        have c1 := hc1 _ (two_below (A := .cells #[.int .i64 3, .int .i64 e1, .int .i64 (K : Int), .int .i64 e3, .int .i64 e4, .int .i64 e5, .slice xa n xc] 44) (B := .cells #[.int .i64 0, .int .i64 0, .int .i64 0] 41))
        have g4 : (K : Int) < ((K + 1 : Nat) : Int) := by omega
        have g5 : (K : Int) < (K : Int) + 1 := by omega
        have gz : (0 : Int) ≤ (K : Int) := by omega
        have gw : IntKind.i64.wrap ((K : Int) + 1 - 1) = (K : Int) := by rw [IntKind.wrap_i64]; omega
        have gv : IntKind.i64.wrap (K : Int) = (K : Int) := by rw [IntKind.wrap_i64]; omega
        have gx : IntKind.i64.wrap (X + 1) = X + 1 := by rw [IntKind.wrap_i64]; omega
        go_enter Try.func25, Try.ntmps25
        go_wp2_with fail
        go_quiet ((go_at_call 24; exact Calls.quiet_of_same (HI.out _)))
        go_wp2
        go_ret2
        exact ⟨rfl, bDrewN two_below _⟩
      · clear hf
        have z4 : (e4 == 0) = false := by simpa using y4
        have t4 : decide (e4 = 0) = false := decide_eq_false y4
        have g1 : ¬ ((K : Int) + 1 < 1) := by omega
        have g2 : ((K : Int) != (K : Int)) = false := by simp
        obtain ⟨b1, o1, rfl, hc1⟩ := own_at ho (by omega) hX
        have c1 := hc1 _ (two_below (A := .cells #[.int .i64 3, .int .i64 e1, .int .i64 (K : Int), .int .i64 0, .int .i64 e4, .int .i64 e5, .slice xa n xc] 44) (B := .cells #[.int .i64 0, .int .i64 0, .int .i64 0] 41))
        have g4 : (K : Int) < ((K + 1 : Nat) : Int) := by omega
        have g5 : (K : Int) < (K : Int) + 1 := by omega
        have gz : (0 : Int) ≤ (K : Int) := by omega
        have gw : IntKind.i64.wrap ((K : Int) + 1 - 1) = (K : Int) := by rw [IntKind.wrap_i64]; omega
        have gv : IntKind.i64.wrap (K : Int) = (K : Int) := by rw [IntKind.wrap_i64]; omega
        have gx : IntKind.i64.wrap (X + 1) = X + 1 := by rw [IntKind.wrap_i64]; omega
        go_enter Try.func25, Try.ntmps25
        go_wp2_with fail
        go_quiet ((go_at_call 24; exact Calls.quiet_of_same (HI.out _)))
        go_wp2
        go_ret2
        exact ⟨rfl, bDrewN two_below _⟩
      · clear hf
        have z5 : (e5 == 0) = false := by simpa using y5
        have t5 : decide (e5 = 0) = false := decide_eq_false y5
        have g1 : ¬ ((K : Int) + 1 < 1) := by omega
        have g2 : ((K : Int) != (K : Int)) = false := by simp
        obtain ⟨b1, o1, rfl, hc1⟩ := own_at ho (by omega) hX
        have c1 := hc1 _ (two_below (A := .cells #[.int .i64 3, .int .i64 e1, .int .i64 (K : Int), .int .i64 0, .int .i64 0, .int .i64 e5, .slice xa n xc] 44) (B := .cells #[.int .i64 0, .int .i64 0, .int .i64 0] 41))
        have g4 : (K : Int) < ((K + 1 : Nat) : Int) := by omega
        have g5 : (K : Int) < (K : Int) + 1 := by omega
        have gz : (0 : Int) ≤ (K : Int) := by omega
        have gw : IntKind.i64.wrap ((K : Int) + 1 - 1) = (K : Int) := by rw [IntKind.wrap_i64]; omega
        have gv : IntKind.i64.wrap (K : Int) = (K : Int) := by rw [IntKind.wrap_i64]; omega
        have gx : IntKind.i64.wrap (X + 1) = X + 1 := by rw [IntKind.wrap_i64]; omega
        go_enter Try.func25, Try.ntmps25
        go_wp2_with fail
        go_quiet ((go_at_call 24; exact Calls.quiet_of_same (HI.out _)))
        go_wp2
        go_ret2
        exact ⟨rfl, bDrewN two_below _⟩
    · rw [Bool.true_and]
      obtain ⟨rfl, rfl, rfl⟩ := noFun_true hf
      clear hf
      by_cases hn : n = 0
      · subst hn
        have g1 : ¬ ((K : Int) + 1 < 1) := by omega
        have g2 : ((K : Int) != (K : Int)) = false := by simp
        obtain ⟨b1, o1, rfl, hc1⟩ := own_at ho (by omega) hX
        have c1 := hc1 _ (two_below (A := .cells #[.int .i64 3, .int .i64 e1, .int .i64 (K : Int), .int .i64 0, .int .i64 0, .int .i64 0, .slice xa 0 xc] 44) (B := .cells #[.int .i64 0, .int .i64 0, .int .i64 0] 41))
        have g4 : (K : Int) < ((K + 1 : Nat) : Int) := by omega
        have g5 : (K : Int) < (K : Int) + 1 := by omega
        have gz : (0 : Int) ≤ (K : Int) := by omega
        have gw : IntKind.i64.wrap ((K : Int) + 1 - 1) = (K : Int) := by rw [IntKind.wrap_i64]; omega
        have gv : IntKind.i64.wrap (K : Int) = (K : Int) := by rw [IntKind.wrap_i64]; omega
        have gx : IntKind.i64.wrap (X + 1) = X + 1 := by rw [IntKind.wrap_i64]; omega
        go_enter Try.func25, Try.ntmps25
        go_wp2_with fail
        go_quiet ((go_at_call 24; exact Calls.quiet_of_same (HI.out _)))
        go_wp2
        go_ret2
        exact ⟨rfl, bDrewN two_below _⟩
      · have n1 : ((n : Int) == 0) = false := by simpa using hn
        rw [decide_eq_false hn]
        clear hn
        have g1 : ¬ ((K : Int) + 1 < 1) := by omega
        have g2 : ((K : Int) != (K : Int)) = false := by simp
        obtain ⟨b1, o1, rfl, hc1⟩ := own_at ho (by omega) hX
        have c1 := hc1 _ (two_below (A := .cells #[.int .i64 3, .int .i64 e1, .int .i64 (K : Int), .int .i64 0, .int .i64 0, .int .i64 0, .slice xa n xc] 44) (B := .cells #[.int .i64 0, .int .i64 0, .int .i64 0] 41))
        have g4 : (K : Int) < ((K + 1 : Nat) : Int) := by omega
        have g5 : (K : Int) < (K : Int) + 1 := by omega
        have gz : (0 : Int) ≤ (K : Int) := by omega
        have gw : IntKind.i64.wrap ((K : Int) + 1 - 1) = (K : Int) := by rw [IntKind.wrap_i64]; omega
        have gv : IntKind.i64.wrap (K : Int) = (K : Int) := by rw [IntKind.wrap_i64]; omega
        have gx : IntKind.i64.wrap (X + 1) = X + 1 := by rw [IntKind.wrap_i64]; omega
        go_enter Try.func25, Try.ntmps25
        go_wp2_with fail
        go_quiet ((go_at_call 24; exact Calls.quiet_of_same (HI.out _)))
        go_wp2
        go_ret2
        exact ⟨rfl, bDrewN two_below _⟩
end
end Go.Proofs.Ytpmcipnookjmgaa
