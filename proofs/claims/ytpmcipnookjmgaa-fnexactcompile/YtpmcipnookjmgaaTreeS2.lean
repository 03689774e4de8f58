/-
  Walks: the specification's l9Node: functions, and what is no node.
-/
import Derived.Test.YtpmcipnookjmgaaTreeS
namespace Go.Proofs.Ytpmcipnookjmgaa
open Go.RowKit
set_option linter.unusedVariables false
set_option linter.unusedSimpArgs false
section
variable {e1 e2 e3 e4 e5 : Int} {l o : List Int} {w : World} {xa oa : Option Addr} {xc oc k : Nat}
set_option maxRecDepth 20000 in
set_option maxHeartbeats 8000000 in
theorem node4_good {K n : Nat} (ho : Ints w oa o) (hl : o.length = K + 1) {X : Int} (hX : o.getD K 0 = X) (hX1 : 1 ≤ X) (hX2 : X ≤ 60) (hK : K ≤ 60) : Calls Try.prog 25 #[.agg #[.int .i64 4, .int .i64 e1, .int .i64 (K : Int), .int .i64 e3, .int .i64 e4, .int .i64 e5, .slice xa n xc], .int .i64 ((K : Int) + 1), .slice oa (K + 1) oc] w fun r w' => r = .returned (.tuple #[.int .i64 (X + 1), .bool (decide (e1 = 0) && funOneB e3 e4 e5 && decide (n = 0))]) ∧ Below w.heap.size w w' := by
  by_cases h1 : e1 = 0
  · subst h1
    rw [show decide ((0 : Int) = 0) = true from rfl, Bool.true_and]
    cases hq : funOneB e3 e4 e5
    · rw [Bool.false_and]
      have HF : Hid (∀ W, Calls Try.prog 36 #[.agg #[.int .i64 e3, .int .i64 e4, .int .i64 e5]] W fun e w' => e = .returned (.bool false) ∧ Below W.heap.size W w') := fun W => by rw [← hq]; exact funOne_spec _ _ _ _
      clear hq
      have g1 : ¬ ((K : Int) + 1 < 1) := by omega
      have g2 : ((K : Int) != (K : Int)) = false := by simp
      obtain ⟨b1, o1, rfl, hc1⟩ := own_at ho (by omega) hX
      have c1 := hc1 _ (two_below (A := .cells #[.int .i64 4, .int .i64 0, .int .i64 (K : Int), .int .i64 e3, .int .i64 e4, .int .i64 e5, .slice xa n xc] 44) (B := .cells #[.int .i64 0, .int .i64 0, .int .i64 0] 41))
      have g4 : (K : Int) < ((K + 1 : Nat) : Int) := by omega
      have g5 : (K : Int) < (K : Int) + 1 := by omega
      have gz : (0 : Int) ≤ (K : Int) := by omega
      have gw : IntKind.i64.wrap ((K : Int) + 1 - 1) = (K : Int) := by rw [IntKind.wrap_i64]; omega
      have gv : IntKind.i64.wrap (K : Int) = (K : Int) := by rw [IntKind.wrap_i64]; omega
      have gx : IntKind.i64.wrap (X + 1) = X + 1 := by rw [IntKind.wrap_i64]; omega
      go_enter Try.func25, Try.ntmps25
      go_wp2_with fail
      generalize hW : (w.alloc (.cells #[.int .i64 4, .int .i64 0, .int .i64 (K : Int), .int .i64 e3, .int .i64 e4, .int .i64 e5, .slice xa n xc] 44)).alloc (.cells #[.int .i64 0, .int .i64 0, .int .i64 0] 41) = W0
      have B0 : Hid (Below w.heap.size w W0) := by rw [← hW]; exact two_below
      have hn0 := (two_blocks9 w (.cells #[.int .i64 4, .int .i64 0, .int .i64 (K : Int), .int .i64 e3, .int .i64 e4, .int .i64 e5, .slice xa n xc] 44) (.cells #[.int .i64 0, .int .i64 0, .int .i64 0] 41)).1
      rw [hW] at hn0
      have LT : Hid (w.heap.size < W0.heap.size) := lt_of_heapA hn0
      have p0 : W0.cell? ⟨w.heap.size, 0, none⟩ = some (.int .i64 4) := cell_at hn0 rfl
      have p1 : W0.cell? ⟨w.heap.size, 1, none⟩ = some (.int .i64 0) := cell_at hn0 rfl
      have p2 : W0.cell? ⟨w.heap.size, 2, none⟩ = some (.int .i64 (K : Int)) := cell_at hn0 rfl
      have p3 : W0.cell? ⟨w.heap.size, 3, none⟩ = some (.int .i64 e3) := cell_at hn0 rfl
      have p4 : W0.cell? ⟨w.heap.size, 4, none⟩ = some (.int .i64 e4) := cell_at hn0 rfl
      have p5 : W0.cell? ⟨w.heap.size, 5, none⟩ = some (.int .i64 e5) := cell_at hn0 rfl
      have p6 : W0.cell? ⟨w.heap.size, 6, none⟩ = some (.slice xa n xc) := cell_at hn0 rfl
      have r1 : W0.cell? ⟨b1, o1 + K, none⟩ = some (.int .i64 X) := hc1 _ B0.out
      have SK : Hid (∀ W, Below W0.heap.size W0 W → W.cell? ⟨w.heap.size, 0, none⟩ = some (.int .i64 4) ∧ W.cell? ⟨w.heap.size, 1, none⟩ = some (.int .i64 0) ∧ W.cell? ⟨w.heap.size, 2, none⟩ = some (.int .i64 (K : Int)) ∧ W.cell? ⟨w.heap.size, 3, none⟩ = some (.int .i64 e3) ∧ W.cell? ⟨w.heap.size, 4, none⟩ = some (.int .i64 e4) ∧ W.cell? ⟨w.heap.size, 5, none⟩ = some (.int .i64 e5) ∧ W.cell? ⟨w.heap.size, 6, none⟩ = some (.slice xa n xc) ∧ W.cell? ⟨b1, o1 + K, none⟩ = some (.int .i64 X)) := fun W hb => ⟨(hb.cell (p := ⟨w.heap.size, 0, none⟩) LT.out).trans p0, (hb.cell (p := ⟨w.heap.size, 1, none⟩) LT.out).trans p1, (hb.cell (p := ⟨w.heap.size, 2, none⟩) LT.out).trans p2, (hb.cell (p := ⟨w.heap.size, 3, none⟩) LT.out).trans p3, (hb.cell (p := ⟨w.heap.size, 4, none⟩) LT.out).trans p4, (hb.cell (p := ⟨w.heap.size, 5, none⟩) LT.out).trans p5, (hb.cell (p := ⟨w.heap.size, 6, none⟩) LT.out).trans p6, hc1 _ (bTrans B0.out hb)⟩
      clear hW hn0
      first
        | go_region_with (go_at_call 36; refine (HF.out _).mono ?_; rintro r w2 ⟨rfl, hb⟩; have HB2 : Hid (Below W0.heap.size W0 w2) := bTrans ((Below.refl W0.heap.size W0).drew) hb; obtain ⟨k0, k1, k2, k3, k4, k5, k6, m1⟩ := SK.out w2 HB2.out; clear hb)
        | fail "no"
      all_goals
        go_wp2
        go_ret2
        exact ⟨rfl, bTrans B0.out HB2.out⟩
    · rw [Bool.true_and]
      have HF : Hid (∀ W, Calls Try.prog 36 #[.agg #[.int .i64 e3, .int .i64 e4, .int .i64 e5]] W fun e w' => e = .returned (.bool true) ∧ Below W.heap.size W w') := fun W => by rw [← hq]; exact funOne_spec _ _ _ _
      clear hq
      by_cases hn : n = 0
      · subst hn
        have g1 : ¬ ((K : Int) + 1 < 1) := by omega
        have g2 : ((K : Int) != (K : Int)) = false := by simp
        obtain ⟨b1, o1, rfl, hc1⟩ := own_at ho (by omega) hX
        have c1 := hc1 _ (two_below (A := .cells #[.int .i64 4, .int .i64 0, .int .i64 (K : Int), .int .i64 e3, .int .i64 e4, .int .i64 e5, .slice xa 0 xc] 44) (B := .cells #[.int .i64 0, .int .i64 0, .int .i64 0] 41))
        have g4 : (K : Int) < ((K + 1 : Nat) : Int) := by omega
        have g5 : (K : Int) < (K : Int) + 1 := by omega
        have gz : (0 : Int) ≤ (K : Int) := by omega
        have gw : IntKind.i64.wrap ((K : Int) + 1 - 1) = (K : Int) := by rw [IntKind.wrap_i64]; omega
        have gv : IntKind.i64.wrap (K : Int) = (K : Int) := by rw [IntKind.wrap_i64]; omega
        have gx : IntKind.i64.wrap (X + 1) = X + 1 := by rw [IntKind.wrap_i64]; omega
        go_enter Try.func25, Try.ntmps25
        go_wp2_with fail
        generalize hW : (w.alloc (.cells #[.int .i64 4, .int .i64 0, .int .i64 (K : Int), .int .i64 e3, .int .i64 e4, .int .i64 e5, .slice xa 0 xc] 44)).alloc (.cells #[.int .i64 0, .int .i64 0, .int .i64 0] 41) = W0
        have B0 : Hid (Below w.heap.size w W0) := by rw [← hW]; exact two_below
        have hn0 := (two_blocks9 w (.cells #[.int .i64 4, .int .i64 0, .int .i64 (K : Int), .int .i64 e3, .int .i64 e4, .int .i64 e5, .slice xa 0 xc] 44) (.cells #[.int .i64 0, .int .i64 0, .int .i64 0] 41)).1
        rw [hW] at hn0
        have LT : Hid (w.heap.size < W0.heap.size) := lt_of_heapA hn0
        have p0 : W0.cell? ⟨w.heap.size, 0, none⟩ = some (.int .i64 4) := cell_at hn0 rfl
        have p1 : W0.cell? ⟨w.heap.size, 1, none⟩ = some (.int .i64 0) := cell_at hn0 rfl
        have p2 : W0.cell? ⟨w.heap.size, 2, none⟩ = some (.int .i64 (K : Int)) := cell_at hn0 rfl
        have p3 : W0.cell? ⟨w.heap.size, 3, none⟩ = some (.int .i64 e3) := cell_at hn0 rfl
        have p4 : W0.cell? ⟨w.heap.size, 4, none⟩ = some (.int .i64 e4) := cell_at hn0 rfl
        have p5 : W0.cell? ⟨w.heap.size, 5, none⟩ = some (.int .i64 e5) := cell_at hn0 rfl
        have p6 : W0.cell? ⟨w.heap.size, 6, none⟩ = some (.slice xa 0 xc) := cell_at hn0 rfl
        have r1 : W0.cell? ⟨b1, o1 + K, none⟩ = some (.int .i64 X) := hc1 _ B0.out
        have SK : Hid (∀ W, Below W0.heap.size W0 W → W.cell? ⟨w.heap.size, 0, none⟩ = some (.int .i64 4) ∧ W.cell? ⟨w.heap.size, 1, none⟩ = some (.int .i64 0) ∧ W.cell? ⟨w.heap.size, 2, none⟩ = some (.int .i64 (K : Int)) ∧ W.cell? ⟨w.heap.size, 3, none⟩ = some (.int .i64 e3) ∧ W.cell? ⟨w.heap.size, 4, none⟩ = some (.int .i64 e4) ∧ W.cell? ⟨w.heap.size, 5, none⟩ = some (.int .i64 e5) ∧ W.cell? ⟨w.heap.size, 6, none⟩ = some (.slice xa 0 xc) ∧ W.cell? ⟨b1, o1 + K, none⟩ = some (.int .i64 X)) := fun W hb => ⟨(hb.cell (p := ⟨w.heap.size, 0, none⟩) LT.out).trans p0, (hb.cell (p := ⟨w.heap.size, 1, none⟩) LT.out).trans p1, (hb.cell (p := ⟨w.heap.size, 2, none⟩) LT.out).trans p2, (hb.cell (p := ⟨w.heap.size, 3, none⟩) LT.out).trans p3, (hb.cell (p := ⟨w.heap.size, 4, none⟩) LT.out).trans p4, (hb.cell (p := ⟨w.heap.size, 5, none⟩) LT.out).trans p5, (hb.cell (p := ⟨w.heap.size, 6, none⟩) LT.out).trans p6, hc1 _ (bTrans B0.out hb)⟩
        clear hW hn0
        go_region_held3 (fun w' => w'.cell? ⟨w.heap.size, 0, none⟩ = some (.int .i64 4) ∧ w'.cell? ⟨w.heap.size, 1, none⟩ = some (.int .i64 0) ∧ w'.cell? ⟨w.heap.size, 2, none⟩ = some (.int .i64 (K : Int)) ∧ w'.cell? ⟨w.heap.size, 3, none⟩ = some (.int .i64 e3) ∧ w'.cell? ⟨w.heap.size, 4, none⟩ = some (.int .i64 e4) ∧ w'.cell? ⟨w.heap.size, 5, none⟩ = some (.int .i64 e5) ∧ w'.cell? ⟨w.heap.size, 6, none⟩ = some (.slice xa 0 xc) ∧ w'.cell? ⟨b1, o1 + K, none⟩ = some (.int .i64 X))
          ((refine SK.out _ ?_; (repeat first | with_reducible exact HB2.out | with_reducible exact Below.refl _ _ | with_reducible refine Below.drew ?_)))
          ((go_at_call 36; refine (HF.out _).mono ?_; rintro r w2 ⟨rfl, hb⟩; have HB2 : Hid (Below W0.heap.size W0 w2) := bTrans ((Below.refl W0.heap.size W0).drew) hb; clear hb))
        all_goals
          go_wp2
          go_ret2
          exact ⟨rfl, bTrans B0.out HB2.out⟩
      · have n1 : ((n : Int) == 0) = false := by simpa using hn
        rw [decide_eq_false hn]
        clear hn
        have g1 : ¬ ((K : Int) + 1 < 1) := by omega
        have g2 : ((K : Int) != (K : Int)) = false := by simp
        obtain ⟨b1, o1, rfl, hc1⟩ := own_at ho (by omega) hX
        have c1 := hc1 _ (two_below (A := .cells #[.int .i64 4, .int .i64 0, .int .i64 (K : Int), .int .i64 e3, .int .i64 e4, .int .i64 e5, .slice xa n xc] 44) (B := .cells #[.int .i64 0, .int .i64 0, .int .i64 0] 41))
        have g4 : (K : Int) < ((K + 1 : Nat) : Int) := by omega
        have g5 : (K : Int) < (K : Int) + 1 := by omega
        have gz : (0 : Int) ≤ (K : Int) := by omega
        have gw : IntKind.i64.wrap ((K : Int) + 1 - 1) = (K : Int) := by rw [IntKind.wrap_i64]; omega
        have gv : IntKind.i64.wrap (K : Int) = (K : Int) := by rw [IntKind.wrap_i64]; omega
        have gx : IntKind.i64.wrap (X + 1) = X + 1 := by rw [IntKind.wrap_i64]; omega
        go_enter Try.func25, Try.ntmps25
        go_wp2_with fail
        generalize hW : (w.alloc (.cells #[.int .i64 4, .int .i64 0, .int .i64 (K : Int), .int .i64 e3, .int .i64 e4, .int .i64 e5, .slice xa n xc] 44)).alloc (.cells #[.int .i64 0, .int .i64 0, .int .i64 0] 41) = W0
        have B0 : Hid (Below w.heap.size w W0) := by rw [← hW]; exact two_below
        have hn0 := (two_blocks9 w (.cells #[.int .i64 4, .int .i64 0, .int .i64 (K : Int), .int .i64 e3, .int .i64 e4, .int .i64 e5, .slice xa n xc] 44) (.cells #[.int .i64 0, .int .i64 0, .int .i64 0] 41)).1
        rw [hW] at hn0
        have LT : Hid (w.heap.size < W0.heap.size) := lt_of_heapA hn0
        have p0 : W0.cell? ⟨w.heap.size, 0, none⟩ = some (.int .i64 4) := cell_at hn0 rfl
        have p1 : W0.cell? ⟨w.heap.size, 1, none⟩ = some (.int .i64 0) := cell_at hn0 rfl
        have p2 : W0.cell? ⟨w.heap.size, 2, none⟩ = some (.int .i64 (K : Int)) := cell_at hn0 rfl
        have p3 : W0.cell? ⟨w.heap.size, 3, none⟩ = some (.int .i64 e3) := cell_at hn0 rfl
        have p4 : W0.cell? ⟨w.heap.size, 4, none⟩ = some (.int .i64 e4) := cell_at hn0 rfl
        have p5 : W0.cell? ⟨w.heap.size, 5, none⟩ = some (.int .i64 e5) := cell_at hn0 rfl
        have p6 : W0.cell? ⟨w.heap.size, 6, none⟩ = some (.slice xa n xc) := cell_at hn0 rfl
        have r1 : W0.cell? ⟨b1, o1 + K, none⟩ = some (.int .i64 X) := hc1 _ B0.out
        have SK : Hid (∀ W, Below W0.heap.size W0 W → W.cell? ⟨w.heap.size, 0, none⟩ = some (.int .i64 4) ∧ W.cell? ⟨w.heap.size, 1, none⟩ = some (.int .i64 0) ∧ W.cell? ⟨w.heap.size, 2, none⟩ = some (.int .i64 (K : Int)) ∧ W.cell? ⟨w.heap.size, 3, none⟩ = some (.int .i64 e3) ∧ W.cell? ⟨w.heap.size, 4, none⟩ = some (.int .i64 e4) ∧ W.cell? ⟨w.heap.size, 5, none⟩ = some (.int .i64 e5) ∧ W.cell? ⟨w.heap.size, 6, none⟩ = some (.slice xa n xc) ∧ W.cell? ⟨b1, o1 + K, none⟩ = some (.int .i64 X)) := fun W hb => ⟨(hb.cell (p := ⟨w.heap.size, 0, none⟩) LT.out).trans p0, (hb.cell (p := ⟨w.heap.size, 1, none⟩) LT.out).trans p1, (hb.cell (p := ⟨w.heap.size, 2, none⟩) LT.out).trans p2, (hb.cell (p := ⟨w.heap.size, 3, none⟩) LT.out).trans p3, (hb.cell (p := ⟨w.heap.size, 4, none⟩) LT.out).trans p4, (hb.cell (p := ⟨w.heap.size, 5, none⟩) LT.out).trans p5, (hb.cell (p := ⟨w.heap.size, 6, none⟩) LT.out).trans p6, hc1 _ (bTrans B0.out hb)⟩
        clear hW hn0
        go_region_held3 (fun w' => w'.cell? ⟨w.heap.size, 0, none⟩ = some (.int .i64 4) ∧ w'.cell? ⟨w.heap.size, 1, none⟩ = some (.int .i64 0) ∧ w'.cell? ⟨w.heap.size, 2, none⟩ = some (.int .i64 (K : Int)) ∧ w'.cell? ⟨w.heap.size, 3, none⟩ = some (.int .i64 e3) ∧ w'.cell? ⟨w.heap.size, 4, none⟩ = some (.int .i64 e4) ∧ w'.cell? ⟨w.heap.size, 5, none⟩ = some (.int .i64 e5) ∧ w'.cell? ⟨w.heap.size, 6, none⟩ = some (.slice xa n xc) ∧ w'.cell? ⟨b1, o1 + K, none⟩ = some (.int .i64 X))
          ((refine SK.out _ ?_; (repeat first | with_reducible exact HB2.out | with_reducible exact Below.refl _ _ | with_reducible refine Below.drew ?_)))
          ((go_at_call 36; refine (HF.out _).mono ?_; rintro r w2 ⟨rfl, hb⟩; have HB2 : Hid (Below W0.heap.size W0 w2) := bTrans ((Below.refl W0.heap.size W0).drew) hb; clear hb))
        all_goals
          go_wp2
          go_ret2
          exact ⟨rfl, bTrans B0.out HB2.out⟩
  · have b2 : (e1 == 0) = false := by simpa using h1
    rw [decide_eq_false h1, Bool.false_and, Bool.false_and]
    clear h1
    have g1 : ¬ ((K : Int) + 1 < 1) := by omega
    have g2 : ((K : Int) != (K : Int)) = false := by simp
    obtain ⟨b1, o1, rfl, hc1⟩ := own_at ho (by omega) hX
    have c1 := hc1 _ (two_below (A := .cells #[.int .i64 4, .int .i64 e1, .int .i64 (K : Int), .int .i64 e3, .int .i64 e4, .int .i64 e5, .slice xa n xc] 44) (B := .cells #[.int .i64 0, .int .i64 0, .int .i64 0] 41))
    have g4 : (K : Int) < ((K + 1 : Nat) : Int) := by omega
    have g5 : (K : Int) < (K : Int) + 1 := by omega
    have gz : (0 : Int) ≤ (K : Int) := by omega
    have gw : IntKind.i64.wrap ((K : Int) + 1 - 1) = (K : Int) := by rw [IntKind.wrap_i64]; omega
    have gv : IntKind.i64.wrap (K : Int) = (K : Int) := by rw [IntKind.wrap_i64]; omega
    have gx : IntKind.i64.wrap (X + 1) = X + 1 := by rw [IntKind.wrap_i64]; omega
    go_enter Try.func25, Try.ntmps25
    go_wp2_with fail
    go_quiet ((fail))
    go_wp2
    go_ret2
    exact ⟨rfl, bDrewN two_below _⟩
end
end Go.Proofs.Ytpmcipnookjmgaa
