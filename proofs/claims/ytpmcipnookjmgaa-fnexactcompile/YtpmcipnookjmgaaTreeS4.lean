/-
  Walks: the specification's l9Node: functions of two.
-/
import Derived.Test.YtpmcipnookjmgaaTreeS3
namespace Go.Proofs.Ytpmcipnookjmgaa
open Go.RowKit
set_option linter.unusedVariables false
set_option linter.unusedSimpArgs false
section
variable {e1 e2 e3 e4 e5 : Int} {l o : List Int} {w : World} {xa oa : Option Addr} {xc oc k : Nat}
set_option maxRecDepth 20000 in
set_option maxHeartbeats 8000000 in
theorem node5_good {K n : Nat} (ho : Ints w oa o) (hl : o.length = K + 1) {X : Int} (hX : o.getD K 0 = X) (hX1 : 1 ≤ X) (hX2 : X ≤ 60) (hK : K ≤ 60) (hk1 : 1 ≤ K) {Bn : Nat} (h2 : (Bn : Int) = (K : Int) - X) {Y : Int} (hY : o.getD Bn 0 = Y) (hY1 : 1 ≤ Y) (hY2 : Y ≤ 60) : Calls Try.prog 25 #[.agg #[.int .i64 5, .int .i64 (K : Int), .int .i64 (Bn : Int), .int .i64 e3, .int .i64 e4, .int .i64 e5, .slice xa n xc], .int .i64 ((K : Int) + 1), .slice oa (K + 1) oc] w fun r w' => r = .returned (.tuple #[.int .i64 (X + Y + 1), .bool (funTwoB e3 e4 e5 && decide (n = 0))]) ∧ Below w.heap.size w w' := by
  cases hq : funTwoB e3 e4 e5
  · rw [Bool.false_and]
    have HF : Hid (∀ W, Calls Try.prog 37 #[.agg #[.int .i64 e3, .int .i64 e4, .int .i64 e5]] W fun e w' => e = .returned (.bool false) ∧ Below W.heap.size W w') := fun W => by rw [← hq]; exact funTwo_spec _ _ _ _
    clear hq
    have g1 : ¬ ((K : Int) + 1 < 1) := by omega
    have g2 : ((K : Int) != (K : Int)) = false := by simp
    obtain ⟨b1, o1, rfl, hc1⟩ := own_at ho (by omega) hX
    have c1 := hc1 _ (two_below (A := .cells #[.int .i64 5, .int .i64 (K : Int), .int .i64 (Bn : Int), .int .i64 e3, .int .i64 e4, .int .i64 e5, .slice xa n xc] 44) (B := .cells #[.int .i64 0, .int .i64 0, .int .i64 0] 41))
    have g4 : (K : Int) < ((K + 1 : Nat) : Int) := by omega
    have g5 : (K : Int) < (K : Int) + 1 := by omega
    have gz : (0 : Int) ≤ (K : Int) := by omega
    have gw : IntKind.i64.wrap ((K : Int) + 1 - 1) = (K : Int) := by rw [IntKind.wrap_i64]; omega
    have gv : IntKind.i64.wrap (K : Int) = (K : Int) := by rw [IntKind.wrap_i64]; omega
    have gx : IntKind.i64.wrap (X + 1) = X + 1 := by rw [IntKind.wrap_i64]; omega
    have g0 : ¬ ((K : Int) + 1 < 2) := by omega
    have g0d : decide ((K : Int) + 1 < 2) = false := decide_eq_false g0
    have g6 : ((K : Int) != (K : Int)) = false := by simp
    obtain ⟨b2, o2, ev, hc2⟩ := own_at ho (by omega) hY
    cases ev
    have c2 := hc2 _ (two_below (A := .cells #[.int .i64 5, .int .i64 (K : Int), .int .i64 (Bn : Int), .int .i64 e3, .int .i64 e4, .int .i64 e5, .slice xa n xc] 44) (B := .cells #[.int .i64 0, .int .i64 0, .int .i64 0] 41))
    have g7 : ((Bn : Int) != (K : Int) - X) = false := by rw [h2]; simp
    have g8 : ((Bn : Int) == (K : Int) - X) = true := by rw [h2]; simp
    have gA : ¬ ((Bn : Int) < 0) := by omega
    have g9 : decide ((Bn : Int) < 0) = false := decide_eq_false gA
    have gB : (Bn : Int) < ((K + 1 : Nat) : Int) := by omega
    have gC : (Bn : Int) < (K : Int) + 1 := by omega
    have gD : (0 : Int) ≤ (Bn : Int) := by omega
    have gE : IntKind.i64.wrap (X + Y) = X + Y := by rw [IntKind.wrap_i64]; omega
    have gF : IntKind.i64.wrap (X + Y + 1) = X + Y + 1 := by rw [IntKind.wrap_i64]; omega
    clear h2
    go_enter Try.func25, Try.ntmps25
    go_wp2_with fail
    go_quiet (fail)
    go_wp2_with fail
    generalize hW : ((w.alloc (.cells #[.int .i64 5, .int .i64 (K : Int), .int .i64 (Bn : Int), .int .i64 e3, .int .i64 e4, .int .i64 e5, .slice xa n xc] 44)).alloc (.cells #[.int .i64 0, .int .i64 0, .int .i64 0] 41)).drewN nq = W0
    have B0 : Hid (Below w.heap.size w W0) := by rw [← hW]; exact bDrewN two_below _
    have hn0 := (two_blocks9 w (.cells #[.int .i64 5, .int .i64 (K : Int), .int .i64 (Bn : Int), .int .i64 e3, .int .i64 e4, .int .i64 e5, .slice xa n xc] 44) (.cells #[.int .i64 0, .int .i64 0, .int .i64 0] 41)).1
    have hz : W0.heap = ((w.alloc (.cells #[.int .i64 5, .int .i64 (K : Int), .int .i64 (Bn : Int), .int .i64 e3, .int .i64 e4, .int .i64 e5, .slice xa n xc] 44)).alloc (.cells #[.int .i64 0, .int .i64 0, .int .i64 0] 41)).heap := by rw [← hW]; rfl
    rw [← hz] at hn0
    clear hz
    have LT : Hid (w.heap.size < W0.heap.size) := lt_of_heapA hn0
    have p0 : W0.cell? ⟨w.heap.size, 0, none⟩ = some (.int .i64 5) := cell_at hn0 rfl
    have p1 : W0.cell? ⟨w.heap.size, 1, none⟩ = some (.int .i64 (K : Int)) := cell_at hn0 rfl
    have p2 : W0.cell? ⟨w.heap.size, 2, none⟩ = some (.int .i64 (Bn : Int)) := cell_at hn0 rfl
    have p3 : W0.cell? ⟨w.heap.size, 3, none⟩ = some (.int .i64 e3) := cell_at hn0 rfl
    have p4 : W0.cell? ⟨w.heap.size, 4, none⟩ = some (.int .i64 e4) := cell_at hn0 rfl
    have p5 : W0.cell? ⟨w.heap.size, 5, none⟩ = some (.int .i64 e5) := cell_at hn0 rfl
    have p6 : W0.cell? ⟨w.heap.size, 6, none⟩ = some (.slice xa n xc) := cell_at hn0 rfl
    have r1 : W0.cell? ⟨b1, o1 + K, none⟩ = some (.int .i64 X) := hc1 _ B0.out
    have r2 : W0.cell? ⟨b1, o1 + Bn, none⟩ = some (.int .i64 Y) := hc2 _ B0.out
    have SK : Hid (∀ W, Below W0.heap.size W0 W → W.cell? ⟨w.heap.size, 0, none⟩ = some (.int .i64 5) ∧ W.cell? ⟨w.heap.size, 1, none⟩ = some (.int .i64 (K : Int)) ∧ W.cell? ⟨w.heap.size, 2, none⟩ = some (.int .i64 (Bn : Int)) ∧ W.cell? ⟨w.heap.size, 3, none⟩ = some (.int .i64 e3) ∧ W.cell? ⟨w.heap.size, 4, none⟩ = some (.int .i64 e4) ∧ W.cell? ⟨w.heap.size, 5, none⟩ = some (.int .i64 e5) ∧ W.cell? ⟨w.heap.size, 6, none⟩ = some (.slice xa n xc) ∧ W.cell? ⟨b1, o1 + K, none⟩ = some (.int .i64 X) ∧ W.cell? ⟨b1, o1 + Bn, none⟩ = some (.int .i64 Y)) := fun W hb => ⟨(hb.cell (p := ⟨w.heap.size, 0, none⟩) LT.out).trans p0, (hb.cell (p := ⟨w.heap.size, 1, none⟩) LT.out).trans p1, (hb.cell (p := ⟨w.heap.size, 2, none⟩) LT.out).trans p2, (hb.cell (p := ⟨w.heap.size, 3, none⟩) LT.out).trans p3, (hb.cell (p := ⟨w.heap.size, 4, none⟩) LT.out).trans p4, (hb.cell (p := ⟨w.heap.size, 5, none⟩) LT.out).trans p5, (hb.cell (p := ⟨w.heap.size, 6, none⟩) LT.out).trans p6, hc1 _ (bTrans B0.out hb), hc2 _ (bTrans B0.out hb)⟩
    clear hW hn0
    refine wp_region_noPanic ?_
    refine wp_region_held_drew (S := (fun w' => w'.cell? ⟨w.heap.size, 0, none⟩ = some (.int .i64 5) ∧ w'.cell? ⟨w.heap.size, 1, none⟩ = some (.int .i64 (K : Int)) ∧ w'.cell? ⟨w.heap.size, 2, none⟩ = some (.int .i64 (Bn : Int)) ∧ w'.cell? ⟨w.heap.size, 3, none⟩ = some (.int .i64 e3) ∧ w'.cell? ⟨w.heap.size, 4, none⟩ = some (.int .i64 e4) ∧ w'.cell? ⟨w.heap.size, 5, none⟩ = some (.int .i64 e5) ∧ w'.cell? ⟨w.heap.size, 6, none⟩ = some (.slice xa n xc) ∧ w'.cell? ⟨b1, o1 + K, none⟩ = some (.int .i64 X) ∧ w'.cell? ⟨b1, o1 + Bn, none⟩ = some (.int .i64 Y))) (by kernel_rfl) ?_ (fun hHeld0 => ?_)
    · (try dsimp only); (refine SK.out _ ?_; (repeat first | with_reducible exact HB2.out | with_reducible exact Below.refl _ _ | with_reducible refine Below.drew ?_))
    refine wpAnyH_take (i := 0) (oi := ⟨some 147, _, _, _, _, _⟩) (v := ?_) rfl (by kernel_rfl) (by kernel_rfl) (by kernel_rfl) (fun _ _ _ h => h) (Or.inl ⟨by rfl, ?_⟩) (by assumption) ?_
    rotate_left
    · intro wS hSw; (try dsimp only at hSw); go_simp; (try with_reducible rfl)
    try simp only [Act.put, List.setIfInBounds_toArray, List.set_cons_zero, List.set_cons_succ]
    refine wpAnyH_take (i := 1) (oi := ⟨some 148, _, _, _, _, _⟩) (v := ?_) rfl (by kernel_rfl) (by kernel_rfl) (by kernel_rfl) (fun _ _ _ h => h) (Or.inl ⟨by rfl, ?_⟩) (by assumption) ?_
    rotate_left
    · intro wS hSw; (try dsimp only at hSw); go_simp; (try with_reducible rfl)
    try simp only [Act.put, List.setIfInBounds_toArray, List.set_cons_zero, List.set_cons_succ]
    refine wpAnyH_take (i := 2) (oi := ⟨some 149, _, _, _, _, _⟩) (v := ?_) rfl (by kernel_rfl) (by kernel_rfl) (by kernel_rfl) (fun _ _ _ h => h) (Or.inl ⟨by rfl, ?_⟩) (by assumption) ?_
    rotate_left
    · intro wS hSw; (try dsimp only at hSw); go_simp; (try with_reducible rfl)
    try simp only [Act.put, List.setIfInBounds_toArray, List.set_cons_zero, List.set_cons_succ]
    refine wpAnyH_take (i := 3) (oi := ⟨some 150, _, _, _, _, _⟩) (v := ?_) rfl (by kernel_rfl) (by kernel_rfl) (by kernel_rfl) (fun _ _ _ h => h) (Or.inl ⟨by rfl, ?_⟩) (by assumption) ?_
    rotate_left
    · intro wS hSw; (try dsimp only at hSw); go_simp; (try with_reducible rfl)
    try simp only [Act.put, List.setIfInBounds_toArray, List.set_cons_zero, List.set_cons_succ]
    refine wpAnyH_take (i := 4) (oi := ⟨some 151, _, _, _, _, _⟩) (v := ?_) rfl (by kernel_rfl) (by kernel_rfl) (by kernel_rfl) (fun _ _ _ h => h) (Or.inl ⟨by rfl, ?_⟩) (by assumption) ?_
    rotate_left
    · intro wS hSw; (try dsimp only at hSw); go_simp; (try with_reducible rfl)
    try simp only [Act.put, List.setIfInBounds_toArray, List.set_cons_zero, List.set_cons_succ]
    refine wpAnyH_take (i := 5) (oi := ⟨some 152, _, _, _, _, _⟩) (v := ?_) rfl (by kernel_rfl) (by kernel_rfl) (by kernel_rfl) (fun _ _ _ h => h) (Or.inl ⟨by rfl, ?_⟩) (by assumption) ?_
    rotate_left
    · intro wS hSw; (try dsimp only at hSw); go_simp; (try with_reducible rfl)
    try simp only [Act.put, List.setIfInBounds_toArray, List.set_cons_zero, List.set_cons_succ]
    refine wpAnyH_take (i := 6) (oi := ⟨some 153, _, _, _, _, _⟩) (v := ?_) rfl (by kernel_rfl) (by kernel_rfl) (by kernel_rfl) (fun _ _ _ h => h) (Or.inl ⟨by rfl, ?_⟩) (by assumption) ?_
    rotate_left
    · intro wS hSw; (try dsimp only at hSw); go_simp; (try with_reducible rfl)
    try simp only [Act.put, List.setIfInBounds_toArray, List.set_cons_zero, List.set_cons_succ]
    refine wpAnyH_take (i := 7) (oi := ⟨some 154, _, _, _, _, _⟩) (v := ?_) rfl (by kernel_rfl) (by kernel_rfl) (by kernel_rfl) (fun _ _ _ h => h) (Or.inl ⟨by rfl, ?_⟩) (by assumption) ?_
    rotate_left
    · intro wS hSw; (try dsimp only at hSw); go_simp; (try with_reducible rfl)
    try simp only [Act.put, List.setIfInBounds_toArray, List.set_cons_zero, List.set_cons_succ]
    refine wpAnyH_take (i := 8) (oi := ⟨some 155, _, _, _, _, _⟩) (v := ?_) rfl (by kernel_rfl) (by kernel_rfl) (by kernel_rfl) (fun _ _ _ h => h) (Or.inl ⟨by rfl, ?_⟩) (by assumption) ?_
    rotate_left
    · intro wS hSw; (try dsimp only at hSw); go_simp; (try with_reducible rfl)
    try simp only [Act.put, List.setIfInBounds_toArray, List.set_cons_zero, List.set_cons_succ]
    refine wpAnyH_take (i := 9) (oi := ⟨some 156, _, _, _, _, _⟩) (v := ?_) rfl (by kernel_rfl) (by kernel_rfl) (by kernel_rfl) (fun _ _ _ h => h) (Or.inl ⟨by rfl, ?_⟩) (by assumption) ?_
    rotate_left
    · intro wS hSw; (try dsimp only at hSw); go_simp; (try with_reducible rfl)
    try simp only [Act.put, List.setIfInBounds_toArray, List.set_cons_zero, List.set_cons_succ]
    refine wpAnyH_take (i := 10) (oi := ⟨some 157, _, _, _, _, _⟩) (v := ?_) rfl (by kernel_rfl) (by kernel_rfl) (by kernel_rfl) (fun _ _ _ h => h) (Or.inl ⟨by rfl, ?_⟩) (by assumption) ?_
    rotate_left
    · intro wS hSw; (try dsimp only at hSw); go_simp; (try with_reducible rfl)
    try simp only [Act.put, List.setIfInBounds_toArray, List.set_cons_zero, List.set_cons_succ]
    refine wpAnyH_take (i := 11) (oi := ⟨some 158, _, _, _, _, _⟩) (v := ?_) rfl (by kernel_rfl) (by kernel_rfl) (by kernel_rfl) (fun _ _ _ h => h) (Or.inl ⟨by rfl, ?_⟩) (by assumption) ?_
    rotate_left
    · intro wS hSw; (try dsimp only at hSw); go_simp; (try with_reducible rfl)
    try simp only [Act.put, List.setIfInBounds_toArray, List.set_cons_zero, List.set_cons_succ]
    refine wpAnyH_take (i := 12) (oi := ⟨some 159, _, _, _, _, _⟩) (v := ?_) rfl (by kernel_rfl) (by kernel_rfl) (by kernel_rfl) (fun _ _ _ h => h) (Or.inl ⟨by rfl, ?_⟩) (by assumption) ?_
    rotate_left
    · intro wS hSw; (try dsimp only at hSw); go_simp; (try with_reducible rfl)
    try simp only [Act.put, List.setIfInBounds_toArray, List.set_cons_zero, List.set_cons_succ]
    refine wpAnyH_take (i := 13) (oi := ⟨some 160, _, _, _, _, _⟩) (v := ?_) rfl (by kernel_rfl) (by kernel_rfl) (by kernel_rfl) (fun _ _ _ h => h) (Or.inl ⟨by rfl, ?_⟩) (by assumption) ?_
    rotate_left
    · intro wS hSw; (try dsimp only at hSw); go_simp; (try with_reducible rfl)
    try simp only [Act.put, List.setIfInBounds_toArray, List.set_cons_zero, List.set_cons_succ]
    refine wpAnyH_ready (rs := [14]) (by kernel_rfl) (by simp) ?_
    refine AllReadyH.cons (o := _) rfl (fun K hK => ?_) AllReadyH.nil
    go_simp
    (go_at_call 37; refine (HF.out _).mono ?_; rintro r w2 ⟨rfl, hb⟩; have HB2 : Hid (Below W0.heap.size W0 w2) := bTrans ((Below.refl W0.heap.size W0).drew) hb; clear hb)
    try go_wp2_with fail
    refine hK.out _ _ ?_ (fun hHeld1 => ?_)
    · (try dsimp only); (refine SK.out _ ?_; (repeat first | with_reducible exact HB2.out | with_reducible exact Below.refl _ _ | with_reducible refine Below.drew ?_))
    clear hK K hHeld0
    try simp only [Act.put, List.setIfInBounds_toArray, List.set_cons_zero, List.set_cons_succ]
    refine wpAnyH_take (i := 15) (oi := ⟨some 162, _, _, _, _, _⟩) (v := ?_) rfl (by kernel_rfl) (by kernel_rfl) (by kernel_rfl) (fun _ _ _ h => h) (Or.inl ⟨by rfl, ?_⟩) (by assumption) ?_
    rotate_left
    · intro wS hSw; (try dsimp only at hSw); go_simp; (try with_reducible rfl)
    try simp only [Act.put, List.setIfInBounds_toArray, List.set_cons_zero, List.set_cons_succ]
    refine wpAnyH_take (i := 21) (oi := ⟨some 6, _, _, _, _, _⟩) (v := ?_) rfl (by kernel_rfl) (by kernel_rfl) (by kernel_rfl) (fun _ _ _ h => h) (Or.inl ⟨by rfl, ?_⟩) (by assumption) ?_
    rotate_left
    · intro wS hSw; (try dsimp only at hSw); go_simp; (try with_reducible rfl)
    try simp only [Act.put, List.setIfInBounds_toArray, List.set_cons_zero, List.set_cons_succ]
    refine wpAnyH_ready (rs := [16]) (by kernel_rfl) (by simp) ?_
    refine AllReadyH.cons (o := _) rfl (fun K hK => ?_) AllReadyH.nil
    go_simp
    refine hK.out _ _ ?_ (fun hHeld2 => ?_)
    · (try dsimp only); (refine SK.out _ ?_; (repeat first | with_reducible exact HB2.out | with_reducible exact Below.refl _ _ | with_reducible refine Below.drew ?_))
    clear hK K hHeld1
    try simp only [Act.put, List.setIfInBounds_toArray, List.set_cons_zero, List.set_cons_succ]
    refine wpAnyH_ready (rs := [17]) (by kernel_rfl) (by simp) ?_
    refine AllReadyH.cons (o := _) rfl (fun K hK => ?_) AllReadyH.nil
    go_simp
    refine hK.out _ _ ?_ (fun hHeld3 => ?_)
    · (try dsimp only); (refine SK.out _ ?_; (repeat first | with_reducible exact HB2.out | with_reducible exact Below.refl _ _ | with_reducible refine Below.drew ?_))
    clear hK K hHeld2
    try simp only [Act.put, List.setIfInBounds_toArray, List.set_cons_zero, List.set_cons_succ]
    refine wpAnyH_ready (rs := [18]) (by kernel_rfl) (by simp) ?_
    refine AllReadyH.cons (o := _) rfl (fun K hK => ?_) AllReadyH.nil
    go_simp
    refine hK.out _ _ ?_ (fun hHeld4 => ?_)
    · (try dsimp only); (refine SK.out _ ?_; (repeat first | with_reducible exact HB2.out | with_reducible exact Below.refl _ _ | with_reducible refine Below.drew ?_))
    clear hK K hHeld3
    try simp only [Act.put, List.setIfInBounds_toArray, List.set_cons_zero, List.set_cons_succ]
    refine wpAnyH_ready (rs := [19]) (by kernel_rfl) (by simp) ?_
    refine AllReadyH.cons (o := _) rfl (fun K hK => ?_) AllReadyH.nil
    go_simp
    refine hK.out _ _ ?_ (fun hHeld5 => ?_)
    · (try dsimp only); (refine SK.out _ ?_; (repeat first | with_reducible exact HB2.out | with_reducible exact Below.refl _ _ | with_reducible refine Below.drew ?_))
    clear hK K hHeld4
    try simp only [Act.put, List.setIfInBounds_toArray, List.set_cons_zero, List.set_cons_succ]
    refine wpAnyH_take (i := 20) (oi := ⟨some 167, _, _, _, _, _⟩) (v := ?_) rfl (by kernel_rfl) (by kernel_rfl) (by kernel_rfl) (fun _ _ _ h => h) (Or.inl ⟨by rfl, ?_⟩) (by assumption) ?_
    rotate_left
    · intro wS hSw; (try dsimp only at hSw); go_simp; (try with_reducible rfl)
    try simp only [Act.put, List.setIfInBounds_toArray, List.set_cons_zero, List.set_cons_succ]
    refine wpAnyH_take (i := 22) (oi := ⟨some 7, _, _, _, _, _⟩) (v := ?_) rfl (by kernel_rfl) (by kernel_rfl) (by kernel_rfl) (fun _ _ _ h => h) (Or.inl ⟨by rfl, ?_⟩) (by assumption) ?_
    rotate_left
    · intro wS hSw; (try dsimp only at hSw); go_simp; (try with_reducible rfl)
    try simp only [Act.put, List.setIfInBounds_toArray, List.set_cons_zero, List.set_cons_succ]
    refine wpAnyH_done (by kernel_rfl) ?_ _
    refine NoPanic.normal ?_
    go_wp2
    go_ret2
    exact ⟨rfl, bTrans B0.out HB2.out⟩
  · rw [Bool.true_and]
    have HF : Hid (∀ W, Calls Try.prog 37 #[.agg #[.int .i64 e3, .int .i64 e4, .int .i64 e5]] W fun e w' => e = .returned (.bool true) ∧ Below W.heap.size W w') := fun W => by rw [← hq]; exact funTwo_spec _ _ _ _
    clear hq
    by_cases hn : n = 0
    · subst hn
      have g1 : ¬ ((K : Int) + 1 < 1) := by omega
      have g2 : ((K : Int) != (K : Int)) = false := by simp
      obtain ⟨b1, o1, rfl, hc1⟩ := own_at ho (by omega) hX
      have c1 := hc1 _ (two_below (A := .cells #[.int .i64 5, .int .i64 (K : Int), .int .i64 (Bn : Int), .int .i64 e3, .int .i64 e4, .int .i64 e5, .slice xa 0 xc] 44) (B := .cells #[.int .i64 0, .int .i64 0, .int .i64 0] 41))
      have g4 : (K : Int) < ((K + 1 : Nat) : Int) := by omega
      have g5 : (K : Int) < (K : Int) + 1 := by omega
      have gz : (0 : Int) ≤ (K : Int) := by omega
      have gw : IntKind.i64.wrap ((K : Int) + 1 - 1) = (K : Int) := by rw [IntKind.wrap_i64]; omega
      have gv : IntKind.i64.wrap (K : Int) = (K : Int) := by rw [IntKind.wrap_i64]; omega
      have gx : IntKind.i64.wrap (X + 1) = X + 1 := by rw [IntKind.wrap_i64]; omega
      have g0 : ¬ ((K : Int) + 1 < 2) := by omega
      have g0d : decide ((K : Int) + 1 < 2) = false := decide_eq_false g0
      have g6 : ((K : Int) != (K : Int)) = false := by simp
      obtain ⟨b2, o2, ev, hc2⟩ := own_at ho (by omega) hY
      cases ev
      have c2 := hc2 _ (two_below (A := .cells #[.int .i64 5, .int .i64 (K : Int), .int .i64 (Bn : Int), .int .i64 e3, .int .i64 e4, .int .i64 e5, .slice xa 0 xc] 44) (B := .cells #[.int .i64 0, .int .i64 0, .int .i64 0] 41))
      have g7 : ((Bn : Int) != (K : Int) - X) = false := by rw [h2]; simp
      have g8 : ((Bn : Int) == (K : Int) - X) = true := by rw [h2]; simp
      have gA : ¬ ((Bn : Int) < 0) := by omega
      have g9 : decide ((Bn : Int) < 0) = false := decide_eq_false gA
      have gB : (Bn : Int) < ((K + 1 : Nat) : Int) := by omega
      have gC : (Bn : Int) < (K : Int) + 1 := by omega
      have gD : (0 : Int) ≤ (Bn : Int) := by omega
      have gE : IntKind.i64.wrap (X + Y) = X + Y := by rw [IntKind.wrap_i64]; omega
      have gF : IntKind.i64.wrap (X + Y + 1) = X + Y + 1 := by rw [IntKind.wrap_i64]; omega
      clear h2
      go_enter Try.func25, Try.ntmps25
      go_wp2_with fail
      go_quiet (fail)
      go_wp2_with fail
      generalize hW : ((w.alloc (.cells #[.int .i64 5, .int .i64 (K : Int), .int .i64 (Bn : Int), .int .i64 e3, .int .i64 e4, .int .i64 e5, .slice xa 0 xc] 44)).alloc (.cells #[.int .i64 0, .int .i64 0, .int .i64 0] 41)).drewN nq = W0
      have B0 : Hid (Below w.heap.size w W0) := by rw [← hW]; exact bDrewN two_below _
      have hn0 := (two_blocks9 w (.cells #[.int .i64 5, .int .i64 (K : Int), .int .i64 (Bn : Int), .int .i64 e3, .int .i64 e4, .int .i64 e5, .slice xa 0 xc] 44) (.cells #[.int .i64 0, .int .i64 0, .int .i64 0] 41)).1
      have hz : W0.heap = ((w.alloc (.cells #[.int .i64 5, .int .i64 (K : Int), .int .i64 (Bn : Int), .int .i64 e3, .int .i64 e4, .int .i64 e5, .slice xa 0 xc] 44)).alloc (.cells #[.int .i64 0, .int .i64 0, .int .i64 0] 41)).heap := by rw [← hW]; rfl
      rw [← hz] at hn0
      clear hz
      have LT : Hid (w.heap.size < W0.heap.size) := lt_of_heapA hn0
      have p0 : W0.cell? ⟨w.heap.size, 0, none⟩ = some (.int .i64 5) := cell_at hn0 rfl
      have p1 : W0.cell? ⟨w.heap.size, 1, none⟩ = some (.int .i64 (K : Int)) := cell_at hn0 rfl
      have p2 : W0.cell? ⟨w.heap.size, 2, none⟩ = some (.int .i64 (Bn : Int)) := cell_at hn0 rfl
      have p3 : W0.cell? ⟨w.heap.size, 3, none⟩ = some (.int .i64 e3) := cell_at hn0 rfl
      have p4 : W0.cell? ⟨w.heap.size, 4, none⟩ = some (.int .i64 e4) := cell_at hn0 rfl
      have p5 : W0.cell? ⟨w.heap.size, 5, none⟩ = some (.int .i64 e5) := cell_at hn0 rfl
      have p6 : W0.cell? ⟨w.heap.size, 6, none⟩ = some (.slice xa 0 xc) := cell_at hn0 rfl
      have r1 : W0.cell? ⟨b1, o1 + K, none⟩ = some (.int .i64 X) := hc1 _ B0.out
      have r2 : W0.cell? ⟨b1, o1 + Bn, none⟩ = some (.int .i64 Y) := hc2 _ B0.out
      have SK : Hid (∀ W, Below W0.heap.size W0 W → W.cell? ⟨w.heap.size, 0, none⟩ = some (.int .i64 5) ∧ W.cell? ⟨w.heap.size, 1, none⟩ = some (.int .i64 (K : Int)) ∧ W.cell? ⟨w.heap.size, 2, none⟩ = some (.int .i64 (Bn : Int)) ∧ W.cell? ⟨w.heap.size, 3, none⟩ = some (.int .i64 e3) ∧ W.cell? ⟨w.heap.size, 4, none⟩ = some (.int .i64 e4) ∧ W.cell? ⟨w.heap.size, 5, none⟩ = some (.int .i64 e5) ∧ W.cell? ⟨w.heap.size, 6, none⟩ = some (.slice xa 0 xc) ∧ W.cell? ⟨b1, o1 + K, none⟩ = some (.int .i64 X) ∧ W.cell? ⟨b1, o1 + Bn, none⟩ = some (.int .i64 Y)) := fun W hb => ⟨(hb.cell (p := ⟨w.heap.size, 0, none⟩) LT.out).trans p0, (hb.cell (p := ⟨w.heap.size, 1, none⟩) LT.out).trans p1, (hb.cell (p := ⟨w.heap.size, 2, none⟩) LT.out).trans p2, (hb.cell (p := ⟨w.heap.size, 3, none⟩) LT.out).trans p3, (hb.cell (p := ⟨w.heap.size, 4, none⟩) LT.out).trans p4, (hb.cell (p := ⟨w.heap.size, 5, none⟩) LT.out).trans p5, (hb.cell (p := ⟨w.heap.size, 6, none⟩) LT.out).trans p6, hc1 _ (bTrans B0.out hb), hc2 _ (bTrans B0.out hb)⟩
      clear hW hn0
      go_region_held3 (fun w' => w'.cell? ⟨w.heap.size, 0, none⟩ = some (.int .i64 5) ∧ w'.cell? ⟨w.heap.size, 1, none⟩ = some (.int .i64 (K : Int)) ∧ w'.cell? ⟨w.heap.size, 2, none⟩ = some (.int .i64 (Bn : Int)) ∧ w'.cell? ⟨w.heap.size, 3, none⟩ = some (.int .i64 e3) ∧ w'.cell? ⟨w.heap.size, 4, none⟩ = some (.int .i64 e4) ∧ w'.cell? ⟨w.heap.size, 5, none⟩ = some (.int .i64 e5) ∧ w'.cell? ⟨w.heap.size, 6, none⟩ = some (.slice xa 0 xc) ∧ w'.cell? ⟨b1, o1 + K, none⟩ = some (.int .i64 X) ∧ w'.cell? ⟨b1, o1 + Bn, none⟩ = some (.int .i64 Y))
        ((refine SK.out _ ?_; (repeat first | with_reducible exact HB2.out | with_reducible exact Below.refl _ _ | with_reducible refine Below.drew ?_)))
        ((go_at_call 37; refine (HF.out _).mono ?_; rintro r w2 ⟨rfl, hb⟩; have HB2 : Hid (Below W0.heap.size W0 w2) := bTrans ((Below.refl W0.heap.size W0).drew) hb; clear hb))
      all_goals
        go_wp2
        go_ret2
        exact ⟨rfl, bTrans B0.out HB2.out⟩
    · have n1 : ((n : Int) == 0) = false := by simpa using hn
      rw [decide_eq_false hn]
      clear hn
      have g1 : ¬ ((K : Int) + 1 < 1) := by omega
      have g2 : ((K : Int) != (K : Int)) = false := by simp
      obtain ⟨b1, o1, rfl, hc1⟩ := own_at ho (by omega) hX
      have c1 := hc1 _ (two_below (A := .cells #[.int .i64 5, .int .i64 (K : Int), .int .i64 (Bn : Int), .int .i64 e3, .int .i64 e4, .int .i64 e5, .slice xa n xc] 44) (B := .cells #[.int .i64 0, .int .i64 0, .int .i64 0] 41))
      have g4 : (K : Int) < ((K + 1 : Nat) : Int) := by omega
      have g5 : (K : Int) < (K : Int) + 1 := by omega
      have gz : (0 : Int) ≤ (K : Int) := by omega
      have gw : IntKind.i64.wrap ((K : Int) + 1 - 1) = (K : Int) := by rw [IntKind.wrap_i64]; omega
      have gv : IntKind.i64.wrap (K : Int) = (K : Int) := by rw [IntKind.wrap_i64]; omega
      have gx : IntKind.i64.wrap (X + 1) = X + 1 := by rw [IntKind.wrap_i64]; omega
      have g0 : ¬ ((K : Int) + 1 < 2) := by omega
      have g0d : decide ((K : Int) + 1 < 2) = false := decide_eq_false g0
      have g6 : ((K : Int) != (K : Int)) = false := by simp
      obtain ⟨b2, o2, ev, hc2⟩ := own_at ho (by omega) hY
      cases ev
      have c2 := hc2 _ (two_below (A := .cells #[.int .i64 5, .int .i64 (K : Int), .int .i64 (Bn : Int), .int .i64 e3, .int .i64 e4, .int .i64 e5, .slice xa n xc] 44) (B := .cells #[.int .i64 0, .int .i64 0, .int .i64 0] 41))
      have g7 : ((Bn : Int) != (K : Int) - X) = false := by rw [h2]; simp
      have g8 : ((Bn : Int) == (K : Int) - X) = true := by rw [h2]; simp
      have gA : ¬ ((Bn : Int) < 0) := by omega
      have g9 : decide ((Bn : Int) < 0) = false := decide_eq_false gA
      have gB : (Bn : Int) < ((K + 1 : Nat) : Int) := by omega
      have gC : (Bn : Int) < (K : Int) + 1 := by omega
      have gD : (0 : Int) ≤ (Bn : Int) := by omega
      have gE : IntKind.i64.wrap (X + Y) = X + Y := by rw [IntKind.wrap_i64]; omega
      have gF : IntKind.i64.wrap (X + Y + 1) = X + Y + 1 := by rw [IntKind.wrap_i64]; omega
      clear h2
      go_enter Try.func25, Try.ntmps25
      go_wp2_with fail
      go_quiet (fail)
      go_wp2_with fail
      generalize hW : ((w.alloc (.cells #[.int .i64 5, .int .i64 (K : Int), .int .i64 (Bn : Int), .int .i64 e3, .int .i64 e4, .int .i64 e5, .slice xa n xc] 44)).alloc (.cells #[.int .i64 0, .int .i64 0, .int .i64 0] 41)).drewN nq = W0
      have B0 : Hid (Below w.heap.size w W0) := by rw [← hW]; exact bDrewN two_below _
      have hn0 := (two_blocks9 w (.cells #[.int .i64 5, .int .i64 (K : Int), .int .i64 (Bn : Int), .int .i64 e3, .int .i64 e4, .int .i64 e5, .slice xa n xc] 44) (.cells #[.int .i64 0, .int .i64 0, .int .i64 0] 41)).1
      have hz : W0.heap = ((w.alloc (.cells #[.int .i64 5, .int .i64 (K : Int), .int .i64 (Bn : Int), .int .i64 e3, .int .i64 e4, .int .i64 e5, .slice xa n xc] 44)).alloc (.cells #[.int .i64 0, .int .i64 0, .int .i64 0] 41)).heap := by rw [← hW]; rfl
      rw [← hz] at hn0
      clear hz
      have LT : Hid (w.heap.size < W0.heap.size) := lt_of_heapA hn0
      have p0 : W0.cell? ⟨w.heap.size, 0, none⟩ = some (.int .i64 5) := cell_at hn0 rfl
      have p1 : W0.cell? ⟨w.heap.size, 1, none⟩ = some (.int .i64 (K : Int)) := cell_at hn0 rfl
      have p2 : W0.cell? ⟨w.heap.size, 2, none⟩ = some (.int .i64 (Bn : Int)) := cell_at hn0 rfl
      have p3 : W0.cell? ⟨w.heap.size, 3, none⟩ = some (.int .i64 e3) := cell_at hn0 rfl
      have p4 : W0.cell? ⟨w.heap.size, 4, none⟩ = some (.int .i64 e4) := cell_at hn0 rfl
      have p5 : W0.cell? ⟨w.heap.size, 5, none⟩ = some (.int .i64 e5) := cell_at hn0 rfl
      have p6 : W0.cell? ⟨w.heap.size, 6, none⟩ = some (.slice xa n xc) := cell_at hn0 rfl
      have r1 : W0.cell? ⟨b1, o1 + K, none⟩ = some (.int .i64 X) := hc1 _ B0.out
      have r2 : W0.cell? ⟨b1, o1 + Bn, none⟩ = some (.int .i64 Y) := hc2 _ B0.out
      have SK : Hid (∀ W, Below W0.heap.size W0 W → W.cell? ⟨w.heap.size, 0, none⟩ = some (.int .i64 5) ∧ W.cell? ⟨w.heap.size, 1, none⟩ = some (.int .i64 (K : Int)) ∧ W.cell? ⟨w.heap.size, 2, none⟩ = some (.int .i64 (Bn : Int)) ∧ W.cell? ⟨w.heap.size, 3, none⟩ = some (.int .i64 e3) ∧ W.cell? ⟨w.heap.size, 4, none⟩ = some (.int .i64 e4) ∧ W.cell? ⟨w.heap.size, 5, none⟩ = some (.int .i64 e5) ∧ W.cell? ⟨w.heap.size, 6, none⟩ = some (.slice xa n xc) ∧ W.cell? ⟨b1, o1 + K, none⟩ = some (.int .i64 X) ∧ W.cell? ⟨b1, o1 + Bn, none⟩ = some (.int .i64 Y)) := fun W hb => ⟨(hb.cell (p := ⟨w.heap.size, 0, none⟩) LT.out).trans p0, (hb.cell (p := ⟨w.heap.size, 1, none⟩) LT.out).trans p1, (hb.cell (p := ⟨w.heap.size, 2, none⟩) LT.out).trans p2, (hb.cell (p := ⟨w.heap.size, 3, none⟩) LT.out).trans p3, (hb.cell (p := ⟨w.heap.size, 4, none⟩) LT.out).trans p4, (hb.cell (p := ⟨w.heap.size, 5, none⟩) LT.out).trans p5, (hb.cell (p := ⟨w.heap.size, 6, none⟩) LT.out).trans p6, hc1 _ (bTrans B0.out hb), hc2 _ (bTrans B0.out hb)⟩
      clear hW hn0
      go_region_held3 (fun w' => w'.cell? ⟨w.heap.size, 0, none⟩ = some (.int .i64 5) ∧ w'.cell? ⟨w.heap.size, 1, none⟩ = some (.int .i64 (K : Int)) ∧ w'.cell? ⟨w.heap.size, 2, none⟩ = some (.int .i64 (Bn : Int)) ∧ w'.cell? ⟨w.heap.size, 3, none⟩ = some (.int .i64 e3) ∧ w'.cell? ⟨w.heap.size, 4, none⟩ = some (.int .i64 e4) ∧ w'.cell? ⟨w.heap.size, 5, none⟩ = some (.int .i64 e5) ∧ w'.cell? ⟨w.heap.size, 6, none⟩ = some (.slice xa n xc) ∧ w'.cell? ⟨b1, o1 + K, none⟩ = some (.int .i64 X) ∧ w'.cell? ⟨b1, o1 + Bn, none⟩ = some (.int .i64 Y))
        ((refine SK.out _ ?_; (repeat first | with_reducible exact HB2.out | with_reducible exact Below.refl _ _ | with_reducible refine Below.drew ?_)))
        ((go_at_call 37; refine (HF.out _).mono ?_; rintro r w2 ⟨rfl, hb⟩; have HB2 : Hid (Below W0.heap.size W0 w2) := bTrans ((Below.refl W0.heap.size W0).drew) hb; clear hb))
      all_goals
        go_wp2
        go_ret2
        exact ⟨rfl, bTrans B0.out HB2.out⟩
end
end Go.Proofs.Ytpmcipnookjmgaa
