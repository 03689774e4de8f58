/-
  Walks: the program's CodeDeep and CodeOk.
-/
import Derived.Test.YtpommfkbkknjaaaCodeI3
import Derived.WalkMore
import Derived.ScopeJumps
namespace Go.Proofs.Ytpommfkbkknjaaa
open Go.RowKit
set_option linter.unusedVariables false
set_option linter.unusedSimpArgs false
theorem mx_alt (a b : Int) : mx a b = if a < b then b else a := by unfold mx; split <;> split <;> omega
/-- What holds where the label is jumped to. -/
def AtWrong (w : World) (Q : Int) (a' : Act) (w' : World) : Prop := Q = 0 ∧ Below w.heap.size w w' ∧ ∃ y0 y1 y2 y3 y4 y5 y6 y7 y8 y9 y10 y11 y12 y13 y14 y15 y16 y17 y18 y19 y20 y21 y22 y23 y24 y25 y26 y27 y28 y29 y30 y31 y32 y33 y34 y35 y36 : Value, a' = { tmps := #[y0, y1, y2, y3, y4, y5, y6, y7, y8, y9, y10, y11, y12, y13, y14, y15, y16, y17, y18, y19, y20, y21, y22, y23, y24, y25, y26, y27, y28, y29, y30, y31, y32, y33, y34, y35, y36], defers := [] }
set_option maxRecDepth 20000 in
set_option maxHeartbeats 8000000 in
/-- The program's CodeDeep. -/
theorem deep_impl {w : World} {v : Value} {n : Nat} {E : Nat → Nat → Int} {N : Nat → List Int} (h : InsI w v n E N) (hl : ∀ i, (N i).length ≤ 1048576) (hn : n ≤ 1048576) :
    Calls Try.prog 31 #[v] w fun r w' => r = .returned (.int .i64 (deepV n E N)) ∧ Below w.heap.size w w' := by
  have H : Hid (InsI w v n E N) := h
  have HL : Hid (∀ i, (N i).length ≤ 1048576) := hl
  clear hl
  obtain ⟨a, c, rfl, _⟩ := h
  have HBAD : Hid (¬ codeP n E N → deepV n E N = 0) := fun h => by unfold deepV; rw [codeB_false h]; rfl
  have HGOOD : Hid (codeP n E N → deepV n E N = mxDep E n) := fun h => by unfold deepV; rw [codeB_true h]; rfl
  generalize deepV n E N = Q at *
  go_enter Try.func31, Try.ntmps31
  go_wp2
  refine wp_scope_jumps 0 (AtWrong w Q) (fun _ _ => 0) rfl ?_ ?_
  case refine_2 =>
    rintro a' w' ⟨hq, hb, y0, y1, y2, y3, y4, y5, y6, y7, y8, y9, y10, y11, y12, y13, y14, y15, y16, y17, y18, y19, y20, y21, y22, y23, y24, y25, y26, y27, y28, y29, y30, y31, y32, y33, y34, y35, y36, rfl⟩
    have HQ : Hid (Q = 0) := hq
    have HB : Hid (Below w.heap.size w w') := hb
    clear hq hb
    go_wp2
    simp only [Exit.jump]
    go_ret
    exact ⟨by rw [HQ.out]; rfl, HB.out⟩
  by_cases h60 : 60 < (n : Int)
  · have QV : Hid (Q = 0) := HBAD.out fun h => by have := h.2.1; omega
    go_wp2
    go_step3
    exact ⟨rfl, QV.out, Below.refl _ _, _, _, _, _, _, _, _, _, _, _, _, _, _, _, _, _, _, _, _, _, _, _, _, _, _, _, _, _, _, _, _, _, _, _, _, _, _, rfl⟩
  have n60 : n ≤ 60 := by omega
  go_wp2_with fail
  go_loopw [3, 4, 12] (fun d m i w' => ∃ k : Nat, k ≤ n ∧ d = .int .i64 (dep E k) ∧ m = .int .i64 (mxDep E k) ∧ i = .int .i64 (k : Int) ∧ (∀ i, i < k → insB (E i) (N i) = true) ∧ (∀ i, i < k → takesN (E i 0) ≤ dep E i) ∧ Below w.heap.size w w') (fun _ _ i _ => n - (intOf i).toNat)
  case atStart => exact ⟨0, by omega, rfl, rfl, rfl, fun i hi => absurd hi (by omega), fun i hi => absurd hi (by omega), Below.refl _ _⟩
  case round =>
    obtain ⟨k, hk, rfl, rfl, rfl, hA, hT, hb⟩ := hrel
    have HA : Hid (∀ i, i < k → insB (E i) (N i) = true) := hA
    have HT : Hid (∀ i, i < k → takesN (E i 0) ≤ dep E i) := hT
    have HB : Hid (Below w.heap.size w wr) := hb
    clear hA hT hb
    by_cases hlt : (k : Int) < (n : Int)
    · have L : k < n := by omega
      obtain ⟨o, off, xa, xc, rfl, ho, ⟨p0, p1, p2, p3, p4, p5⟩, ar⟩ := (H.out.keep HB.out).at L
      have CI : Hid (∀ W, Below wr.heap.size wr W → Calls Try.prog 41 #[.agg #[.int .i64 (E k 0), .int .i64 (E k 1), .int .i64 (E k 2), .int .i64 (E k 3), .int .i64 (E k 4), .slice xa (N k).length xc]] W fun r w' => r = .returned (.bool (insB (E k) (N k))) ∧ Below W.heap.size W w') := fun W hb => instrOk_impl (E k) (ar.keep hb) (HL.out k)
      have CT : Hid (insB (E k) (N k) = true → ∀ W, Calls Try.prog 32 #[.agg #[.int .i64 (E k 0), .int .i64 (E k 1), .int .i64 (E k 2), .int .i64 (E k 3), .int .i64 (E k 4), .slice xa (N k).length xc]] W fun r w' => r = .returned (.int .i64 (takesN (E k 0))) ∧ Below W.heap.size W w') := fun h W => taken_impl (insB_in h)
      have NX : Hid (insB (E k) (N k) = true → ∀ i, i < k + 1 → insB (E i) (N i) = true) := fun h i hi => by
        by_cases e : i = k
        · rw [e]; exact h
        · exact HA.out i (by omega)
      have NT : Hid (takesN (E k 0) ≤ dep E k → ∀ i, i < k + 1 → takesN (E i 0) ≤ dep E i) := fun h i hi => by
        by_cases e : i = k
        · rw [e]; exact h
        · exact HT.out i (by omega)
      have BX : Hid (insB (E k) (N k) = false → Q = 0) := fun h => HBAD.out fun g => by have := g.2.2.1 k L; rw [h] at this; exact absurd this (by decide)
      have BT : Hid (dep E k < takesN (E k 0) → Q = 0) := fun h => HBAD.out fun g => by have := g.2.2.2.1 k L; omega
      obtain ⟨D1, hD1⟩ : ∃ D1, D1 = dep E (k + 1) := ⟨_, rfl⟩
      obtain ⟨M1, hM1⟩ : ∃ M1, M1 = mxDep E (k + 1) := ⟨_, rfl⟩
      have HD1 : Hid (D1 = dep E (k + 1)) := hD1
      have HM1 : Hid (M1 = mxDep E (k + 1)) := hM1
      have ED : D1 = dep E k + (1 - takesN (E k 0)) := hD1
      have EM : M1 = mx (mxDep E k) D1 := by rw [hM1, hD1]; rfl
      clear hD1 hM1
      have t0 := takesN_cases (E k 0)
      have d0 := (dep_pos HT.out).1
      have d1 := dep_le E k
      clear ho ar
      generalize insB (E k) (N k) = q at *
      generalize takesN (E k 0) = z at *
      generalize E k 0 = q0 at *
      generalize E k 1 = q1 at *
      generalize E k 2 = q2 at *
      generalize E k 3 = q3 at *
      generalize E k 4 = q4 at *
      generalize (N k).length = nl at *
      generalize dep E k = D at *
      generalize mxDep E k = M at *
      go_wp2_with fail
      refine (CI.out _ (bAlloc (Below.refl _ _) _)).mono ?_
      rintro r w2 ⟨rfl, hb⟩
      have B2 : Hid (Below w.heap.size w w2) := bTrans (bAlloc HB.out _) hb
      have hnew := heap_alloc_new wr (.cells #[.int .i64 q0, .int .i64 q1, .int .i64 q2, .int .i64 q3, .int .i64 q4, .slice xa nl xc] 44)
      have BK2 : Hid (w2.heap[wr.heap.size]? = some (.cells #[.int .i64 q0, .int .i64 q1, .int .i64 q2, .int .i64 q3, .int .i64 q4, .slice xa nl xc] 44 (0, 0))) := by show _ = _; rw [hb.block _ (by simp)]; exact hnew
      clear hb hnew p0 p1 p2 p3 p4 p5
      cases q
      · have QV : Hid (Q = 0) := BX.out rfl
        go_wp2
        go_step3
        exact ⟨rfl, QV.out, B2.out, _, _, _, _, _, _, _, _, _, _, _, _, _, _, _, _, _, _, _, _, _, _, _, _, _, _, _, _, _, _, _, _, _, _, _, _, _, rfl⟩
      · have NI : Hid (∀ i, i < k + 1 → insB (E i) (N i) = true) := NX.out rfl
        have CT' : Hid (∀ W, Calls Try.prog 32 #[.agg #[.int .i64 q0, .int .i64 q1, .int .i64 q2, .int .i64 q3, .int .i64 q4, .slice xa nl xc]] W fun r w' => r = .returned (.int .i64 z) ∧ Below W.heap.size W w') := CT.out rfl
        clear NX CT BX
        have c0 : w2.cell? ⟨wr.heap.size, 0, none⟩ = some (.int .i64 q0) := cell_at BK2.out rfl
        have c1 : w2.cell? ⟨wr.heap.size, 1, none⟩ = some (.int .i64 q1) := cell_at BK2.out rfl
        have c2 : w2.cell? ⟨wr.heap.size, 2, none⟩ = some (.int .i64 q2) := cell_at BK2.out rfl
        have c3 : w2.cell? ⟨wr.heap.size, 3, none⟩ = some (.int .i64 q3) := cell_at BK2.out rfl
        have c4 : w2.cell? ⟨wr.heap.size, 4, none⟩ = some (.int .i64 q4) := cell_at BK2.out rfl
        have c5 : w2.cell? ⟨wr.heap.size, 5, none⟩ = some (.slice xa nl xc) := cell_at BK2.out rfl
        go_wp2_with fail
        refine (CT'.out _).mono ?_
        rintro r w3 ⟨rfl, hb⟩
        have B3 : Hid (Below w.heap.size w w3) := bTrans B2.out hb
        have BK3 : Hid (w3.heap[wr.heap.size]? = some (.cells #[.int .i64 q0, .int .i64 q1, .int .i64 q2, .int .i64 q3, .int .i64 q4, .slice xa nl xc] 44 (0, 0))) := by show _ = _; rw [hb.block _ (lt_of_heapA BK2.out)]; exact BK2.out
        clear hb c0 c1 c2 c3 c4 c5 BK2
        by_cases hz : D < z
        · have QV : Hid (Q = 0) := BT.out hz
          go_wp2
          go_step3
          exact ⟨rfl, QV.out, B3.out, _, _, _, _, _, _, _, _, _, _, _, _, _, _, _, _, _, _, _, _, _, _, _, _, _, _, _, _, _, _, _, _, _, _, _, _, _, rfl⟩
        · have NU : Hid (∀ i, i < k + 1 → takesN (E i 0) ≤ dep E i) := NT.out (by omega)
          clear NT BT
          have c0 : w3.cell? ⟨wr.heap.size, 0, none⟩ = some (.int .i64 q0) := cell_at BK3.out rfl
          have c1 : w3.cell? ⟨wr.heap.size, 1, none⟩ = some (.int .i64 q1) := cell_at BK3.out rfl
          have c2 : w3.cell? ⟨wr.heap.size, 2, none⟩ = some (.int .i64 q2) := cell_at BK3.out rfl
          have c3 : w3.cell? ⟨wr.heap.size, 3, none⟩ = some (.int .i64 q3) := cell_at BK3.out rfl
          have c4 : w3.cell? ⟨wr.heap.size, 4, none⟩ = some (.int .i64 q4) := cell_at BK3.out rfl
          have c5 : w3.cell? ⟨wr.heap.size, 5, none⟩ = some (.slice xa nl xc) := cell_at BK3.out rfl
          have w1 : IntKind.i64.wrap (1 - z) = 1 - z := by rw [IntKind.wrap_i64]; omega
          have w2 : IntKind.i64.wrap (D + (1 - z)) = D1 := by rw [ED, IntKind.wrap_i64]; omega
          go_wp2_with fail
          refine (CT'.out _).mono ?_
          rintro r w4 ⟨rfl, hb⟩
          have B4 : Hid (Below w.heap.size w w4) := bTrans B3.out hb
          clear hb c0 c1 c2 c3 c4 c5 BK3
          go_wp2
          all_goals
            go_roundw
            case rel => exact ⟨k + 1, by omega, by rw [← HD1.out, ED], by rw [← HM1.out, EM, ED, mx_alt], by go_num, NI.out, NU.out, B4.out⟩
            case measure => simp [intOf]; omega
    · obtain rfl : k = n := by omega
      by_cases hd : dep E k = 1
      · have QV : Hid (∀ h : 1 ≤ k, Q = mxDep E k) := fun h => HGOOD.out ⟨h, n60, HA.out, HT.out, hd⟩
        have h1 : 1 ≤ k := by
          cases k with
          | zero => exact absurd hd (by simp [dep])
          | succ k => omega
        have QW : Hid (Q = mxDep E k) := QV.out h1
        clear QV
        have b1 : (dep E k == 1) = true := by simpa using hd
        go_wp2
        simp only [Exit.jump]
        go_ret
        exact ⟨by rw [QW.out]; rfl, HB.out⟩
      · have QV : Hid (Q = 0) := HBAD.out fun h => hd h.2.2.2.2
        have b1 : (dep E k == 1) = false := by simpa using hd
        go_wp2
        go_step3
        go_wp2
        simp only [Exit.jump]
        go_ret
        exact ⟨by rw [QV.out]; rfl, HB.out⟩
set_option maxRecDepth 20000 in
set_option maxHeartbeats 4000000 in
/-- The program's CodeOk. -/
theorem codeOk_impl {w : World} {v : Value} {n : Nat} {E : Nat → Nat → Int} {N : Nat → List Int} (h : InsI w v n E N) (hl : ∀ i, (N i).length ≤ 1048576) (hn : n ≤ 1048576) :
    Calls Try.prog 17 #[v] w fun r w' => r = .returned (.bool (codeB n E N)) ∧ Below w.heap.size w w' := by
  have CD : Hid (Calls Try.prog 31 #[v] w fun r w' => r = .returned (.int .i64 (deepV n E N)) ∧ Below w.heap.size w w') := deep_impl h hl hn
  have E1 : Hid (decide (0 < deepV n E N) = codeB n E N) := deep_pos
  clear hl
  obtain ⟨a, c, rfl, _⟩ := h
  generalize deepV n E N = D at *
  generalize codeB n E N = q at *
  go_enter Try.func17, Try.ntmps17
  go_wp2_with fail
  refine CD.out.mono ?_
  rintro r w1 ⟨rfl, hb⟩
  have B1 : Hid (Below w.heap.size w w1) := hb
  clear hb
  go_wp2
  go_ret
  exact ⟨by rw [← E1.out]; rfl, B1.out⟩
end Go.Proofs.Ytpommfkbkknjaaa
