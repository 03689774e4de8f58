/-
  Walks: the specification's l15End.
-/
import Derived.Test.YtpommfkbkknjaaaSpanS
import Derived.Test.YtpommfkbkknjaaaCodeS
namespace Go.Proofs.Ytpommfkbkknjaaa
open Go.RowKit
set_option linter.unusedVariables false
set_option linter.unusedSimpArgs false
set_option maxRecDepth 20000 in
set_option maxHeartbeats 8000000 in
/-- l15End. -/
theorem end_spec {w : World} {v : Value} {n : Nat} {E : Nat → Nat → Int} {N : Nat → List Int} (h : InsI w v n E N) (hn : n ≤ 60) (f : Nat) (hf : f ≤ n) :
    Calls Try.prog 15 #[v, .int .i64 (f : Int)] w fun r w' => r = .returned (.int .i64 (endF n E f)) ∧ Below w.heap.size w w' := by
  have H : Hid (InsI w v n E N) := h
  obtain ⟨a, c, rfl, _⟩ := h
  have FIN : Hid (∀ m, f + m ≤ n → (∀ j, j < m → okB E f j = true) → (f + m = n ∨ okB E f m = false) → endF n E f = endTo E f m) := fun m h1 h2 h3 => endF_eq h1 h2 h3
  generalize endF n E f = Q at *
  go_enter Try.func15, Try.ntmps15
  go_wp2
  go_loopw [5, 6, 7, 8] (fun e d b i w' => ∃ p m : Nat, Hid (p = f + m) ∧ p ≤ n ∧ e = .int .i64 (endTo E f m : Int) ∧ d = .int .i64 (dq E f m) ∧ b = .bool (wk E f m) ∧ i = .int .i64 (p : Int) ∧ (∀ j, j < m → okB E f j = true) ∧ Below w.heap.size w w') (fun _ _ _ i _ => n - (intOf i).toNat)
  case atStart => exact ⟨f, 0, rfl, hf, rfl, by rw [dq_zero], rfl, rfl, fun j hj => absurd hj (by omega), Below.refl _ _⟩
  case round =>
    obtain ⟨p, m, hp, hpn, rfl, rfl, rfl, rfl, hA, hb⟩ := hrel
    have HA : Hid (∀ j, j < m → okB E f j = true) := hA
    have HB : Hid (Below w.heap.size w wr) := hb
    clear hA hb
    by_cases hlt : (p : Int) < (n : Int)
    · have L : p < n := by omega
      obtain ⟨o, off, xa, xc, rfl, ho, ⟨p0, p1, p2, p3, p4, p5⟩, _⟩ := (H.out.keep HB.out).at L
      have CI : Hid (Calls Try.prog 27 #[.agg #[.int .i64 (E p 0), .int .i64 (E p 1), .int .i64 (E p 2), .int .i64 (E p 3), .int .i64 (E p 4), .slice xa (N p).length xc]] wr fun r w' => r = .returned (.bool (plainB (E p))) ∧ Below wr.heap.size wr w') := plain_spec (E p) wr xa _ xc
      have CT : Hid (∀ W, Calls Try.prog 28 #[.agg #[.int .i64 (E p 0), .int .i64 (E p 1), .int .i64 (E p 2), .int .i64 (E p 3), .int .i64 (E p 4), .slice xa (N p).length xc]] W fun r w' => r = .returned (.tuple #[.int .i64 (takesN (E p 0)), .int .i64 (1 - takesN (E p 0))]) ∧ Below W.heap.size W w') := fun W => takes_spec _ _ _ _ _ _ _ _ _
      have OK : Hid (okB E f m = (plainB (E p) && decide (takesN (E p 0) ≤ dq E f m))) := by rw [hp.out]; rfl
      have HO : Hid (o < wr.heap.size) := ho
      have ED : Hid (dq E f (m + 1) = dq E f m + (1 - takesN (E p 0))) := by rw [hp.out]; exact dq_succ E f m
      have EW : Hid (wk E f (m + 1) = (wk E f m || decide (0 < takesN (E p 0)))) := by rw [hp.out]; rfl
      have EE : Hid (endTo E f (m + 1) = if dq E f (m + 1) = 1 ∧ wk E f (m + 1) = true then p + 1 else endTo E f m) := by rw [hp.out]; rfl
      have NX : Hid (okB E f m = true → ∀ j, j < m + 1 → okB E f j = true) := fun h j hj => by
        by_cases e : j = m
        · rw [e]; exact h
        · exact HA.out j (by omega)
      have t0 := takesN_cases (E p 0)
      have d0 := dq_nonneg HA.out
      have d1 := dq_le E f m
      have hm60 : m ≤ 60 := by have := hp.out; omega
      have QB : Hid (okB E f m = false → Q = endTo E f m) := fun h => FIN.out m (by rw [← hp.out]; exact hpn) HA.out (.inr h)
      have SK : Hid (∀ W, Below wr.heap.size wr W → W.cell? ⟨o, off + p * 6, none⟩ = some (.int .i64 (E p 0)) ∧ W.cell? ⟨o, off + p * 6 + 1, none⟩ = some (.int .i64 (E p 1)) ∧ W.cell? ⟨o, off + p * 6 + 2, none⟩ = some (.int .i64 (E p 2)) ∧ W.cell? ⟨o, off + p * 6 + 3, none⟩ = some (.int .i64 (E p 3)) ∧ W.cell? ⟨o, off + p * 6 + 4, none⟩ = some (.int .i64 (E p 4)) ∧ W.cell? ⟨o, off + p * 6 + 5, none⟩ = some (.slice xa (N p).length xc)) := fun W hb => ⟨(hb.cell (p := ⟨o, off + p * 6, none⟩) ho).trans p0, (hb.cell (p := ⟨o, off + p * 6 + 1, none⟩) ho).trans p1, (hb.cell (p := ⟨o, off + p * 6 + 2, none⟩) ho).trans p2, (hb.cell (p := ⟨o, off + p * 6 + 3, none⟩) ho).trans p3, (hb.cell (p := ⟨o, off + p * 6 + 4, none⟩) ho).trans p4, (hb.cell (p := ⟨o, off + p * 6 + 5, none⟩) ho).trans p5⟩
      clear ho
      generalize plainB (E p) = q at *
      generalize takesN (E p 0) = z at *
      generalize E p 0 = q0 at *
      generalize E p 1 = q1 at *
      generalize E p 2 = q2 at *
      generalize E p 3 = q3 at *
      generalize E p 4 = q4 at *
      generalize (N p).length = nl at *
      generalize dq E f m = D at *
      generalize wk E f m = Z at *
      generalize endTo E f m = en at *
      have NE1 : Hid (D + (1 - z) = 1 → (Z || decide (0 < z)) = true → endTo E f (m + 1) = p + 1) := fun h1 h2 => by rw [EE.out, ED.out, EW.out, if_pos ⟨h1, h2⟩]
      have NE0 : Hid (¬ (D + (1 - z) = 1 ∧ (Z || decide (0 < z)) = true) → endTo E f (m + 1) = en) := fun h => by rw [EE.out, ED.out, EW.out, if_neg h]
      go_wp2_with fail
      refine CI.out.mono ?_
      rintro r w2 ⟨rfl, hb⟩
      have B2 : Hid (Below w.heap.size w w2) := bTrans HB.out hb
      clear p0 p1 p2 p3 p4 p5
      obtain ⟨p0, p1, p2, p3, p4, p5⟩ := SK.out _ hb
      clear hb CI EE
      cases q
      · have QV : Hid (Q = en) := QB.out (by rw [OK.out]; rfl)
        go_wp2
        go_ret
        exact ⟨by rw [QV.out]; rfl, B2.out⟩
      · go_wp2_with fail
        refine (CT.out _).mono ?_
        rintro r w3 ⟨rfl, hb⟩
        have B3 : Hid (Below w.heap.size w w3) := bTrans B2.out hb
        clear hb CT p0 p1 p2 p3 p4 p5 SK
        by_cases hz : D < z
        · have QV : Hid (Q = en) := QB.out (by rw [OK.out]; simp; omega)
          go_wp2
          go_ret
          exact ⟨by rw [QV.out]; rfl, B3.out⟩
        · have NA : Hid (∀ j, j < m + 1 → okB E f j = true) := NX.out (by rw [OK.out]; simp; omega)
          have hw : IntKind.i64.wrap (D + (1 - z)) = D + (1 - z) := by rw [IntKind.wrap_i64]; omega
          clear NX QB OK
          rcases t0 with rfl | rfl | rfl <;> cases Z
          · by_cases hd : D + (1 - (0 : Int)) = 1
            · have NE := (show Hid (_ = _) from NE0.out (fun h => absurd h.2 (by decide)))
              go_wp2
              go_roundw
              case rel => exact ⟨p + 1, m + 1, (show p + 1 = f + (m + 1) by have := hp.out; omega), by omega, by rw [NE.out]; try (first | rfl | go_num), by rw [ED.out]; try (first | rfl | go_num), by rw [EW.out]; rfl, by go_num, NA.out, B3.out⟩
              case measure => simp [intOf]; omega
            · have NE := (show Hid (_ = _) from NE0.out (fun h => absurd h.1 hd))
              go_wp2
              go_roundw
              case rel => exact ⟨p + 1, m + 1, (show p + 1 = f + (m + 1) by have := hp.out; omega), by omega, by rw [NE.out]; try (first | rfl | go_num), by rw [ED.out]; try (first | rfl | go_num), by rw [EW.out]; rfl, by go_num, NA.out, B3.out⟩
              case measure => simp [intOf]; omega
          · by_cases hd : D + (1 - (0 : Int)) = 1
            · have NE := (show Hid (_ = _) from NE1.out hd rfl)
              go_wp2
              go_roundw
              case rel => exact ⟨p + 1, m + 1, (show p + 1 = f + (m + 1) by have := hp.out; omega), by omega, by rw [NE.out]; try (first | rfl | go_num), by rw [ED.out]; try (first | rfl | go_num), by rw [EW.out]; rfl, by go_num, NA.out, B3.out⟩
              case measure => simp [intOf]; omega
            · have NE := (show Hid (_ = _) from NE0.out (fun h => absurd h.1 hd))
              go_wp2
              go_roundw
              case rel => exact ⟨p + 1, m + 1, (show p + 1 = f + (m + 1) by have := hp.out; omega), by omega, by rw [NE.out]; try (first | rfl | go_num), by rw [ED.out]; try (first | rfl | go_num), by rw [EW.out]; rfl, by go_num, NA.out, B3.out⟩
              case measure => simp [intOf]; omega
          · by_cases hd : D + (1 - (1 : Int)) = 1
            · have NE := (show Hid (_ = _) from NE1.out hd rfl)
              go_wp2
              go_roundw
              case rel => exact ⟨p + 1, m + 1, (show p + 1 = f + (m + 1) by have := hp.out; omega), by omega, by rw [NE.out]; try (first | rfl | go_num), by rw [ED.out]; try (first | rfl | go_num), by rw [EW.out]; rfl, by go_num, NA.out, B3.out⟩
              case measure => simp [intOf]; omega
            · have NE := (show Hid (_ = _) from NE0.out (fun h => absurd h.1 hd))
              go_wp2
              go_roundw
              case rel => exact ⟨p + 1, m + 1, (show p + 1 = f + (m + 1) by have := hp.out; omega), by omega, by rw [NE.out]; try (first | rfl | go_num), by rw [ED.out]; try (first | rfl | go_num), by rw [EW.out]; rfl, by go_num, NA.out, B3.out⟩
              case measure => simp [intOf]; omega
          · by_cases hd : D + (1 - (1 : Int)) = 1
            · have NE := (show Hid (_ = _) from NE1.out hd rfl)
              go_wp2
              go_roundw
              case rel => exact ⟨p + 1, m + 1, (show p + 1 = f + (m + 1) by have := hp.out; omega), by omega, by rw [NE.out]; try (first | rfl | go_num), by rw [ED.out]; try (first | rfl | go_num), by rw [EW.out]; rfl, by go_num, NA.out, B3.out⟩
              case measure => simp [intOf]; omega
            · have NE := (show Hid (_ = _) from NE0.out (fun h => absurd h.1 hd))
              go_wp2
              go_roundw
              case rel => exact ⟨p + 1, m + 1, (show p + 1 = f + (m + 1) by have := hp.out; omega), by omega, by rw [NE.out]; try (first | rfl | go_num), by rw [ED.out]; try (first | rfl | go_num), by rw [EW.out]; rfl, by go_num, NA.out, B3.out⟩
              case measure => simp [intOf]; omega
          · by_cases hd : D + (1 - (2 : Int)) = 1
            · have NE := (show Hid (_ = _) from NE1.out hd rfl)
              go_wp2
              go_roundw
              case rel => exact ⟨p + 1, m + 1, (show p + 1 = f + (m + 1) by have := hp.out; omega), by omega, by rw [NE.out]; try (first | rfl | go_num), by rw [ED.out]; try (first | rfl | go_num), by rw [EW.out]; rfl, by go_num, NA.out, B3.out⟩
              case measure => simp [intOf]; omega
            · have NE := (show Hid (_ = _) from NE0.out (fun h => absurd h.1 hd))
              go_wp2
              go_roundw
              case rel => exact ⟨p + 1, m + 1, (show p + 1 = f + (m + 1) by have := hp.out; omega), by omega, by rw [NE.out]; try (first | rfl | go_num), by rw [ED.out]; try (first | rfl | go_num), by rw [EW.out]; rfl, by go_num, NA.out, B3.out⟩
              case measure => simp [intOf]; omega
          · by_cases hd : D + (1 - (2 : Int)) = 1
            · have NE := (show Hid (_ = _) from NE1.out hd rfl)
              go_wp2
              go_roundw
              case rel => exact ⟨p + 1, m + 1, (show p + 1 = f + (m + 1) by have := hp.out; omega), by omega, by rw [NE.out]; try (first | rfl | go_num), by rw [ED.out]; try (first | rfl | go_num), by rw [EW.out]; rfl, by go_num, NA.out, B3.out⟩
              case measure => simp [intOf]; omega
            · have NE := (show Hid (_ = _) from NE0.out (fun h => absurd h.1 hd))
              go_wp2
              go_roundw
              case rel => exact ⟨p + 1, m + 1, (show p + 1 = f + (m + 1) by have := hp.out; omega), by omega, by rw [NE.out]; try (first | rfl | go_num), by rw [ED.out]; try (first | rfl | go_num), by rw [EW.out]; rfl, by go_num, NA.out, B3.out⟩
              case measure => simp [intOf]; omega
    · obtain rfl : p = n := by omega
      have QV : Hid (Q = endTo E f m) := FIN.out m (by rw [← hp.out]; exact Nat.le_refl _) HA.out (.inl hp.out.symm)
      generalize dq E f m = D at *
      generalize wk E f m = Z at *
      generalize endTo E f m = en at *
      go_wp2
      go_ret
      exact ⟨by rw [QV.out]; rfl, HB.out⟩
end Go.Proofs.Ytpommfkbkknjaaa
