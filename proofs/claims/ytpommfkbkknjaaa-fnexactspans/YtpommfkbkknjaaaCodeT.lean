/-
  Walks: how great a list of Instr is.
-/
import Derived.Test.YtpommfkbkknjaaaCodeQ
namespace Go.Proofs.Ytpommfkbkknjaaa
open Go.RowKit
set_option linter.unusedVariables false
set_option linter.unusedSimpArgs false
set_option maxRecDepth 20000 in
set_option maxHeartbeats 8000000 in
theorem szInstr_at (e : Nat → Int) (xa : Option Addr) (n c : Nat) (left : Int) (w : World) (p1 : 0 ≤ left) (p2 : left ≤ 1048576) (hn : n ≤ 9223372036854775807) :
    Calls Try.prog 13 #[.agg #[.int .i64 (e 0), .int .i64 (e 1), .int .i64 (e 2), .int .i64 (e 3), .int .i64 (e 4), .slice xa n c], .int .i64 left] w fun r w' => r = .returned (.int .i64 (szV n left)) ∧ Below w.heap.size w w' := by
  have CS : Hid (∀ W, Calls Try.prog 23 #[.slice xa n c, .int .i64 left] W fun e w' => e = .returned (.int .i64 (szV n left)) ∧ w' = W) := fun W => szInts_laws xa n c left W p1 p2 hn
  have e0 : szV n left = -1 ∨ 0 ≤ szV n left := by unfold szV; split <;> omega
  generalize szV n left = x at *
  generalize e 0 = q0
  generalize e 1 = q1
  generalize e 2 = q2
  generalize e 3 = q3
  generalize e 4 = q4
  rcases e0 with rfl | e0
  · go_enter Try.func13, Try.ntmps13
    go_wp2_with fail
    refine (CS.out _).mono ?_
    rintro r w2 ⟨rfl, rfl⟩
    go_wp2
    go_ret
    exact ⟨rfl, bAlloc (Below.refl _ _) _⟩
  · have e1 : ¬ x < 0 := by omega
    go_enter Try.func13, Try.ntmps13
    go_wp2_with fail
    refine (CS.out _).mono ?_
    rintro r w2 ⟨rfl, rfl⟩
    go_wp2
    go_ret
    exact ⟨rfl, bAlloc (Below.refl _ _) _⟩
set_option maxRecDepth 20000 in
set_option maxHeartbeats 8000000 in
/-- How great a list is. -/
theorem szInstrS_at {w : World} {v : Value} {n : Nat} {E : Nat → Nat → Int} {N : Nat → List Int} (h : InsI w v n E N) (hl : ∀ i, (N i).length ≤ 9223372036854775807) (hn : n ≤ 9223372036854775807) :
    Calls Try.prog 4 #[v, .int .i64 1048576] w fun e w' => ∃ x : Int, e = .returned (.int .i64 x) ∧ (x = -1 ∨ 0 ≤ x) ∧ (0 ≤ x → n ≤ 1048576 ∧ ∀ i, i < n → (N i).length ≤ 1048576) ∧ Below w.heap.size w w' := by
  have H : Hid (InsI w v n E N) := h
  have HL : Hid (∀ i, (N i).length ≤ 9223372036854775807) := hl
  obtain ⟨a, c, rfl, _⟩ := h
  clear hl
  have hw : IntKind.i64.wrap (1048576 - (n : Int)) = 1048576 - (n : Int) := by rw [IntKind.wrap_i64]; omega
  by_cases h0 : 1048576 - (n : Int) < 0
  · go_enter Try.func4, Try.ntmps4
    go_wp2
    go_ret
    exact ⟨_, rfl, .inl rfl, fun h => absurd h (by simp), Below.refl _ _⟩
  · have HN : Hid (n ≤ 1048576) := by show _ ≤ _; omega
    go_enter Try.func4, Try.ntmps4
    go_wp2
    go_loopw [1, 5] (fun l i w' => ∃ (k : Nat) (x : Int), k ≤ n ∧ i = .int .i64 (k : Int) ∧ l = .int .i64 x ∧ 0 ≤ x ∧ x ≤ 1048576 ∧ (∀ i, i < k → (N i).length ≤ 1048576) ∧ Below w.heap.size w w') (fun _ i _ => n - (intOf i).toNat)
    case atStart => exact ⟨0, 1048576 - (n : Int), by omega, rfl, rfl, by omega, by omega, fun i hi => absurd hi (by omega), Below.refl _ _⟩
    case round =>
      obtain ⟨k, x, hk, rfl, rfl, hx0, hx1, hA, hb⟩ := hrel
      have HA : Hid (∀ i, i < k → (N i).length ≤ 1048576) := hA
      have HB : Hid (Below w.heap.size w wr) := hb
      clear hA hb
      by_cases hlt : (k : Int) < (n : Int)
      · have L : k < n := by omega
        obtain ⟨o, off, xa, xc, rfl, ho, ⟨p0, p1, p2, p3, p4, p5⟩, _⟩ := (H.out.keep HB.out).at L
        have CS : Hid (Calls Try.prog 13 #[.agg #[.int .i64 (E k 0), .int .i64 (E k 1), .int .i64 (E k 2), .int .i64 (E k 3), .int .i64 (E k 4), .slice xa (N k).length xc], .int .i64 x] wr fun e w' => e = .returned (.int .i64 (szV (N k).length x)) ∧ Below wr.heap.size wr w') := szInstr_at (E k) xa (N k).length xc x wr hx0 hx1 (HL.out k)
        have e0 : szV (N k).length x = -1 ∨ (0 ≤ szV (N k).length x ∧ szV (N k).length x ≤ 1048576 ∧ (N k).length ≤ 1048576) := by
          unfold szV
          split
          · exact .inl rfl
          · refine .inr ⟨?_, ?_, ?_⟩ <;> omega
        have NX : Hid ((N k).length ≤ 1048576 → ∀ i, i < k + 1 → (N i).length ≤ 1048576) := fun h i hi => by
          by_cases e : i = k
          · rw [e]; exact h
          · exact HA.out i (by omega)
        clear ho
        generalize szV (N k).length x = z at *
        rcases e0 with rfl | ⟨z0, z1, z2⟩
        · clear NX
          generalize (N k).length = sl at *
          generalize E k 0 = q0 at *
          generalize E k 1 = q1 at *
          generalize E k 2 = q2 at *
          generalize E k 3 = q3 at *
          generalize E k 4 = q4 at *
          go_wp2_with fail
          refine CS.out.mono ?_
          rintro r w2 ⟨rfl, hb⟩
          have B2 : Hid (Below w.heap.size w w2) := bTrans HB.out hb
          clear hb
          go_wp2
          go_ret
          exact ⟨_, rfl, .inl rfl, fun h => absurd h (by simp), B2.out⟩
        · have NY : Hid (∀ i, i < k + 1 → (N i).length ≤ 1048576) := NX.out z2
          have zn : ¬ z < 0 := by omega
          clear NX z2
          generalize (N k).length = sl at *
          generalize E k 0 = q0 at *
          generalize E k 1 = q1 at *
          generalize E k 2 = q2 at *
          generalize E k 3 = q3 at *
          generalize E k 4 = q4 at *
          go_wp2_with fail
          refine CS.out.mono ?_
          rintro r w2 ⟨rfl, hb⟩
          have B2 : Hid (Below w.heap.size w w2) := bTrans HB.out hb
          clear hb
          have hnn := HN.out
          go_wp2
          go_roundw
          case rel => exact ⟨k + 1, z, by omega, by go_num, rfl, z0, z1, NY.out, B2.out⟩
          case measure => simp [intOf]; omega
      · obtain rfl : k = n := by omega
        go_wp2
        go_ret
        exact ⟨_, rfl, .inr hx0, fun _ => ⟨HN.out, HA.out⟩, HB.out⟩
end Go.Proofs.Ytpommfkbkknjaaa
