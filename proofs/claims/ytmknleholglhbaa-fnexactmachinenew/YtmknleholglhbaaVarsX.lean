/-
  Walks: how great a list of letters is, with the sum of all.
-/
import Derived.Test.YtmknleholglhbaaVarsT
import Derived.Test.YtmknleholglhbaaVarsO
namespace Go.Proofs.Ytmknleholglhbaa
open Go.RowKit Go.Shelf
set_option linter.unusedVariables false
set_option linter.unusedSimpArgs false
set_option maxRecDepth 20000 in
set_option maxHeartbeats 4000000 in
/-- How great a list of letters is. -/
theorem sz_varsT {w : World} {v : Value} {n : Nat} {B : Nat → Bool} {S D : Nat → List Int} (h : VarsI w v n B S D) (hl : ∀ i, (S i).length ≤ 9223372036854775807 ∧ (D i).length ≤ 9223372036854775807) (hn : n ≤ 9223372036854775807) :
    Calls Try.prog 4 #[v, .int .i64 1048576] w fun e w' => ∃ x : Int, e = .returned (.int .i64 x) ∧ (0 ≤ x → n ≤ 1048576 ∧ (∀ i, i < n → (S i).length ≤ 1048576 ∧ (D i).length ≤ 1048576) ∧ totV S D n ≤ 1048576) ∧ Below w.heap.size w w' := by
  have H : Hid (VarsI w v n B S D) := h
  have HL : Hid (∀ i, (S i).length ≤ 9223372036854775807 ∧ (D i).length ≤ 9223372036854775807) := hl
  obtain ⟨a, c, rfl, _⟩ := h
  clear hl
  have hw : IntKind.i64.wrap (1048576 - (n : Int)) = 1048576 - (n : Int) := by rw [IntKind.wrap_i64]; omega
  by_cases h0 : 1048576 - (n : Int) < 0
  · go_enter Try.func4, Try.ntmps4
    go_wp2
    go_ret
    exact ⟨_, rfl, fun h => absurd h (by simp), Below.refl _ _⟩
  · have HN : Hid (n ≤ 1048576) := by show _ ≤ _; omega
    go_enter Try.func4, Try.ntmps4
    go_wp2
    go_loopw [1, 5] (fun l i w' => ∃ (k : Nat) (x : Int), k ≤ n ∧ i = .int .i64 (k : Int) ∧ l = .int .i64 x ∧ 0 ≤ x ∧ x ≤ 1048576 ∧ (totV S D k : Int) + x ≤ 1048576 - (n : Int) + (k : Int) ∧ (∀ i, i < k → (S i).length ≤ 1048576 ∧ (D i).length ≤ 1048576) ∧ Below w.heap.size w w') (fun _ i _ => n - (intOf i).toNat)
    case atStart => exact ⟨0, 1048576 - (n : Int), by omega, rfl, rfl, by omega, by omega, by rw [show totV S D 0 = 0 from rfl]; omega, fun i hi => absurd hi (by omega), Below.refl _ _⟩
    case round =>
      obtain ⟨k, x, hk, rfl, rfl, hx0, hx1, hxt, hA, hb⟩ := hrel
      have HX : Hid ((totV S D k : Int) + x ≤ 1048576 - (n : Int) + (k : Int)) := hxt
      have HA : Hid (∀ i, i < k → (S i).length ≤ 1048576 ∧ (D i).length ≤ 1048576) := hA
      have HB : Hid (Below w.heap.size w wr) := hb
      clear hA hb hxt
      by_cases hlt : (k : Int) < (n : Int)
      · have L : k < n := by omega
        obtain ⟨o, off, xa, xc, ya, yc, rfl, ho, p0, p1, p2, _⟩ := (H.out.keep HB.out).at L
        have CS : Hid (Calls Try.prog 13 #[.agg #[.bool (B k), .slice xa (S k).length xc, .slice ya (D k).length yc], .int .i64 x] wr fun e w' => e = .returned (.int .i64 (szV ((S k).length + (D k).length) x)) ∧ Below wr.heap.size wr w') := sz_var _ _ _ _ _ _ _ _ _ hx0 hx1 (HL.out k).1 (HL.out k).2
        have e0 : szV ((S k).length + (D k).length) x = -1 ∨ (0 ≤ szV ((S k).length + (D k).length) x ∧ szV ((S k).length + (D k).length) x ≤ 1048576 ∧ (S k).length ≤ 1048576 ∧ (D k).length ≤ 1048576 ∧ szV ((S k).length + (D k).length) x = x - (((S k).length + (D k).length : Nat) : Int)) := by
          unfold szV
          split
          · exact .inl rfl
          · refine .inr ⟨?_, ?_, ?_, ?_, ?_⟩ <;> omega
        have NX : Hid ((S k).length ≤ 1048576 ∧ (D k).length ≤ 1048576 → ∀ i, i < k + 1 → (S i).length ≤ 1048576 ∧ (D i).length ≤ 1048576) := fun h i hi => by
          by_cases e : i = k
          · rw [e]; exact h
          · exact HA.out i (by omega)
        clear ho
        generalize szV ((S k).length + (D k).length) x = z at *
        rcases e0 with rfl | ⟨z0, z1, z2, z3, z4⟩
        · clear NX
          generalize (S k).length = sl at *
          generalize (D k).length = dl at *
          generalize B k = bk at *
          go_wp2_with fail
          refine CS.out.mono ?_
          rintro r w2 ⟨rfl, hb⟩
          have B2 : Hid (Below w.heap.size w w2) := bTrans HB.out hb
          clear hb
          go_wp2
          go_ret
          exact ⟨_, rfl, fun h => absurd h (by simp), B2.out⟩
        · have NY : Hid (∀ i, i < k + 1 → (S i).length ≤ 1048576 ∧ (D i).length ≤ 1048576) := NX.out ⟨z2, z3⟩
          have zn : ¬ z < 0 := by omega
          have HZ : Hid ((totV S D (k + 1) : Int) + z ≤ 1048576 - (n : Int) + ((k + 1 : Nat) : Int)) := by
            have := HX.out
            show _ ≤ _
            rw [totV]
            omega
          clear NX z2 z3 z4
          generalize (S k).length = sl at *
          generalize (D k).length = dl at *
          generalize B k = bk at *
          go_wp2_with fail
          refine CS.out.mono ?_
          rintro r w2 ⟨rfl, hb⟩
          have B2 : Hid (Below w.heap.size w w2) := bTrans HB.out hb
          clear hb
          have hnn := HN.out
          go_wp2
          go_roundw
          case rel => exact ⟨k + 1, z, by omega, by go_num, rfl, z0, z1, HZ.out, NY.out, B2.out⟩
          case measure => simp [intOf]; omega
      · obtain rfl : k = n := by omega
        go_wp2
        go_ret
        exact ⟨_, rfl, fun _ => ⟨HN.out, HA.out, by have := HX.out; omega⟩, HB.out⟩
end Go.Proofs.Ytmknleholglhbaa
