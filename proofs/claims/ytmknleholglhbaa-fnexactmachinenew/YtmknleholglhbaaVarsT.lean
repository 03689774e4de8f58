/-
  Walks: how great a list of letters is.
-/
import Derived.Test.YtmknleholglhbaaVarsQ
namespace Go.Proofs.Ytmknleholglhbaa
open Go.RowKit Go.Shelf
set_option linter.unusedVariables false
set_option linter.unusedSimpArgs false
set_option maxRecDepth 20000 in
set_option maxHeartbeats 4000000 in
theorem sz_var (b : Bool) (xa ya : Option Addr) (n c m d : Nat) (left : Int) (w : World) (p1 : 0 ≤ left) (p2 : left ≤ 1048576) (hn : n ≤ 9223372036854775807) (hm : m ≤ 9223372036854775807) :
    Calls Try.prog 13 #[.agg #[.bool b, .slice xa n c, .slice ya m d], .int .i64 left] w fun e w' => e = .returned (.int .i64 (szV (n + m) left)) ∧ Below w.heap.size w w' := by
  have CS : Hid (∀ W, Calls Try.prog 23 #[.agg #[.slice xa n c, .slice ya m d], .int .i64 left] W fun e w' => e = .returned (.int .i64 (szV (n + m) left)) ∧ Below W.heap.size W w') := fun W => sz_arr xa ya n c m d left W p1 p2 hn hm
  have e0 : szV (n + m) left = -1 ∨ 0 ≤ szV (n + m) left := by unfold szV; split <;> omega
  generalize szV (n + m) left = x at *
  rcases e0 with rfl | e0
  · go_enter Try.func13, Try.ntmps13
    go_wp2_with fail
    refine (CS.out _).mono ?_
    rintro r w2 ⟨rfl, hb⟩
    have B2 : Hid (Below w.heap.size w w2) := bTrans (bAlloc (Below.refl _ _) _) hb
    clear hb
    go_wp2
    go_ret
    exact ⟨rfl, B2.out⟩
  · have e1 : ¬ x < 0 := by omega
    go_enter Try.func13, Try.ntmps13
    go_wp2_with fail
    refine (CS.out _).mono ?_
    rintro r w2 ⟨rfl, hb⟩
    have B2 : Hid (Below w.heap.size w w2) := bTrans (bAlloc (Below.refl _ _) _) hb
    clear hb
    go_wp2
    go_ret
    exact ⟨rfl, B2.out⟩
set_option maxRecDepth 20000 in
set_option maxHeartbeats 4000000 in
/-- How great a list of letters is. -/
theorem sz_vars {w : World} {v : Value} {n : Nat} {B : Nat → Bool} {S D : Nat → List Int} (h : VarsI w v n B S D) (hl : ∀ i, (S i).length ≤ 9223372036854775807 ∧ (D i).length ≤ 9223372036854775807) (hn : n ≤ 9223372036854775807) :
    Calls Try.prog 4 #[v, .int .i64 1048576] w fun e w' => ∃ x : Int, e = .returned (.int .i64 x) ∧ (0 ≤ x → n ≤ 1048576 ∧ ∀ i, i < n → (S i).length ≤ 1048576 ∧ (D i).length ≤ 1048576) ∧ Below w.heap.size w w' := by
  have H : Hid (VarsI w v n B S D) := h
  have HL : Hid (∀ i, (S i).length ≤ 9223372036854775807 ∧ (D i).length ≤ 9223372036854775807) := hl
  obtain ⟨a, c, rfl, _⟩ := h
  clear hl
  have hw : IntKind.i64.wrap (1048576 - (n : Int)) = 1048576 - (n : Int) := by rw [IntKind.wrap_i64]; omega
  by_cases h0 : 1048576 - (n : Int) < 0
  · go_enter Try.func4, Try.ntmps4
    go_wp2
    go_ret
    exact ⟨_, rfl, fun h => absurd h (by simp), Below.refl _ _⟩
  · have HN : Hid (n ≤ 1048576) := by show _ ≤ _; omega
    go_enter Try.func4, Try.ntmps4
    go_wp2
    go_loopw [1, 5] (fun l i w' => ∃ (k : Nat) (x : Int), k ≤ n ∧ i = .int .i64 (k : Int) ∧ l = .int .i64 x ∧ 0 ≤ x ∧ x ≤ 1048576 ∧ (∀ i, i < k → (S i).length ≤ 1048576 ∧ (D i).length ≤ 1048576) ∧ Below w.heap.size w w') (fun _ i _ => n - (intOf i).toNat)
    case atStart => exact ⟨0, 1048576 - (n : Int), by omega, rfl, rfl, by omega, by omega, fun i hi => absurd hi (by omega), Below.refl _ _⟩
    case round =>
      obtain ⟨k, x, hk, rfl, rfl, hx0, hx1, hA, hb⟩ := hrel
      have HA : Hid (∀ i, i < k → (S i).length ≤ 1048576 ∧ (D i).length ≤ 1048576) := hA
      have HB : Hid (Below w.heap.size w wr) := hb
      clear hA hb
      by_cases hlt : (k : Int) < (n : Int)
      · have L : k < n := by omega
        obtain ⟨o, off, xa, xc, ya, yc, rfl, ho, p0, p1, p2, _⟩ := (H.out.keep HB.out).at L
        have CS : Hid (Calls Try.prog 13 #[.agg #[.bool (B k), .slice xa (S k).length xc, .slice ya (D k).length yc], .int .i64 x] wr fun e w' => e = .returned (.int .i64 (szV ((S k).length + (D k).length) x)) ∧ Below wr.heap.size wr w') := sz_var _ _ _ _ _ _ _ _ _ hx0 hx1 (HL.out k).1 (HL.out k).2
        have e0 : szV ((S k).length + (D k).length) x = -1 ∨ (0 ≤ szV ((S k).length + (D k).length) x ∧ szV ((S k).length + (D k).length) x ≤ 1048576 ∧ (S k).length ≤ 1048576 ∧ (D k).length ≤ 1048576) := by
          unfold szV
          split
          · exact .inl rfl
          · refine .inr ⟨?_, ?_, ?_, ?_⟩ <;> omega
        have NX : Hid ((S k).length ≤ 1048576 ∧ (D k).length ≤ 1048576 → ∀ i, i < k + 1 → (S i).length ≤ 1048576 ∧ (D i).length ≤ 1048576) := fun h i hi => by
          by_cases e : i = k
          · rw [e]; exact h
          · exact HA.out i (by omega)
        clear ho
        generalize szV ((S k).length + (D k).length) x = z at *
        rcases e0 with rfl | ⟨z0, z1, z2, z3⟩
        · clear NX
          generalize (S k).length = sl at *
          generalize (D k).length = dl at *
          generalize B k = bk at *
          go_wp2_with fail
          refine CS.out.mono ?_
          rintro r w2 ⟨rfl, hb⟩
          have B2 : Hid (Below w.heap.size w w2) := bTrans HB.out hb
          clear hb
          go_wp2
          go_ret
          exact ⟨_, rfl, fun h => absurd h (by simp), B2.out⟩
        · have NY : Hid (∀ i, i < k + 1 → (S i).length ≤ 1048576 ∧ (D i).length ≤ 1048576) := NX.out ⟨z2, z3⟩
          have zn : ¬ z < 0 := by omega
          clear NX z2 z3
          generalize (S k).length = sl at *
          generalize (D k).length = dl at *
          generalize B k = bk at *
          go_wp2_with fail
          refine CS.out.mono ?_
          rintro r w2 ⟨rfl, hb⟩
          have B2 : Hid (Below w.heap.size w w2) := bTrans HB.out hb
          clear hb
          have hnn := HN.out
          go_wp2
          go_roundw
          case rel => exact ⟨k + 1, z, by omega, by go_num, rfl, z0, z1, NY.out, B2.out⟩
          case measure => simp [intOf]; omega
      · obtain rfl : k = n := by omega
        go_wp2
        go_ret
        exact ⟨_, rfl, fun _ => ⟨HN.out, HA.out⟩, HB.out⟩
end Go.Proofs.Ytmknleholglhbaa
