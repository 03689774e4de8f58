/-
  Walks: lists of letters, told by value: held against each other, and right or not (the specification's and the program's VarsOk).
-/
import Derived.Test.YtmlncpplkhlnfaaLaw3
import Derived.Test.YtmlncpplkhlnfaaSpecArr
import Derived.Test.YtmlncpplkhlnfaaImplArr3
import Derived.Shelf.Abstract
import Derived.Deep.RegionHeld3
import Derived.Deep.Cut
namespace Go.Proofs.Ytmlncpplkhlnfaa
open Go.RowKit Go.Shelf
set_option linter.unusedVariables false
set_option linter.unusedSimpArgs false
/-- A list of letters: letter i is set or not by B i, its Shape is S i, its Data D i. -/
def VarsI (w : World) (v : Value) (n : Nat) (B : Nat → Bool) (S D : Nat → List Int) : Prop :=
  ∃ a c, v = .slice a n c ∧ (n = 0 ∨ ∃ (o off : Nat) (x y : Nat → Value), a = some ⟨o, off, none⟩ ∧ o < w.heap.size ∧ ∀ i, i < n →
    w.cell? ⟨o, off + i * 3, none⟩ = some (.bool (B i)) ∧ w.cell? ⟨o, off + i * 3 + 1, none⟩ = some (x i) ∧ w.cell? ⟨o, off + i * 3 + 2, none⟩ = some (y i) ∧ IntsI w (x i) (S i) ∧ IntsI w (y i) (D i))
theorem VarsI.keep {w w' : World} {v : Value} {n : Nat} {B : Nat → Bool} {S D : Nat → List Int} (h : VarsI w v n B S D) (hb : Below w.heap.size w w') : VarsI w' v n B S D := by
  obtain ⟨a, c, rfl, h⟩ := h
  refine ⟨a, c, rfl, ?_⟩
  rcases h with h | ⟨o, off, x, y, e, ho, hi⟩
  · exact .inl h
  · refine .inr ⟨o, off, x, y, e, Nat.lt_of_lt_of_le ho hb.size, fun i hn => ?_⟩
    obtain ⟨h1, h2, h3, h4, h5⟩ := hi i hn
    exact ⟨(hb.cell (p := ⟨o, off + i * 3, none⟩) ho).trans h1, (hb.cell (p := ⟨o, off + i * 3 + 1, none⟩) ho).trans h2, (hb.cell (p := ⟨o, off + i * 3 + 2, none⟩) ho).trans h3, h4.keep hb, h5.keep hb⟩
theorem VarsI.at {w : World} {a : Option Addr} {c n : Nat} {B : Nat → Bool} {S D : Nat → List Int} (h : VarsI w (.slice a n c) n B S D) {i : Nat} (hi : i < n) :
    ∃ o off xa xc ya yc, a = some ⟨o, off, none⟩ ∧ o < w.heap.size ∧ w.cell? ⟨o, off + i * 3, none⟩ = some (.bool (B i)) ∧ w.cell? ⟨o, off + i * 3 + 1, none⟩ = some (.slice xa (S i).length xc) ∧ w.cell? ⟨o, off + i * 3 + 2, none⟩ = some (.slice ya (D i).length yc) ∧ ArrI w (.agg #[.slice xa (S i).length xc, .slice ya (D i).length yc]) (S i) (D i) := by
  obtain ⟨a', c', e, h⟩ := h
  cases e
  rcases h with h | ⟨o, off, x, y, e, ho, hh⟩
  · omega
  · obtain ⟨h1, h2, h3, h4, h5⟩ := hh i hi
    obtain ⟨xa, xc, e1, g1, i1⟩ := h4
    obtain ⟨ya, yc, e2, g2, i2⟩ := h5
    rw [e1] at h2
    rw [e2] at h3
    exact ⟨o, off, xa, xc, ya, yc, e, ho, h1, h2, h3, _, _, _, _, rfl, i1, i2, g1, g2⟩
/-- Whether a letter is right. -/
def varB (b : Bool) (s d : List Int) : Bool := if b = true then arrOk s d else decide (s.length + d.length = 0)
def varsB (n : Nat) (B : Nat → Bool) (S D : Nat → List Int) : Bool := decide (n = 26) && (List.range 26).all fun i => varB (B i) (S i) (D i)
theorem varsB_long {n : Nat} {B : Nat → Bool} {S D : Nat → List Int} (h : n ≠ 26) : varsB n B S D = false := by unfold varsB; rw [decide_eq_false h]; rfl
theorem varsB_bad {B : Nat → Bool} {S D : Nat → List Int} {i : Nat} (hi : i < 26) (h : varB (B i) (S i) (D i) = false) : varsB 26 B S D = false := by
  unfold varsB
  rw [Bool.and_eq_false_iff]
  refine .inr ?_
  rw [List.all_eq_false]
  exact ⟨i, by simpa using hi, by rw [h]; decide⟩
theorem varsB_good {B : Nat → Bool} {S D : Nat → List Int} (h : ∀ i, i < 26 → varB (B i) (S i) (D i) = true) : varsB 26 B S D = true := by
  unfold varsB
  simp only [decide_true, Bool.true_and, List.all_eq_true, List.mem_range]
  exact h
set_option maxRecDepth 20000 in
set_option maxHeartbeats 4000000 in
/-- The specification's VarsOk. -/
theorem varsOk_spec {w : World} {v : Value} {n : Nat} {B : Nat → Bool} {S D : Nat → List Int} (h : VarsI w v n B S D) (hl : ∀ i, (S i).length ≤ 1048576 ∧ (D i).length ≤ 1048576) (hn : n ≤ 1048576) :
    Calls Try.prog 6 #[v] w fun e w' => e = .returned (.bool (varsB n B S D)) ∧ Below w.heap.size w w' := by
  have H : Hid (VarsI w v n B S D) := h
  have HL : Hid (∀ i, (S i).length ≤ 1048576 ∧ (D i).length ≤ 1048576) := hl
  obtain ⟨a, c, rfl, _⟩ := h
  clear hl
  by_cases h26 : n = 26
  · subst h26
    have GD : Hid ((∀ i, i < 26 → varB (B i) (S i) (D i) = true) → varsB 26 B S D = true) := varsB_good
    have BD : Hid (∀ i, i < 26 → varB (B i) (S i) (D i) = false → varsB 26 B S D = false) := fun i hi h => varsB_bad hi h
    generalize varsB 26 B S D = Q at *
    go_enter Try.func6, Try.ntmps6
    go_wp2
    go_loopw [3] (fun i w' => ∃ k : Nat, k ≤ 26 ∧ i = .int .i64 (k : Int) ∧ (∀ i, i < k → varB (B i) (S i) (D i) = true) ∧ Below w.heap.size w w') (fun i _ => 26 - (intOf i).toNat)
    case atStart => exact ⟨0, by omega, rfl, fun i hi => absurd hi (by omega), Below.refl _ _⟩
    case round =>
      obtain ⟨k, hk, rfl, hA, hb⟩ := hrel
      have HA : Hid (∀ i, i < k → varB (B i) (S i) (D i) = true) := hA
      have HB : Hid (Below w.heap.size w wr) := hb
      clear hA hb
      by_cases hlt : (k : Int) < 26
      · have L : k < 26 := by omega
        obtain ⟨o, off, xa, xc, ya, yc, rfl, ho, p0, p1, p2, ar⟩ := (H.out.keep HB.out).at L
        have AR : Hid (ArrI wr (.agg #[.slice xa (S k).length xc, .slice ya (D k).length yc]) (S k) (D k)) := ar
        have LL : Hid ((S k).length ≤ 1048576 ∧ (D k).length ≤ 1048576) := HL.out k
        have NX : Hid (varB (B k) (S k) (D k) = true → ∀ i, i < k + 1 → varB (B i) (S i) (D i) = true) := fun h i hi => by
          by_cases e : i = k
          · rw [e]; exact h
          · exact HA.out i (by omega)
        have BX : Hid (varB (B k) (S k) (D k) = false → Q = false) := BD.out k L
        have hls : (S k).length ≤ 1048576 := LL.out.1
        have hld : (D k).length ≤ 1048576 := LL.out.2
        clear ar ho
        have EV : varB (B k) (S k) (D k) = if B k = true then arrOk (S k) (D k) else decide ((S k).length + (D k).length = 0) := rfl
        generalize S k = s at *
        generalize D k = d at *
        cases hbk : B k
        · rw [hbk] at p0 EV NX BX
          rw [if_neg (by decide)] at EV
          by_cases hz : s.length + d.length = 0
          · rw [decide_eq_true hz] at EV
            have NX' := NX.out EV
            have NY : Hid (∀ i, i < k + 1 → varB (B i) (S i) (D i) = true) := NX'
            have hz1 : ¬ (0 : Int) < (s.length : Int) + (d.length : Int) := by omega
            clear NX NX' BX EV hz AR
            go_wp2
            go_roundw
            case rel => exact ⟨k + 1, by omega, by go_num, NY.out, bAlloc HB.out _⟩
            case measure => simp [intOf]; omega
          · rw [decide_eq_false hz] at EV
            have QF : Hid (Q = false) := BX.out EV
            have hz1 : (0 : Int) < (s.length : Int) + (d.length : Int) := by omega
            clear NX BX EV hz AR
            go_wp2
            go_ret
            exact ⟨by rw [QF.out]; rfl, bAlloc HB.out _⟩
        · rw [hbk] at p0 EV NX BX
          rw [if_pos rfl] at EV
          go_wp2_with fail
          refine (arrOk_spec (AR.out.keep (bAlloc (Below.refl _ _) _)) LL.out.2).mono ?_
          rintro r w2 ⟨rfl, hb⟩
          have B2 : Hid (Below w.heap.size w w2) := bTrans (bAlloc HB.out _) hb
          have c0 := (hb.cell (p := ⟨wr.heap.size, 0, none⟩) (by simp)).trans (cell_at (heap_alloc_new wr (.cells #[.bool true, .slice xa s.length xc, .slice ya d.length yc] 40)) rfl)
          clear hb
          cases ho : arrOk s d
          · rw [ho] at EV
            have QF : Hid (Q = false) := BX.out EV
            clear NX BX EV AR
            go_wp2
            go_ret
            exact ⟨by rw [QF.out]; rfl, B2.out⟩
          · rw [ho] at EV
            have NY : Hid (∀ i, i < k + 1 → varB (B i) (S i) (D i) = true) := NX.out EV
            clear NX BX EV AR
            go_wp2
            go_roundw
            case rel => exact ⟨k + 1, by omega, by go_num, NY.out, B2.out⟩
            case measure => simp [intOf]; omega
      · obtain rfl : k = 26 := by omega
        have QT : Hid (Q = true) := GD.out HA.out
        go_wp2
        go_ret
        exact ⟨by rw [QT.out]; rfl, HB.out⟩
  · rw [varsB_long h26]
    have n1 : ((n : Int) != 26) = true := by simp; omega
    clear h26
    go_enter Try.func6, Try.ntmps6
    go_wp2
    go_ret
    exact ⟨rfl, Below.refl _ _⟩
end Go.Proofs.Ytmlncpplkhlnfaa
