/-
  Plain: when a heap is right; places in use.
-/
import Derived.Test.YtmmjidhpmbcoiaaHeapG
namespace Go.Proofs.Ytmmjidhpmbcoiaa
set_option linter.unusedVariables false
set_option linter.unusedSimpArgs false
/-- A cell by itself is right. -/
def fit (t : Int) (c : Cel) : Prop := (c.v = false → c.f = 0 ∧ c.l = 0) ∧ (c.v = true → 1 ≤ c.l ∧ 0 ≤ c.f ∧ c.f + c.l ≤ t)
/-- Two cells share no word. -/
def apt (c d : Cel) : Prop := c.v = true → d.v = true → c.f + c.l ≤ d.f ∨ d.f + d.l ≤ c.f
/-- A heap is right. -/
def hOk (m : Nat) (t : Int) (n : Nat) (E : Nat → Cel) : Prop := m ≤ 6000 ∧ 0 ≤ t ∧ t ≤ m ∧ n ≤ 200 ∧ (∀ i, i < n → fit t (E i)) ∧ ∀ i j, i < j → j < n → apt (E i) (E j)
noncomputable def hOkB (m : Nat) (t : Int) (n : Nat) (E : Nat → Cel) : Bool := @decide (hOk m t n E) (Classical.propDecidable _)
theorem hOkB_true {m : Nat} {t : Int} {n : Nat} {E : Nat → Cel} (h : hOk m t n E) : hOkB m t n E = true := by unfold hOkB; simp [h]
theorem hOkB_false {m : Nat} {t : Int} {n : Nat} {E : Nat → Cel} (h : ¬ hOk m t n E) : hOkB m t n E = false := by unfold hOkB; simp [h]
theorem hOkB_iff {m : Nat} {t : Int} {n : Nat} {E : Nat → Cel} : hOkB m t n E = true ↔ hOk m t n E := by unfold hOkB; simp
/-- The places that the first k cells have, and those from f on below q. -/
def Us (T : Nat) (B : List Bool) (k : Nat) (E : Nat → Cel) (f q : Int) : Prop :=
  B.length = T ∧ ∀ p : Nat, p < T → (B.getD p false = true ↔ (∃ i, i < k ∧ (E i).v = true ∧ (E i).f ≤ p ∧ (p : Int) < (E i).f + (E i).l) ∨ (f ≤ p ∧ (p : Int) < q))
theorem Us.start (T : Nat) (E : Nat → Cel) : Us T (List.replicate T false) 0 E 0 0 := by
  refine ⟨by simp, fun p hp => ?_⟩
  constructor
  · intro h
    have : (List.replicate T false).getD p false = false := by simp [List.getD, List.getElem?_replicate, hp]
    rw [this] at h; cases h
  · rintro (⟨i, hi, _⟩ | ⟨h1, h2⟩) <;> omega
theorem Us.dead {T : Nat} {B : List Bool} {k : Nat} {E : Nat → Cel} (h : Us T B k E 0 0) (hd : (E k).v = false) : Us T B (k + 1) E 0 0 := by
  refine ⟨h.1, fun p hp => ?_⟩
  rw [h.2 p hp]
  constructor
  · rintro (⟨i, hi, r⟩ | r)
    · exact .inl ⟨i, by omega, r⟩
    · exact .inr r
  · rintro (⟨i, hi, r1, r2⟩ | r)
    · by_cases e : i = k
      · subst e; rw [hd] at r1; cases r1
      · exact .inl ⟨i, by omega, r1, r2⟩
    · exact .inr r
theorem Us.at0 {T : Nat} {B : List Bool} {k : Nat} {E : Nat → Cel} (h : Us T B k E 0 0) (f : Int) : Us T B k E f f := by
  refine ⟨h.1, fun p hp => ?_⟩
  rw [h.2 p hp]
  constructor
  · rintro (r | ⟨h1, h2⟩)
    · exact .inl r
    · omega
  · rintro (r | ⟨h1, h2⟩)
    · exact .inl r
    · omega
theorem Us.set {T : Nat} {B : List Bool} {k : Nat} {E : Nat → Cel} {f : Int} {q : Nat} (h : Us T B k E f q) (hf : f ≤ q) (hq : q < T) : Us T (B.set q true) k E f ((q : Int) + 1) := by
  refine ⟨by simp [h.1], fun p hp => ?_⟩
  have hl := h.1
  by_cases e : p = q
  · subst e
    have : (B.set p true).getD p false = true := by simp [List.getD, hl, hq]
    rw [this]
    exact ⟨fun _ => .inr ⟨hf, by omega⟩, fun _ => rfl⟩
  · have : (B.set q true).getD p false = B.getD p false := by simp [List.getD, show ¬ q = p from fun h => e h.symm]
    rw [this, h.2 p hp]
    constructor
    · rintro (r | ⟨h1, h2⟩)
      · exact .inl r
      · exact .inr ⟨h1, by omega⟩
    · rintro (r | ⟨h1, h2⟩)
      · exact .inl r
      · exact .inr ⟨h1, by omega⟩
theorem Us.done {T : Nat} {B : List Bool} {k : Nat} {E : Nat → Cel} (h : Us T B k E (E k).f ((E k).f + (E k).l)) (hv : (E k).v = true) : Us T B (k + 1) E 0 0 := by
  refine ⟨h.1, fun p hp => ?_⟩
  rw [h.2 p hp]
  constructor
  · rintro (⟨i, hi, r⟩ | ⟨r1, r2⟩)
    · exact .inl ⟨i, by omega, r⟩
    · exact .inl ⟨k, by omega, hv, r1, r2⟩
  · rintro (⟨i, hi, r1, r2, r3⟩ | ⟨r1, r2⟩)
    · by_cases e : i = k
      · subst e; exact .inr ⟨r2, r3⟩
      · exact .inl ⟨i, by omega, r1, r2, r3⟩
    · omega
/-- The first k cells are right, and share no word. -/
def okTo (t : Int) (k : Nat) (E : Nat → Cel) : Prop := (∀ i, i < k → fit t (E i)) ∧ ∀ i j, i < j → j < k → apt (E i) (E j)
theorem okTo.zero (t : Int) (E : Nat → Cel) : okTo t 0 E := ⟨fun i hi => absurd hi (by omega), fun i j _ hj => absurd hj (by omega)⟩
theorem okTo.dead {t : Int} {k : Nat} {E : Nat → Cel} (h : okTo t k E) (hv : (E k).v = false) (h1 : (E k).f = 0) (h2 : (E k).l = 0) : okTo t (k + 1) E := by
  refine ⟨fun i hi => ?_, fun i j hij hj => ?_⟩
  · by_cases e : i = k
    · subst e; exact ⟨fun _ => ⟨h1, h2⟩, fun h => by rw [hv] at h; cases h⟩
    · exact h.1 i (by omega)
  · by_cases e : j = k
    · subst e; intro _ h; rw [hv] at h; cases h
    · exact h.2 i j hij (by omega)
/-- No place of the cell k was in use: it shares no word with those ahead of it. -/
theorem okTo.live {t : Int} {k : Nat} {E : Nat → Cel} (h : okTo t k E) (hv : (E k).v = true) (h1 : 1 ≤ (E k).l) (h2 : 0 ≤ (E k).f) (h3 : (E k).f + (E k).l ≤ t) (hn : ∀ p : Int, (E k).f ≤ p → p < (E k).f + (E k).l → ¬ ∃ i, i < k ∧ (E i).v = true ∧ (E i).f ≤ p ∧ p < (E i).f + (E i).l) : okTo t (k + 1) E := by
  refine ⟨fun i hi => ?_, fun i j hij hj => ?_⟩
  · by_cases e : i = k
    · subst e; exact ⟨fun h => (by rw [hv] at h; cases h), fun _ => ⟨h1, h2, h3⟩⟩
    · exact h.1 i (by omega)
  · by_cases e : j = k
    · subst e
      intro hi hj'
      have fi := (h.1 i hij).2 hi
      apply Classical.byContradiction
      intro hc
      by_cases hm : (E i).f ≤ (E j).f
      · exact hn (E j).f (Int.le_refl _) (by omega) ⟨i, hij, hi, hm, by omega⟩
      · exact hn (E i).f (by omega) (by omega) ⟨i, hij, hi, Int.le_refl _, by omega⟩
    · exact h.2 i j hij (by omega)
theorem not_ok_fit {m : Nat} {t : Int} {n k : Nat} {E : Nat → Cel} (hk : k < n) (h : ¬ fit t (E k)) : ¬ hOk m t n E := fun ⟨_, _, _, _, h1, _⟩ => h (h1 k hk)
theorem not_ok_both {m : Nat} {t : Int} {n i k : Nat} {E : Nat → Cel} (hi : i < k) (hk : k < n) {p : Int} (a1 : (E i).v = true) (a2 : (E i).f ≤ p) (a3 : p < (E i).f + (E i).l) (b1 : (E k).v = true) (b2 : (E k).f ≤ p) (b3 : p < (E k).f + (E k).l) : ¬ hOk m t n E := by
  rintro ⟨_, _, _, _, _, h⟩
  have := h i k hi hk a1 b1
  omega
theorem ok_of {m : Nat} {t : Int} {n : Nat} {E : Nat → Cel} (h1 : m ≤ 6000) (h2 : 0 ≤ t) (h3 : t ≤ m) (h4 : n ≤ 200) (h : okTo t n E) : hOk m t n E := ⟨h1, h2, h3, h4, h.1, h.2⟩
end Go.Proofs.Ytmmjidhpmbcoiaa
