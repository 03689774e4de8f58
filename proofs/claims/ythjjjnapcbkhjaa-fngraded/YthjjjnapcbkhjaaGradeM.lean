/-
  Plain: numbers graded: put in one by one, and by their values in order: the same places.
-/
import Derived.Test.YthjjjnapcbkhjaaMakeM
namespace Go.Proofs.Ythjjjnapcbkhjaa
set_option linter.unusedVariables false
/-- Place a stands ahead of place b. -/
def ahead (d : List Int) (a b : Nat) : Prop := d.getD a 0 < d.getD b 0 ∨ (d.getD a 0 = d.getD b 0 ∧ a < b)
theorem ahead_irr {d : List Int} {a : Nat} (h : ahead d a a) : False := by unfold ahead at h; omega
theorem ahead_asym {d : List Int} {a b : Nat} (h : ahead d a b) (k : ahead d b a) : False := by unfold ahead at h k; omega
theorem ahead_trans {d : List Int} {a b c : Nat} (h : ahead d a b) (k : ahead d b c) : ahead d a c := by unfold ahead at h k ⊢; omega
/-- Two lists in this order with the same members are one. -/
theorem graded_one {d : List Int} : ∀ {l m : List Nat}, l.Pairwise (ahead d) → m.Pairwise (ahead d) → (∀ x, x ∈ l ↔ x ∈ m) → l = m := by
  intro l
  induction l with
  | nil =>
    intro m _ _ h
    cases m with
    | nil => rfl
    | cons y m => exact absurd ((h y).2 (by simp)) (by simp)
  | cons x l ih =>
    intro m h1 h2 h
    cases m with
    | nil => exact absurd ((h x).1 (by simp)) (by simp)
    | cons y m =>
      rw [List.pairwise_cons] at h1 h2
      have e : x = y := by
        have a1 := (h x).1 (by simp)
        have a2 := (h y).2 (by simp)
        rw [List.mem_cons] at a1 a2
        rcases a1 with a1 | a1
        · exact a1
        · rcases a2 with a2 | a2
          · exact a2.symm
          · exact absurd (ahead_asym (h1.1 y a2) (h2.1 x a1)) id
      subst e
      rw [ih h1.2 h2.2 (fun z => ?_)]
      have hz := h z
      rw [List.mem_cons, List.mem_cons] at hz
      constructor
      · intro hm
        rcases hz.1 (.inr hm) with e | e
        · subst e; exact absurd (h1.1 z hm) ahead_irr
        · exact e
      · intro hm
        rcases hz.2 (.inr hm) with e | e
        · subst e; exact absurd (h2.1 z hm) ahead_irr
        · exact e
/-- The specification's round: i is put ahead of the first that is greater. -/
def insTo (d : List Int) (i : Nat) (L : List Nat) : Nat → Bool × List Nat
  | 0 => (false, [])
  | k + 1 => if (insTo d i L k).1 = false ∧ d.getD i 0 < d.getD (L.getD k 0) 0 then (true, (insTo d i L k).2 ++ [i] ++ [L.getD k 0]) else ((insTo d i L k).1, (insTo d i L k).2 ++ [L.getD k 0])
def insAll (d : List Int) (i : Nat) (L : List Nat) : List Nat := if (insTo d i L L.length).1 = false then (insTo d i L L.length).2 ++ [i] else (insTo d i L L.length).2
def gradeTo (d : List Int) : Nat → List Nat
  | 0 => []
  | i + 1 => insAll d i (gradeTo d i)
theorem take_snocN {L : List Nat} {k : Nat} (h : k < L.length) : L.take (k + 1) = L.take k ++ [L.getD k 0] := by
  rw [List.take_succ_eq_append_getElem h, List.getD_eq_getElem?_getD, List.getElem?_eq_getElem h]; rfl
theorem getN {L : List Nat} {k : Nat} (h : k < L.length) : L.getD k 0 = L[k] := by rw [List.getD_eq_getElem?_getD, List.getElem?_eq_getElem h]; rfl
/-- What has been put so far. -/
theorem insTo_is {d : List Int} {i : Nat} {L : List Nat} : ∀ {k : Nat}, k ≤ L.length →
    ((insTo d i L k).1 = false ∧ (insTo d i L k).2 = L.take k ∧ ∀ j, j < k → ¬ d.getD i 0 < d.getD (L.getD j 0) 0) ∨
    ((insTo d i L k).1 = true ∧ ∃ p, p < k ∧ (insTo d i L k).2 = L.take p ++ [i] ++ (L.take k).drop p ∧ d.getD i 0 < d.getD (L.getD p 0) 0 ∧ ∀ j, j < p → ¬ d.getD i 0 < d.getD (L.getD j 0) 0) := by
  intro k
  induction k with
  | zero => intro _; exact .inl ⟨rfl, rfl, fun j hj => by omega⟩
  | succ k ih =>
    intro hk
    rcases ih (by omega) with ⟨h1, h2, h3⟩ | ⟨h1, p, hp, h2, h3, h4⟩
    · by_cases hq : d.getD i 0 < d.getD (L.getD k 0) 0
      · right
        have e : insTo d i L (k + 1) = (true, (insTo d i L k).2 ++ [i] ++ [L.getD k 0]) := by
          show (if _ then _ else _) = _
          rw [if_pos ⟨h1, hq⟩]
        rw [e]
        refine ⟨rfl, k, by omega, ?_, hq, h3⟩
        show (insTo d i L k).2 ++ [i] ++ [L.getD k 0] = _
        rw [h2, take_snocN (by omega), List.drop_append_of_le_length (by rw [List.length_take]; omega), List.drop_of_length_le (by rw [List.length_take]; omega)]
        simp
      · left
        have e : insTo d i L (k + 1) = ((insTo d i L k).1, (insTo d i L k).2 ++ [L.getD k 0]) := by
          show (if _ then _ else _) = _
          rw [if_neg (fun q => hq q.2)]
        rw [e]
        refine ⟨h1, ?_, fun j hj => ?_⟩
        · show (insTo d i L k).2 ++ [L.getD k 0] = _
          rw [h2, take_snocN (by omega)]
        · by_cases ej : j = k
          · rw [ej]; exact hq
          · exact h3 j (by omega)
    · right
      have e : insTo d i L (k + 1) = ((insTo d i L k).1, (insTo d i L k).2 ++ [L.getD k 0]) := by
        show (if _ then _ else _) = _
        rw [if_neg (fun q => by rw [h1] at q; cases q.1)]
      rw [e]
      refine ⟨h1, p, by omega, ?_, h3, h4⟩
      show (insTo d i L k).2 ++ [L.getD k 0] = _
      rw [h2, take_snocN (by omega), List.drop_append_of_le_length (by rw [List.length_take]; omega)]
      simp
/-- Put in at its place. -/
theorem insAll_is (d : List Int) (i : Nat) (L : List Nat) : ∃ p, p ≤ L.length ∧ insAll d i L = L.take p ++ [i] ++ L.drop p ∧ (p < L.length → d.getD i 0 < d.getD (L.getD p 0) 0) ∧ ∀ j, j < p → ¬ d.getD i 0 < d.getD (L.getD j 0) 0 := by
  unfold insAll
  rcases insTo_is (d := d) (i := i) (L := L) (Nat.le_refl L.length) with ⟨h1, h2, h3⟩ | ⟨h1, p, hp, h2, h3, h4⟩
  · rw [if_pos h1, h2]
    exact ⟨L.length, Nat.le_refl _, by simp, fun q => by omega, h3⟩
  · rw [if_neg (by rw [h1]; simp), h2]
    exact ⟨p, by omega, by simp, fun _ => h3, h4⟩
theorem gradeTo_is (d : List Int) : ∀ n, (gradeTo d n).Pairwise (ahead d) ∧ ∀ x, x ∈ gradeTo d n ↔ x < n := by
  intro n
  induction n with
  | zero => exact ⟨List.Pairwise.nil, fun x => by simp [gradeTo]⟩
  | succ n ih =>
    obtain ⟨h1, h2⟩ := ih
    obtain ⟨p, hp, e, hq, hj⟩ := insAll_is d n (gradeTo d n)
    have e' : gradeTo d (n + 1) = (gradeTo d n).take p ++ [n] ++ (gradeTo d n).drop p := e
    generalize gradeTo d n = L at *
    rw [e']
    have hs : (L.take p ++ L.drop p).Pairwise (ahead d) := by rw [List.take_append_drop]; exact h1
    rw [List.pairwise_append] at hs
    have hm : ∀ x, x ∈ L.take p ∨ x ∈ L.drop p ↔ x < n := fun x => by rw [← List.mem_append, List.take_append_drop]; exact h2 x
    have hl : ∀ x, x ∈ L.take p → ahead d x n := fun x hx => by
      obtain ⟨j, hj', rfl⟩ := List.getElem_of_mem hx
      rw [List.length_take] at hj'
      have hx' := (hm ((L.take p)[j])).1 (.inl hx)
      have q := hj j (by omega)
      rw [getN (by omega)] at q
      rw [List.getElem_take] at hx' ⊢
      unfold ahead
      omega
    have hr : ∀ x, x ∈ L.drop p → ahead d n x := fun x hx => by
      have hpl : p < L.length := by
        rcases Nat.lt_or_ge p L.length with h | h
        · exact h
        · rw [List.drop_of_length_le h] at hx; cases hx
      have q := hq hpl
      rw [getN hpl] at q
      rw [List.drop_eq_getElem_cons hpl, List.mem_cons] at hx
      rcases hx with rfl | hx
      · exact .inl q
      · have hd := hs.2.1
        rw [List.drop_eq_getElem_cons hpl, List.pairwise_cons] at hd
        have := hd.1 x hx
        unfold ahead at this ⊢
        omega
    constructor
    · rw [List.append_assoc, List.singleton_append, List.pairwise_append]
      refine ⟨hs.1, List.pairwise_cons.2 ⟨hr, hs.2.1⟩, fun a ha b hb => ?_⟩
      rw [List.mem_cons] at hb
      rcases hb with rfl | hb
      · exact hl a ha
      · exact hs.2.2 a ha b hb
    · intro x
      rw [List.append_assoc, List.singleton_append, List.mem_append, List.mem_cons]
      have := hm x
      constructor
      · rintro (h | rfl | h)
        · have := this.1 (.inl h); omega
        · omega
        · have := this.1 (.inr h); omega
      · intro h
        by_cases ex : x = n
        · exact .inr (.inl ex)
        · rcases this.2 (by omega) with h | h
          · exact .inl h
          · exact .inr (.inr h)
/-- By the values in order: the places of each, ascending. -/
def placesAt (d : List Int) (x : Int) : List Nat := (List.range d.length).filter (fun p => d.getD p 0 == x)
def gradeBy (d : List Int) (xs : List Int) : List Nat := xs.flatMap (placesAt d)
theorem mem_placesAt {d : List Int} {x : Int} {p : Nat} : p ∈ placesAt d x ↔ p < d.length ∧ d.getD p 0 = x := by
  unfold placesAt
  rw [List.mem_filter]
  simp
theorem placesAt_up (d : List Int) (x : Int) : (placesAt d x).Pairwise (ahead d) := by
  have h : (placesAt d x).Pairwise (· < ·) := List.Pairwise.sublist List.filter_sublist List.pairwise_lt_range
  refine List.Pairwise.imp_of_mem (fun ha hb hlt => ?_) h
  have h1 := (mem_placesAt.1 ha).2
  have h2 := (mem_placesAt.1 hb).2
  exact .inr ⟨by rw [h1, h2], hlt⟩
theorem gradeBy_up {d : List Int} : ∀ {xs : List Int}, xs.Pairwise (· < ·) → (gradeBy d xs).Pairwise (ahead d) := by
  intro xs
  induction xs with
  | nil => intro _; exact List.Pairwise.nil
  | cons x xs ih =>
    intro h
    rw [List.pairwise_cons] at h
    show (placesAt d x ++ gradeBy d xs).Pairwise (ahead d)
    rw [List.pairwise_append]
    refine ⟨placesAt_up d x, ih h.2, fun a ha b hb => ?_⟩
    have h1 := (mem_placesAt.1 ha).2
    obtain ⟨y, hy, hb'⟩ := List.mem_flatMap.1 hb
    have h2 := (mem_placesAt.1 hb').2
    exact .inl (by rw [h1, h2]; exact h.1 y hy)
theorem grade_same {d xs : List Int} (h : xs.Pairwise (· < ·)) (hx : ∀ x, x ∈ xs ↔ x ∈ d) : gradeBy d xs = gradeTo d d.length := by
  obtain ⟨g1, g2⟩ := gradeTo_is d d.length
  refine graded_one (gradeBy_up h) g1 (fun p => ?_)
  rw [g2]
  unfold gradeBy
  rw [List.mem_flatMap]
  constructor
  · rintro ⟨x, _, hp⟩
    exact (mem_placesAt.1 hp).1
  · intro hp
    exact ⟨d.getD p 0, (hx _).2 (by simp [hp]), mem_placesAt.2 ⟨hp, rfl⟩⟩
theorem gradeTo_len (d : List Int) (n : Nat) : (gradeTo d n).length = n := by
  induction n with
  | zero => rfl
  | succ n ih =>
    obtain ⟨p, hp, e, _⟩ := insAll_is d n (gradeTo d n)
    have e' : gradeTo d (n + 1) = (gradeTo d n).take p ++ [n] ++ (gradeTo d n).drop p := e
    rw [e']
    simp
    omega
end Go.Proofs.Ythjjjnapcbkhjaa
