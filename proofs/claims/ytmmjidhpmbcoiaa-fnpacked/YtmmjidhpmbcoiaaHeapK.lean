/-
  Plain: a heap that is packed.
-/
import Derived.Test.YtmmjidhpmbcoiaaHeapT
import Derived.Test.YtmmjidhpmbcoiaaHeapI3
namespace Go.Proofs.Ytmmjidhpmbcoiaa
set_option linter.unusedVariables false
set_option linter.unusedSimpArgs false
/-- The handle number k, in order. -/
def hn (hs : List Nat) (k : Nat) : Nat := hs.getD k 0
/-- How many words the first k in order have. -/
def offs (E : Nat → Cel) (hs : List Nat) : Nat → Nat
  | 0 => 0
  | k + 1 => offs E hs k + (E (hn hs k)).l.toNat
/-- The words of the first k in order, one behind the other. -/
def pkX (W : List Int) (E : Nat → Cel) (hs : List Nat) : Nat → List Int
  | 0 => []
  | k + 1 => pkX W E hs k ++ wds W (E (hn hs k))
/-- The cells when the first k in order stand packed. -/
def pkC (E : Nat → Cel) (hs : List Nat) (C : Nat → Cel) : Nat → Nat → Cel
  | 0 => C
  | k + 1 => up (pkC E hs C k) (hn hs k) ⟨(offs E hs k : Int), (E (hn hs k)).l, true⟩
section
variable {W : List Int} {t : Int} {n : Nat} {E : Nat → Cel} {hs : List Nat}
theorem ok_ends (h : hOk W.length t n E) (ho : Ord E n hs) {k : Nat} (hk : k < hs.length) : 0 ≤ (E (hn hs k)).f ∧ 1 ≤ (E (hn hs k)).l ∧ (E (hn hs k)).f + (E (hn hs k)).l ≤ t ∧ t ≤ W.length ∧ W.length ≤ 6000 := by
  obtain ⟨a1, a2⟩ := ord_get ho hk
  have := (h.2.2.2.2.1 _ a1).2 a2
  exact ⟨this.2.1, this.1, this.2.2, h.2.2.1, h.1⟩
theorem ok_behind (h : hOk W.length t n E) (ho : Ord E n hs) {i j : Nat} (hij : i < j) (hj : j < hs.length) : (E (hn hs i)).f + (E (hn hs i)).l ≤ (E (hn hs j)).f := by
  obtain ⟨a1, a2⟩ := ord_get ho (show i < hs.length by omega)
  obtain ⟨b1, b2⟩ := ord_get ho hj
  have hne := ord_ne ho hij hj
  have hle := ord_le ho hij hj
  have ei := ok_ends h ho (show i < hs.length by omega)
  have ej := ok_ends h ho hj
  have ap : apt (E (hn hs i)) (E (hn hs j)) ∨ apt (E (hn hs j)) (E (hn hs i)) := by
    by_cases e : hn hs i < hn hs j
    · exact .inl (h.2.2.2.2.2 _ _ e b1)
    · exact .inr (h.2.2.2.2.2 _ _ (by simp only [hn] at *; omega) a1)
  simp only [hn] at *
  rcases ap with ap | ap
  · have := ap a2 b2; omega
  · have := ap b2 a2; omega
theorem offs_le (h : hOk W.length t n E) (ho : Ord E n hs) : ∀ k, k < hs.length → (offs E hs k : Int) ≤ (E (hn hs k)).f
  | 0, hk => by have := ok_ends h ho hk; show (0 : Int) ≤ _; omega
  | k + 1, hk => by
    have ih := offs_le h ho k (by omega)
    have e := ok_ends h ho (show k < hs.length by omega)
    have b := ok_behind h ho (show k < k + 1 by omega) hk
    simp only [offs]
    omega
theorem offs_end (h : hOk W.length t n E) (ho : Ord E n hs) {k : Nat} (hk : k < hs.length) : (offs E hs (k + 1) : Int) ≤ t := by
  have a := offs_le h ho k hk
  have e := ok_ends h ho hk
  simp only [offs]
  omega
theorem wds_length (h : hOk W.length t n E) (ho : Ord E n hs) {k : Nat} (hk : k < hs.length) : (wds W (E (hn hs k))).length = (E (hn hs k)).l.toNat := by
  have e := ok_ends h ho hk
  unfold wds
  rw [List.length_take, List.length_drop]
  omega
theorem pkX_length (h : hOk W.length t n E) (ho : Ord E n hs) : ∀ k, k ≤ hs.length → (pkX W E hs k).length = offs E hs k
  | 0, _ => rfl
  | k + 1, hk => by
    simp only [pkX, offs, List.length_append]
    rw [pkX_length h ho k (by omega), wds_length h ho (by omega)]
/-- Whatever the cells were: those in use come to the same. -/
theorem pkC_same (C D : Nat → Cel) : ∀ (k i : Nat), pkC E hs C k i = pkC E hs D k i ∨ (pkC E hs C k i = C i ∧ pkC E hs D k i = D i ∧ ∀ j, j < k → hn hs j ≠ i)
  | 0, i => .inr ⟨rfl, rfl, fun j hj => absurd hj (by omega)⟩
  | k + 1, i => by
    simp only [pkC]
    by_cases e : i = hn hs k
    · left; rw [e, up_at, up_at]
    · rw [up_ne _ _ e, up_ne _ _ e]
      rcases pkC_same C D k i with h | ⟨h1, h2, h3⟩
      · exact .inl h
      · refine .inr ⟨h1, h2, fun j hj => ?_⟩
        by_cases ej : j = k
        · subst ej; exact fun h => e h.symm
        · exact h3 j (by omega)
theorem pkC_end (h : hOk W.length t n E) (ho : Ord E n hs) {i : Nat} (hi : i < n) : pkC E hs E hs.length i = pkC E hs (fun _ => cel0) hs.length i := by
  rcases pkC_same (E := E) (hs := hs) E (fun _ => cel0) hs.length i with h1 | ⟨h1, h2, h3⟩
  · exact h1
  · rw [h1, h2]
    cases hv : (E i).v with
    | false =>
      have := (h.2.2.2.2.1 i hi).1 hv
      exact Cel.ext' this.1 this.2 hv
    | true =>
      obtain ⟨k, hk, e⟩ := ord_at ho hi hv
      exact absurd e (h3 k hk)
/-- There is one order alone. -/
theorem ord_unique (h : hOk W.length t n E) {hs' : List Nat} (ho : Ord E n hs) (ho' : Ord E n hs') : hs = hs' := by
  have hp : hs.Perm hs' := ho.1.trans ho'.1.symm
  refine hp.eq_of_pairwise (le := fun a b => (E a).f ≤ (E b).f) ?_ ho.2 ho'.2
  intro a b ha hb h1 h2
  apply Classical.byContradiction
  intro hne
  obtain ⟨a1, a2⟩ := liv_mem.1 (ho.1.mem_iff.1 ha)
  obtain ⟨b1, b2⟩ := liv_mem.1 (ho'.1.mem_iff.1 hb)
  have fa := (h.2.2.2.2.1 a a1).2 a2
  have fb := (h.2.2.2.2.1 b b1).2 b2
  by_cases e : a < b
  · have := h.2.2.2.2.2 a b e b1 a2 b2; omega
  · have := h.2.2.2.2.2 b a (by omega) a1 b2 a2; omega
end
/-- The order. -/
noncomputable def ordH (E : Nat → Cel) (n : Nat) : List Nat := (liv E n).mergeSort fun a b => decide ((E a).f ≤ (E b).f)
theorem ordH_ord (E : Nat → Cel) (n : Nat) : Ord E n (ordH E n) := by
  refine ⟨List.mergeSort_perm _ _, ?_⟩
  have := List.pairwise_mergeSort (le := fun a b => decide ((E a).f ≤ (E b).f)) (fun a b c h1 h2 => by simp at *; omega) (fun a b => by simp; omega) (liv E n)
  exact this.imp fun h => by simpa using h
end Go.Proofs.Ytmmjidhpmbcoiaa
