/-
  Plain arithmetic of Chapter 4 (element by element); no Go in sight.
-/
import Derived.Test.YtmmjidhpmbcoiaaArrM
namespace Go.Proofs.Ytmmjidhpmbcoiaa
set_option linter.unusedVariables false
/-- The first code that is not 0 of the first n. -/
def firstC (g : Nat → Int) : Nat → Int
  | 0 => 0
  | n + 1 => if firstC g n = 0 then g n else firstC g n
theorem firstC_go {g : Nat → Int} {k : Nat} (h : firstC g k = 0) (hk : g k = 0) : firstC g (k + 1) = 0 := by simp [firstC, h, hk]
theorem firstC_stop {g : Nat → Int} {k n : Nat} (h : firstC g k = 0) (hk : g k ≠ 0) (hn : k < n) : firstC g n = g k := by
  induction n with
  | zero => omega
  | succ n ih =>
    by_cases e : k = n
    · subst e; simp [firstC, h]
    · have := ih (by omega)
      simp only [firstC]
      rw [if_neg (by rw [this]; exact hk), this]
theorem firstC_all {g : Nat → Int} {n : Nat} (h : firstC g n = 0) : ∀ i, i < n → g i = 0 := by
  induction n with
  | zero => intro i hi; omega
  | succ n ih =>
    simp only [firstC] at h
    by_cases e : firstC g n = 0
    · rw [if_pos e] at h
      intro i hi
      by_cases e2 : i = n
      · subst e2; exact h
      · exact ih e i (by omega)
    · rw [if_neg e] at h; exact absurd h e
theorem firstC_eq {g h : Nat → Int} {n : Nat} (e : ∀ i, i < n → g i = h i) : firstC g n = firstC h n := by
  induction n with
  | zero => rfl
  | succ n ih => simp only [firstC]; rw [ih (fun i hi => e i (by omega)), e n (by omega)]
/-- The first k numbers are told anew, the others stand. -/
def setTo (f : Nat → Int) (d : List Int) (k : Nat) : List Int := (List.range d.length).map fun i => if i < k then f i else d.getD i 0
theorem setTo_length (f : Nat → Int) (d : List Int) (k : Nat) : (setTo f d k).length = d.length := by simp [setTo]
theorem setTo_zero (f : Nat → Int) (d : List Int) : setTo f d 0 = d := by
  apply List.ext_getElem
  · simp [setTo]
  · intro i h1 h2
    simp [setTo, h2]
theorem setTo_all (f : Nat → Int) (d : List Int) {n : Nat} (h : d.length = n) : setTo f d n = (List.range n).map f := by
  subst h
  apply List.ext_getElem
  · simp [setTo]
  · intro i h1 h2
    have : i < d.length := by simpa using h2
    simp [setTo, this]
theorem setTo_set (f : Nat → Int) (d : List Int) {k : Nat} (h : k < d.length) : (setTo f d k).set k (f k) = setTo f d (k + 1) := by
  apply List.ext_getElem
  · simp [setTo]
  · intro i h1 h2
    have hi : i < d.length := by simpa [setTo] using h2
    rw [List.getElem_set]
    by_cases e : k = i
    · subst e; simp [setTo]
    · rw [if_neg e]
      simp only [setTo, List.getElem_map, List.getElem_range]
      by_cases e2 : i < k
      · rw [if_pos e2, if_pos (by omega)]
      · rw [if_neg e2, if_neg (by omega)]
/-- What EachOne answers: its code, its shape, its numbers. -/
def eachOneC (g : Int) (s d : List Int) : Int := if arrOk s d = true ∧ sign1 g = true then firstC (fun i => (oneV g (d.getD i 0)).2) d.length else 1
def eachOneS (g : Int) (s d : List Int) : List Int := if eachOneC g s d = 0 then s else []
def eachOneD (g : Int) (s d : List Int) : List Int := if eachOneC g s d = 0 then (List.range d.length).map (fun i => (oneV g (d.getD i 0)).1) else []
/-- What Fit answers. -/
def fitC (s d t e : List Int) : Int := if arrOk s d = true ∧ arrOk t e = true then (if s = [] ∨ t = [] then 0 else if s.length ≠ t.length then 4 else if s ≠ t then 3 else 0) else 1
def fitS (s d t e : List Int) : List Int := if fitC s d t e = 0 then (if s = [] then t else s) else []
/-- The number of an array at a place, or its only one. -/
def numOf (s d : List Int) (i : Nat) : Int := if s = [] then d.getD 0 0 else d.getD i 0
/-- How many numbers EachTwo tells, where Fit goes well. -/
def eachN (s d t e : List Int) : Nat := (sizeV (fitS s d t e)).toNat
def eachTwoC (g : Int) (s d t e : List Int) : Int := if arrOk s d = true ∧ arrOk t e = true ∧ sign2 g = true then (if fitC s d t e = 0 then firstC (fun i => (twoV g (numOf s d i) (numOf t e i)).2) (eachN s d t e) else fitC s d t e) else 1
def eachTwoS (g : Int) (s d t e : List Int) : List Int := if eachTwoC g s d t e = 0 then fitS s d t e else []
def eachTwoD (g : Int) (s d t e : List Int) : List Int := if eachTwoC g s d t e = 0 then (List.range (eachN s d t e)).map (fun i => (twoV g (numOf s d i) (numOf t e i)).1) else []
theorem fitS_bad {s d t e : List Int} (h : fitC s d t e ≠ 0) : fitS s d t e = [] := by unfold fitS; rw [if_neg h]
theorem fitC_ok {s d t e : List Int} (h : fitC s d t e = 0) : arrOk s d = true ∧ arrOk t e = true := by
  unfold fitC at h
  by_cases ho : arrOk s d = true ∧ arrOk t e = true
  · exact ho
  · rw [if_neg ho] at h; cases h
theorem fit_cases {s d t e : List Int} (h : fitC s d t e = 0) : (s = [] ∧ fitS s d t e = t) ∨ (s ≠ [] ∧ t = [] ∧ fitS s d t e = s) ∨ (s ≠ [] ∧ t ≠ [] ∧ s = t ∧ fitS s d t e = s) := by
  have hS : fitS s d t e = if s = [] then t else s := by unfold fitS; rw [if_pos h]
  have h' := h
  unfold fitC at h'
  rw [if_pos (fitC_ok h)] at h'
  by_cases e1 : s = []
  · exact .inl ⟨e1, by rw [hS, if_pos e1]⟩
  · by_cases e2 : t = []
    · exact .inr (.inl ⟨e1, e2, by rw [hS, if_neg e1]⟩)
    · rw [if_neg (by simp [e1, e2])] at h'
      by_cases e3 : s = t
      · exact .inr (.inr ⟨e1, e2, e3, by rw [hS, if_neg e1]⟩)
      · by_cases e4 : s.length ≠ t.length
        · rw [if_pos e4] at h'; cases h'
        · rw [if_neg e4, if_pos e3] at h'; cases h'
theorem fit_size {s d t e : List Int} (h : fitC s d t e = 0) : (eachN s d t e : Int) = sizeV (fitS s d t e) ∧ eachN s d t e ≤ 300 ∧ (∀ i, i < eachN s d t e → (s = [] → 0 < d.length) ∧ (s ≠ [] → i < d.length) ∧ (t = [] → 0 < e.length) ∧ (t ≠ [] → i < e.length)) := by
  obtain ⟨o1, o2⟩ := fitC_ok h
  have z1 := arrOk_size o1
  have z2 := arrOk_size o2
  have l1 := arrOk_len o1
  have l2 := arrOk_len o2
  have k1 : s = [] → d.length = 1 := by rintro rfl; rw [sizeV_0'] at z1; omega
  have k2 : t = [] → e.length = 1 := by rintro rfl; rw [sizeV_0'] at z2; omega
  unfold eachN
  rcases fit_cases h with ⟨a1, a2⟩ | ⟨a1, a2, a3⟩ | ⟨a1, a2, a3, a4⟩
  · rw [a2]
    refine ⟨by omega, by omega, fun i hi => ⟨fun _ => by have := k1 a1; omega, fun q => absurd a1 q, fun q => by have := k2 q; omega, fun _ => by omega⟩⟩
  · rw [a3]
    refine ⟨by omega, by omega, fun i hi => ⟨fun q => absurd q a1, fun _ => by omega, fun q => by have := k2 q; omega, fun q => absurd a2 q⟩⟩
  · rw [a4]
    subst a3
    refine ⟨by omega, by omega, fun i hi => ⟨fun q => absurd q a1, fun _ => by omega, fun q => absurd q a1, fun _ => by omega⟩⟩
theorem fitS_len (s d t e : List Int) : (fitS s d t e).length ≤ 3 := by
  by_cases h : fitC s d t e = 0
  · obtain ⟨o1, o2⟩ := fitC_ok h
    have k1 := (sizeV_ok (arrOk_shape o1)).1
    have k2 := (sizeV_ok (arrOk_shape o2)).1
    unfold fitS
    rw [if_pos h]
    split <;> assumption
  · rw [fitS_bad h]; simp
theorem eachTwoS_len (g : Int) (s d t e : List Int) : (eachTwoS g s d t e).length ≤ 3 := by
  unfold eachTwoS
  split
  · exact fitS_len s d t e
  · simp
theorem eachTwoD_len (g : Int) (s d t e : List Int) : (eachTwoD g s d t e).length ≤ 300 := by
  unfold eachTwoD
  split
  · rename_i h
    have hf : fitC s d t e = 0 := by
      unfold eachTwoC at h
      by_cases ho : arrOk s d = true ∧ arrOk t e = true ∧ sign2 g = true
      · rw [if_pos ho] at h
        by_cases h2 : fitC s d t e = 0
        · exact h2
        · rw [if_neg h2] at h; exact h
      · rw [if_neg ho] at h; cases h
    have := (fit_size hf).2.1
    simpa using this
  · simp
end Go.Proofs.Ytmmjidhpmbcoiaa
