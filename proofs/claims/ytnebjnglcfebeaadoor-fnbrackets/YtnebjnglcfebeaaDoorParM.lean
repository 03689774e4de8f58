/-
  Plain: lines read out of tokens, as branches, and their nodes in the order in which they are done; no Go in sight.
-/
import Derived.Test.YtnebjnglcfebeaaDoorTokW
import Derived.Test.YtnebjnglcfebeaaDoorFunM
namespace Go.Proofs.YtnebjnglcfebeaaDoor
/-- A node with what it takes. -/
inductive Br where
  | num (l : List Int)
  | name (a : Int)
  | set (a : Int) (r : Br)
  | one (s o h : Int) (r : Br)
  | two (s o h : Int) (l r : Br)
def Br.size : Br → Nat
  | .num _ => 1
  | .name _ => 1
  | .set _ r => r.size + 1
  | .one _ _ _ r => r.size + 1
  | .two _ _ _ l r => r.size + l.size + 1
/-- A node in its list. -/
structure Nd where
  k : Int
  a : Int
  b : Int
  s : Int
  o : Int
  h : Int
  l : List Int
def Br.flat : Br → Nat → List Nd
  | .num l, _ => [⟨1, 0, 0, 0, 0, 0, l⟩]
  | .name a, _ => [⟨2, a, 0, 0, 0, 0, []⟩]
  | .set a r, m => r.flat m ++ [⟨3, a, (m : Int) + r.size - 1, 0, 0, 0, []⟩]
  | .one s o h r, m => r.flat m ++ [⟨4, 0, (m : Int) + r.size - 1, s, o, h, []⟩]
  | .two s o h l r, m => r.flat m ++ l.flat (m + r.size) ++ [⟨5, (m : Int) + r.size + l.size - 1, (m : Int) + r.size - 1, s, o, h, []⟩]
theorem Br.flat_len : ∀ (b : Br) (m : Nat), (b.flat m).length = b.size
  | .num _, _ => rfl
  | .name _, _ => rfl
  | .set _ r, m => by simp [Br.flat, Br.size, Br.flat_len r]
  | .one _ _ _ r, m => by simp [Br.flat, Br.size, Br.flat_len r]
  | .two _ _ _ l r, m => by simp [Br.flat, Br.size, Br.flat_len r, Br.flat_len l]; omega
/-- A node whose list stands behind by others. -/
def Nd.behind (d : Nd) (m : Nat) : Nd := if d.k = 5 then { d with a := d.a + m, b := d.b + m } else if d.k = 4 ∨ d.k = 3 then { d with b := d.b + m } else d
theorem Br.flat_behind : ∀ (b : Br) (j m : Nat), (b.flat j).map (fun d => d.behind m) = b.flat (m + j)
  | .num _, _, _ => rfl
  | .name _, _, _ => rfl
  | .set a r, j, m => by
    simp only [Br.flat, List.map_append, Br.flat_behind r, List.map_cons, List.map_nil]
    congr 2
    simp [Nd.behind]
    omega
  | .one s o h r, j, m => by
    simp only [Br.flat, List.map_append, Br.flat_behind r, List.map_cons, List.map_nil]
    congr 2
    simp [Nd.behind]
    omega
  | .two s o h l r, j, m => by
    simp only [Br.flat, List.map_append, Br.flat_behind r, Br.flat_behind l, List.map_cons, List.map_nil, Nat.add_assoc]
    congr 2
    simp [Nd.behind]
    omega
section
variable (n : Nat) (T : Nat → Spn)
/-- The kind and the value of the token at p; zero behind the last one. -/
def tkK (p : Nat) : Int := if p < n then (T p).f else 0
def tkN (p : Nat) : Int := if p < n then (T p).t else 0
/-- The function at p, and where it ends. -/
def funP (p : Nat) : (Int × Int × Int) × Nat :=
  if tkK n T (p + 1) ≠ 3 then ((tkN n T p, 0, 0), p + 1)
  else if tkN n T p = 111 then ((tkN n T (p + 1), 111, 0), p + 2)
  else if tkN n T (p + 1) = 47 ∨ tkN n T (p + 1) = 92 then ((tkN n T p, tkN n T (p + 1), 0), p + 2)
  else if tkN n T (p + 1) = 46 ∧ tkK n T (p + 2) = 3 then ((tkN n T p, 46, tkN n T (p + 2)), p + 3)
  else ((tkN n T p, 0, 0), p + 1)
/-- How many numbers stand at p. -/
def runN : Nat → Nat → Nat
  | 0, _ => 0
  | f + 1, p => if tkK n T p = 1 then runN f (p + 1) + 1 else 0
def numsP (p k : Nat) : List Int := (List.range k).map (fun j => tkN n T (p + j))
/-- What stands on the left. -/
def operP (line : Nat → Option (Br × Nat)) (p : Nat) : Option (Br × Nat) :=
  if tkK n T p = 1 then some (.num (numsP n T p (runN n T (n - p) p)), p + runN n T (n - p) p)
  else if tkK n T p = 2 then some (.name (tkN n T p), p + 1)
  else if tkK n T p = 4 then match line (p + 1) with
    | none => none
    | some x => if tkK n T x.2 = 5 then some (x.1, x.2 + 1) else none
  else none
/-- A line; the number bounds how deep one goes. -/
def lineP : Nat → Nat → Option (Br × Nat)
  | 0, _ => none
  | k + 1, p =>
    if tkK n T p = 2 ∧ tkK n T (p + 1) = 6 then match lineP k (p + 2) with
      | none => none
      | some x => some (.set (tkN n T p) x.1, x.2)
    else if tkK n T p = 3 then (if funOneB (funP n T p).1.1 (funP n T p).1.2.1 (funP n T p).1.2.2 = true then match lineP k (funP n T p).2 with
      | none => none
      | some x => some (.one (funP n T p).1.1 (funP n T p).1.2.1 (funP n T p).1.2.2 x.1, x.2)
      else none)
    else match operP n T (fun q => lineP k q) p with
      | none => none
      | some x => if tkK n T x.2 = 3 then (if funTwoB (funP n T x.2).1.1 (funP n T x.2).1.2.1 (funP n T x.2).1.2.2 = true then match lineP k (funP n T x.2).2 with
          | none => none
          | some y => some (.two (funP n T x.2).1.1 (funP n T x.2).1.2.1 (funP n T x.2).1.2.2 x.1 y.1, y.2)
          else none)
        else some x
/-- What Parse comes to. -/
def parC : Int × List Nd :=
  if tokR n T = true then (match lineP n T (n + 1) 0 with
    | none => (8, [])
    | some x => if x.2 = n then (if x.1.size ≤ 60 then (0, x.1.flat 0) else (6, [])) else (8, []))
  else (1, [])
end
variable {n : Nat} {T : Nat → Spn}
theorem tkK_in {p : Nat} (h : tkK n T p ≠ 0) : p < n := by
  unfold tkK at h
  by_cases e : p < n
  · exact e
  · rw [if_neg e] at h; exact absurd rfl h
theorem tkK_at {p : Nat} (h : p < n) : tkK n T p = (T p).f := by unfold tkK; rw [if_pos h]
theorem tkN_at {p : Nat} (h : p < n) : tkN n T p = (T p).t := by unfold tkN; rw [if_pos h]
theorem tkK_out {p : Nat} (h : n ≤ p) : tkK n T p = 0 := by unfold tkK; rw [if_neg (by omega)]
theorem tkN_out {p : Nat} (h : n ≤ p) : tkN n T p = 0 := by unfold tkN; rw [if_neg (by omega)]
theorem funP_in {p : Nat} (h : tkK n T p = 3) : p < (funP n T p).2 ∧ (funP n T p).2 ≤ n := by
  have h0 := tkK_in (n := n) (T := T) (p := p) (by omega)
  unfold funP
  split
  · simp; omega
  · rename_i h1
    have h1' := tkK_in (n := n) (T := T) (p := p + 1) (by omega)
    split
    · simp; omega
    · split
      · simp; omega
      · split
        · rename_i h2
          have h2' := tkK_in (n := n) (T := T) (p := p + 2) (by omega)
          simp; omega
        · simp; omega
theorem runN_facts : ∀ (f p : Nat), n ≤ p + f → (∀ j, j < runN n T f p → tkK n T (p + j) = 1) ∧ tkK n T (p + runN n T f p) ≠ 1
  | 0, p, h => by
    refine ⟨fun j hj => by simp [runN] at hj, ?_⟩
    simp only [runN, Nat.add_zero]
    rw [tkK_out (by omega)]
    decide
  | f + 1, p, h => by
    unfold runN
    by_cases e : tkK n T p = 1
    · rw [if_pos e]
      obtain ⟨h1, h2⟩ := runN_facts f (p + 1) (by omega)
      refine ⟨fun j hj => ?_, by rw [show p + (runN n T f (p + 1) + 1) = p + 1 + runN n T f (p + 1) by omega]; exact h2⟩
      by_cases ej : j = 0
      · subst ej; exact e
      · have := h1 (j - 1) (by omega)
        rw [show p + 1 + (j - 1) = p + j by omega] at this
        exact this
    · rw [if_neg e]
      exact ⟨fun j hj => by omega, e⟩
theorem runN_is {p k : Nat} (h1 : ∀ j, j < k → tkK n T (p + j) = 1) (h2 : tkK n T (p + k) ≠ 1) : runN n T (n - p) p = k := by
  obtain ⟨q1, q2⟩ := runN_facts (n := n) (T := T) (n - p) p (by omega)
  rcases Nat.lt_trichotomy (runN n T (n - p) p) k with h | h | h
  · exact absurd (h1 _ h) q2
  · exact h
  · exact absurd (q1 _ h) h2
theorem runN_le (p : Nat) (h : p ≤ n) : p + runN n T (n - p) p ≤ n := by
  obtain ⟨q1, q2⟩ := runN_facts (n := n) (T := T) (n - p) p (by omega)
  by_cases e : runN n T (n - p) p = 0
  · omega
  · have := tkK_in (n := n) (T := T) (p := p + (runN n T (n - p) p - 1)) (by rw [q1 _ (by omega)]; decide)
    omega
/-- Where what is read ends, and how many nodes it has. -/
def Fine (n p : Nat) (x : Option (Br × Nat)) : Prop := ∀ y, x = some y → p < y.2 ∧ y.2 ≤ n ∧ y.1.size + p ≤ y.2
theorem operP_fine {line : Nat → Option (Br × Nat)} {p : Nat} (h : Fine n (p + 1) (line (p + 1))) : Fine n p (operP n T line p) := by
  intro y hy
  unfold operP at hy
  split at hy
  · rename_i e
    have h0 := tkK_in (n := n) (T := T) (p := p) (by omega)
    have hr := runN_le (n := n) (T := T) p (by omega)
    obtain ⟨q1, q2⟩ := runN_facts (n := n) (T := T) (n - p) p (by omega)
    have : runN n T (n - p) p ≠ 0 := fun e2 => q2 (by rw [e2]; exact e)
    cases hy
    simp only [Br.size]
    omega
  · split at hy
    · rename_i e
      have h0 := tkK_in (n := n) (T := T) (p := p) (by omega)
      cases hy
      simp only [Br.size]
      omega
    · split at hy
      · cases hl : line (p + 1) with
        | none => rw [hl] at hy; cases hy
        | some x =>
          rw [hl] at hy
          simp only at hy
          obtain ⟨k1, k2, k3⟩ := h x hl
          split at hy
          · rename_i e
            have h0 := tkK_in (n := n) (T := T) (p := x.2) (by omega)
            cases hy
            simp only
            omega
          · cases hy
      · cases hy
theorem lineP_fine : ∀ (k p : Nat), Fine n p (lineP n T k p)
  | 0, p => fun y hy => by cases hy
  | k + 1, p => by
    intro y hy
    unfold lineP at hy
    split at hy
    · rename_i e
      cases hl : lineP n T k (p + 2) with
      | none => rw [hl] at hy; cases hy
      | some x =>
        rw [hl] at hy
        obtain ⟨k1, k2, k3⟩ := lineP_fine k (p + 2) x hl
        cases hy
        simp only [Br.size]
        omega
    · split at hy
      · rename_i e
        have hf := funP_in (n := n) (T := T) e
        split at hy
        · cases hl : lineP n T k (funP n T p).2 with
          | none => rw [hl] at hy; cases hy
          | some x =>
            rw [hl] at hy
            obtain ⟨k1, k2, k3⟩ := lineP_fine k _ x hl
            cases hy
            simp only [Br.size]
            omega
        · cases hy
      · have hop := operP_fine (n := n) (T := T) (line := fun q => lineP n T k q) (p := p) (lineP_fine k (p + 1))
        cases ho : operP n T (fun q => lineP n T k q) p with
        | none => rw [ho] at hy; cases hy
        | some x =>
          rw [ho] at hy
          simp only at hy
          obtain ⟨m1, m2, m3⟩ := hop x ho
          split at hy
          · rename_i e
            have hf := funP_in (n := n) (T := T) e
            split at hy
            · cases hl : lineP n T k (funP n T x.2).2 with
              | none => rw [hl] at hy; cases hy
              | some z =>
                rw [hl] at hy
                obtain ⟨k1, k2, k3⟩ := lineP_fine k _ z hl
                cases hy
                simp only [Br.size]
                omega
            · cases hy
          · cases hy
            exact ⟨m1, m2, m3⟩
/-- The sign at p; zero: there is none. -/
def sgP (n : Nat) (T : Nat → Spn) (p : Nat) : Int := if tkK n T p = 3 then tkN n T p else 0
def sgF (A B D : Int) : (Int × Int × Int) × Nat := if A = 111 ∧ B ≠ 0 then ((B, 111, 0), 2) else if B = 47 ∨ B = 92 then ((A, B, 0), 2) else if B = 46 ∧ D ≠ 0 then ((A, 46, D), 3) else ((A, 0, 0), 1)
theorem signB_zero : signB 0 = false := by decide
theorem sgP_ne {p : Nat} (ha : tokAll T n = true) (h : tkK n T p = 3) : tkN n T p ≠ 0 := by
  have hp := tkK_in (n := n) (T := T) (p := p) (by omega)
  have := tokAll_at ha hp
  rw [tkK_at hp] at h
  rw [tkN_at hp]
  intro e
  rw [h, e] at this
  revert this
  decide
theorem funP_sg {p : Nat} (ha : tokAll T n = true) (h : tkK n T p = 3) : funP n T p = ((sgF (sgP n T p) (sgP n T (p + 1)) (sgP n T (p + 2))).1, p + (sgF (sgP n T p) (sgP n T (p + 1)) (sgP n T (p + 2))).2) := by
  have e0 : sgP n T p = tkN n T p := if_pos h
  rw [e0]
  unfold funP sgF
  by_cases h1 : tkK n T (p + 1) = 3
  · have e1 : sgP n T (p + 1) = tkN n T (p + 1) := if_pos h1
    have n1 := sgP_ne ha h1
    rw [if_neg (by omega), e1]
    by_cases h2 : tkN n T p = 111
    · rw [if_pos h2, if_pos ⟨h2, n1⟩]
    · rw [if_neg h2, if_neg (show ¬ (tkN n T p = 111 ∧ tkN n T (p + 1) ≠ 0) from fun q => h2 q.1)]
      by_cases h3 : tkN n T (p + 1) = 47 ∨ tkN n T (p + 1) = 92
      · rw [if_pos h3, if_pos h3]
      · rw [if_neg h3, if_neg h3]
        by_cases h4 : tkN n T (p + 1) = 46
        · by_cases h5 : tkK n T (p + 2) = 3
          · have e2 : sgP n T (p + 2) = tkN n T (p + 2) := if_pos h5
            rw [e2, if_pos ⟨h4, h5⟩, if_pos ⟨h4, sgP_ne ha h5⟩]
          · have e2 : sgP n T (p + 2) = 0 := if_neg h5
            rw [e2, if_neg (show ¬ (tkN n T (p + 1) = 46 ∧ tkK n T (p + 2) = 3) from fun q => h5 q.2), if_neg (show ¬ (tkN n T (p + 1) = 46 ∧ (0 : Int) ≠ 0) from fun q => q.2 rfl)]
        · rw [if_neg (show ¬ (tkN n T (p + 1) = 46 ∧ tkK n T (p + 2) = 3) from fun q => h4 q.1), if_neg (show ¬ (tkN n T (p + 1) = 46 ∧ sgP n T (p + 2) ≠ 0) from fun q => h4 q.1)]
  · have e1 : sgP n T (p + 1) = 0 := if_neg h1
    rw [if_pos h1, e1, if_neg (show ¬ (tkN n T p = 111 ∧ (0 : Int) ≠ 0) from fun q => q.2 rfl), if_neg (show ¬ ((0 : Int) = 47 ∨ (0 : Int) = 92) by omega), if_neg (show ¬ ((0 : Int) = 46 ∧ sgP n T (p + 2) ≠ 0) by omega)]
end Go.Proofs.YtnebjnglcfebeaaDoor
