/-
  Plain: which instructions are right, how many arrays each takes, and how many there are on the stack; no Go in sight.
-/
import Derived.Test.YtkhcphkdcjimiaaGreatFunM
import Derived.Test.YtkhcphkdcjimiaaGreatSmall
namespace Go.Proofs.YtkhcphkdcjimiaaGreat
def numsB (l : List Int) : Bool := (decide (1 ≤ l.length) && decide (l.length ≤ 300)) && l.all ok
def noFun (a b c : Int) : Bool := decide (a = 0 ∧ b = 0 ∧ c = 0)
def insB (e : Nat → Int) (l : List Int) : Bool :=
  if e 0 = 1 then decide (e 1 = 0) && noFun (e 2) (e 3) (e 4) && numsB l
  else if e 0 = 2 ∨ e 0 = 3 then decide (0 ≤ e 1 ∧ e 1 ≤ 25) && noFun (e 2) (e 3) (e 4) && decide (l.length = 0)
  else if e 0 = 4 then decide (e 1 = 0) && funOneB (e 2) (e 3) (e 4) && decide (l.length = 0)
  else if e 0 = 5 then decide (e 1 = 0) && funTwoB (e 2) (e 3) (e 4) && decide (l.length = 0)
  else false
def takesN (o : Int) : Int := if o = 1 ∨ o = 2 then 0 else if o = 5 then 2 else 1
/-- How many there are ahead of the k-th. -/
def dep (E : Nat → Nat → Int) : Nat → Int
  | 0 => 0
  | k + 1 => dep E k + (1 - takesN (E k 0))
def mxDep (E : Nat → Nat → Int) : Nat → Int
  | 0 => 0
  | k + 1 => mx (mxDep E k) (dep E (k + 1))
def codeP (n : Nat) (E : Nat → Nat → Int) (N : Nat → List Int) : Prop := 1 ≤ n ∧ n ≤ 60 ∧ (∀ i, i < n → insB (E i) (N i) = true) ∧ (∀ i, i < n → takesN (E i 0) ≤ dep E i) ∧ dep E n = 1
def codeB (n : Nat) (E : Nat → Nat → Int) (N : Nat → List Int) : Bool := decide (1 ≤ n ∧ n ≤ 60) && ((List.range n).all (fun i => insB (E i) (N i) && decide (takesN (E i 0) ≤ dep E i)) && decide (dep E n = 1))
def deepV (n : Nat) (E : Nat → Nat → Int) (N : Nat → List Int) : Int := if codeB n E N = true then mxDep E n else 0
theorem codeB_iff {n : Nat} {E : Nat → Nat → Int} {N : Nat → List Int} : codeB n E N = true ↔ codeP n E N := by
  unfold codeB codeP
  simp only [Bool.and_eq_true, decide_eq_true_eq, List.all_eq_true, List.mem_range]
  constructor
  · rintro ⟨⟨h1, h2⟩, h3, h4⟩
    exact ⟨h1, h2, fun i hi => (h3 i hi).1, fun i hi => (h3 i hi).2, h4⟩
  · rintro ⟨h1, h2, h3, h4, h5⟩
    exact ⟨⟨h1, h2⟩, fun i hi => ⟨h3 i hi, h4 i hi⟩, h5⟩
theorem codeB_true {n : Nat} {E : Nat → Nat → Int} {N : Nat → List Int} (h : codeP n E N) : codeB n E N = true := codeB_iff.2 h
theorem codeB_false {n : Nat} {E : Nat → Nat → Int} {N : Nat → List Int} (h : ¬ codeP n E N) : codeB n E N = false := by
  cases e : codeB n E N
  · rfl
  · exact absurd (codeB_iff.1 e) h
theorem takesN_cases (o : Int) : takesN o = 0 ∨ takesN o = 1 ∨ takesN o = 2 := by unfold takesN; split; simp; split <;> simp
theorem dep_le (E : Nat → Nat → Int) (k : Nat) : dep E k ≤ k := by
  induction k with
  | zero => simp [dep]
  | succ k ih => have := takesN_cases (E k 0); simp only [dep]; omega
theorem dep_pos {E : Nat → Nat → Int} {n : Nat} (h : ∀ i, i < n → takesN (E i 0) ≤ dep E i) : 0 ≤ dep E n ∧ (0 < n → 1 ≤ dep E n) := by
  cases n with
  | zero => simp [dep]
  | succ k => have := takesN_cases (E k 0); have := h k (by omega); simp only [dep]; omega
theorem mx_ge (a b : Int) : a ≤ mx a b ∧ b ≤ mx a b ∧ (mx a b = a ∨ mx a b = b) := by unfold mx; split <;> omega
theorem mxDep_bd (E : Nat → Nat → Int) (k : Nat) : 0 ≤ mxDep E k ∧ mxDep E k ≤ k ∧ dep E k ≤ mxDep E k ∧ (0 < k → dep E k ≤ mxDep E k) := by
  induction k with
  | zero => simp [mxDep, dep]
  | succ k ih => have := mx_ge (mxDep E k) (dep E (k + 1)); have := dep_le E (k + 1); simp only [mxDep]; omega
theorem deep_pos {n : Nat} {E : Nat → Nat → Int} {N : Nat → List Int} : decide (0 < deepV n E N) = codeB n E N := by
  cases h : codeB n E N
  · simp [deepV, h]
  · have hp : codeP n E N := codeB_iff.1 h
    have := mxDep_bd E n
    have h5 := hp.2.2.2.2
    simp only [deepV, h, if_true]
    exact decide_eq_true (by omega)
end Go.Proofs.YtkhcphkdcjimiaaGreat
