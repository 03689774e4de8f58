/-
  Plain: plain steps, where the longest run ends that begins at a place, and the spans of code; no Go in sight.
-/
import Derived.Test.YtpommfkbkknjaaaCodeM
namespace Go.Proofs.Ytpommfkbkknjaaa
/-- A plain step. -/
def plainB (e : Nat → Int) : Bool :=
  if e 0 = 1 ∨ e 0 = 2 then true
  else if e 0 = 4 then decide (e 3 = 0) && sign1 (e 2)
  else if e 0 = 5 then decide (e 3 = 0) && sign2 (e 2)
  else false
/-- How many of the first b there are until one is false. -/
def lead (p : Nat → Bool) : Nat → Nat
  | 0 => 0
  | b + 1 => if lead p b = b ∧ p b = true then b + 1 else lead p b
theorem lead_le (p : Nat → Bool) : ∀ b, lead p b ≤ b
  | 0 => Nat.le_refl _
  | b + 1 => by have := lead_le p b; simp only [lead]; split <;> omega
theorem lead_eq {p : Nat → Bool} : ∀ {b m : Nat}, m ≤ b → (∀ j, j < m → p j = true) → (m = b ∨ p m = false) → lead p b = m
  | 0, m, h, _, _ => by simp [lead]; omega
  | b + 1, m, h, h1, h2 => by
    simp only [lead]
    by_cases e : m = b + 1
    · subst e
      rw [if_pos ⟨lead_eq (Nat.le_refl b) (fun j hj => h1 j (by omega)) (.inl rfl), h1 b (by omega)⟩]
    · have h2' : p m = false := h2.resolve_left e
      have hl := lead_eq (p := p) (b := b) (m := m) (by omega) h1 (.inr h2')
      rw [if_neg, hl]
      rintro ⟨h3, h4⟩
      rw [hl] at h3
      subst h3
      rw [h2'] at h4
      cases h4
/-- How many there are behind m steps from f on, of those that these put. -/
def dq (E : Nat → Nat → Int) (f m : Nat) : Int := dep E (f + m) - dep E f
theorem dq_zero (E : Nat → Nat → Int) (f : Nat) : dq E f 0 = 0 := by simp [dq]
theorem dq_succ (E : Nat → Nat → Int) (f m : Nat) : dq E f (m + 1) = dq E f m + (1 - takesN (E (f + m) 0)) := by
  have : dep E (f + (m + 1)) = dep E (f + m) + (1 - takesN (E (f + m) 0)) := rfl
  simp only [dq, this]; omega
theorem dq_le (E : Nat → Nat → Int) (f m : Nat) : dq E f m ≤ m := by
  induction m with
  | zero => rw [dq_zero]; exact Int.le_refl _
  | succ m ih => have := takesN_cases (E (f + m) 0); rw [dq_succ]; omega
/-- Whether the run from f on goes on with the m-th step. -/
def okB (E : Nat → Nat → Int) (f m : Nat) : Bool := plainB (E (f + m)) && decide (takesN (E (f + m) 0) ≤ dq E f m)
theorem dq_nonneg {E : Nat → Nat → Int} {f m : Nat} (h : ∀ j, j < m → okB E f j = true) : 0 ≤ dq E f m := by
  cases m with
  | zero => rw [dq_zero]; exact Int.le_refl _
  | succ m =>
    have q := h m (by omega)
    simp only [okB, Bool.and_eq_true, decide_eq_true_eq] at q
    have := takesN_cases (E (f + m) 0)
    rw [dq_succ]; omega
/-- Whether one of the first m takes any. -/
def wk (E : Nat → Nat → Int) (f : Nat) : Nat → Bool
  | 0 => false
  | m + 1 => wk E f m || decide (0 < takesN (E (f + m) 0))
/-- Where the longest run ends within the first m steps; 0: there is none. -/
def endTo (E : Nat → Nat → Int) (f : Nat) : Nat → Nat
  | 0 => 0
  | m + 1 => if dq E f (m + 1) = 1 ∧ wk E f (m + 1) = true then f + m + 1 else endTo E f m
theorem endTo_bd (E : Nat → Nat → Int) (f : Nat) : ∀ m, endTo E f m = 0 ∨ f < endTo E f m ∧ endTo E f m ≤ f + m
  | 0 => .inl rfl
  | m + 1 => by have := endTo_bd E f m; simp only [endTo]; split <;> omega
def endF (n : Nat) (E : Nat → Nat → Int) (f : Nat) : Nat := endTo E f (lead (okB E f) (n - f))
theorem endF_eq {n : Nat} {E : Nat → Nat → Int} {f m : Nat} (h : f + m ≤ n) (h1 : ∀ j, j < m → okB E f j = true) (h2 : f + m = n ∨ okB E f m = false) : endF n E f = endTo E f m := by
  unfold endF
  rw [lead_eq (m := m) (by omega) h1 (h2.imp (fun h => by omega) id)]
theorem endF_bd {n : Nat} (E : Nat → Nat → Int) {f : Nat} (hf : f ≤ n) : endF n E f = 0 ∨ f < endF n E f ∧ endF n E f ≤ n := by
  have := endTo_bd E f (lead (okB E f) (n - f))
  have := lead_le (okB E f) (n - f)
  unfold endF
  omega
/-- The spans from a place on. -/
def spF (n : Nat) (E : Nat → Nat → Int) : Nat → Nat → List (Nat × Nat)
  | 0, _ => []
  | k + 1, at' => if at' < n then (if endF n E at' = 0 then spF n E k (at' + 1) else (at', endF n E at') :: spF n E k (endF n E at')) else []
theorem spF_end {n : Nat} {E : Nat → Nat → Int} {k p : Nat} (h : n ≤ p) : spF n E k p = [] := by
  cases k with
  | zero => rfl
  | succ k => simp only [spF]; rw [if_neg (by omega)]
theorem spF_none {n : Nat} {E : Nat → Nat → Int} {k p : Nat} (h : p < n) (h0 : endF n E p = 0) : spF n E (k + 1) p = spF n E k (p + 1) := by
  simp only [spF]; rw [if_pos h, if_pos h0]
theorem spF_some {n : Nat} {E : Nat → Nat → Int} {k p : Nat} (h : p < n) (h0 : endF n E p ≠ 0) : spF n E (k + 1) p = (p, endF n E p) :: spF n E k (endF n E p) := by
  simp only [spF]; rw [if_pos h, if_neg h0]
theorem spF_len {n : Nat} {E : Nat → Nat → Int} : ∀ (k p : Nat), (spF n E k p).length ≤ k
  | 0, p => Nat.le_refl _
  | k + 1, p => by
    have h1 := spF_len (n := n) (E := E) k (p + 1)
    have h2 := spF_len (n := n) (E := E) k (endF n E p)
    simp only [spF]
    split
    · split
      · omega
      · simp; omega
    · simp
/-- The spans of code. -/
def spansL (n : Nat) (E : Nat → Nat → Int) (N : Nat → List Int) : List (Nat × Nat) := if codeB n E N = true then spF n E n 0 else []
end Go.Proofs.Ytpommfkbkknjaaa
