/-
  Plain: how many of the first there are until one is false; no Go in sight.
-/
import Derived.Test.YtnebjnglcfebeaaDoorBase
namespace Go.Proofs.YtnebjnglcfebeaaDoor
/-- How many of the first b there are until one is false. -/
def lead (p : Nat → Bool) : Nat → Nat
  | 0 => 0
  | b + 1 => if lead p b = b ∧ p b = true then b + 1 else lead p b
theorem lead_le (p : Nat → Bool) : ∀ b, lead p b ≤ b
  | 0 => Nat.le_refl _
  | b + 1 => by have := lead_le p b; simp only [lead]; split <;> omega
theorem lead_eq {p : Nat → Bool} : ∀ {b m : Nat}, m ≤ b → (∀ j, j < m → p j = true) → (m = b ∨ p m = false) → lead p b = m
  | 0, m, h, _, _ => by simp [lead]; omega
  | b + 1, m, h, h1, h2 => by
    simp only [lead]
    by_cases e : m = b + 1
    · subst e
      rw [if_pos ⟨lead_eq (Nat.le_refl b) (fun j hj => h1 j (by omega)) (.inl rfl), h1 b (by omega)⟩]
    · have h2' : p m = false := h2.resolve_left e
      have hl := lead_eq (p := p) (b := b) (m := m) (by omega) h1 (.inr h2')
      rw [if_neg, hl]
      rintro ⟨h3, h4⟩
      rw [hl] at h3
      subst h3
      rw [h2'] at h4
      cases h4
end Go.Proofs.YtnebjnglcfebeaaDoor
