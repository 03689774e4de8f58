/-
  Plain arithmetic of Chapter 2: places one behind the other have indexes one behind the other; no Go in sight.
-/
import Derived.Test.YtpjmnblkbejdlajShapeP
namespace Go.Proofs.Ytpjmnblkbejdlaj
theorem step_mod (p : Int) {y : Int} (hy : 0 < y) :
    (p % y = y - 1 ∧ (p + 1) % y = 0 ∧ (p + 1) / y = p / y + 1) ∨ (p % y ≠ y - 1 ∧ (p + 1) % y = p % y + 1 ∧ (p + 1) / y = p / y) := by
  have h := moddiv p (y := y)
  have b := mod_bd p hy
  by_cases e : p % y = y - 1
  · have q : (p / y + 1) * y + 0 = p + 1 := by rw [Int.add_mul, Int.one_mul]; omega
    have d := divmod (a := p / y + 1) (b := 0) (y := y) (by omega) hy
    rw [q] at d
    exact .inl ⟨e, d.2, d.1⟩
  · have q : p / y * y + (p % y + 1) = p + 1 := by omega
    have d := divmod (a := p / y) (b := p % y + 1) (y := y) (by omega) (by omega)
    rw [q] at d
    exact .inr ⟨e, d.2, d.1⟩
/-- How an index grows: the last number that can grow grows, all behind it are nought. -/
def Grows (l a b : List Int) : Prop :=
  (∃ x a0, l = [x] ∧ a = [a0] ∧ b = [a0 + 1] ∧ a0 ≠ x - 1 ∧ 0 ≤ x ∧ x ≤ 300 ∧ 0 ≤ a0 ∧ a0 ≤ 300) ∨
  (∃ x y a0 a1, l = [x, y] ∧ a = [a0, a1] ∧ b = [a0, a1 + 1] ∧ a1 ≠ y - 1 ∧ 0 ≤ x ∧ x ≤ 300 ∧ 0 ≤ y ∧ y ≤ 300 ∧ 0 ≤ a0 ∧ a0 ≤ 300 ∧ 0 ≤ a1 ∧ a1 ≤ 300) ∨
  (∃ x y a0, l = [x, y] ∧ a = [a0, y - 1] ∧ b = [a0 + 1, 0] ∧ a0 ≠ x - 1 ∧ 0 ≤ x ∧ x ≤ 300 ∧ 0 ≤ y ∧ y ≤ 300 ∧ 0 ≤ a0 ∧ a0 ≤ 300) ∨
  (∃ x y z a0 a1 a2, l = [x, y, z] ∧ a = [a0, a1, a2] ∧ b = [a0, a1, a2 + 1] ∧ a2 ≠ z - 1 ∧ 0 ≤ x ∧ x ≤ 300 ∧ 0 ≤ y ∧ y ≤ 300 ∧ 0 ≤ z ∧ z ≤ 300 ∧ 0 ≤ a2 ∧ a2 ≤ 300) ∨
  (∃ x y z a0 a1, l = [x, y, z] ∧ a = [a0, a1, z - 1] ∧ b = [a0, a1 + 1, 0] ∧ a1 ≠ y - 1 ∧ 0 ≤ x ∧ x ≤ 300 ∧ 0 ≤ y ∧ y ≤ 300 ∧ 0 ≤ z ∧ z ≤ 300 ∧ 0 ≤ a1 ∧ a1 ≤ 300) ∨
  ∃ x y z a0, l = [x, y, z] ∧ a = [a0, y - 1, z - 1] ∧ b = [a0 + 1, 0, 0] ∧ a0 ≠ x - 1 ∧ 0 ≤ x ∧ x ≤ 300 ∧ 0 ≤ y ∧ y ≤ 300 ∧ 0 ≤ z ∧ z ≤ 300 ∧ 0 ≤ a0 ∧ a0 ≤ 300
theorem grows {l : List Int} {p : Int} (h0 : 0 ≤ p) (h1 : p + 1 ≤ sizeV l - 1) : Grows l (indexV l p) (indexV l (p + 1)) := by
  have hs : 0 ≤ sizeV l := by omega
  rw [indexV_in hs h0 (by omega), indexV_in hs (by omega) h1]
  rcases idx_ok hs (show 0 ≤ p + 1 by omega) h1 with ⟨_, e⟩ | ⟨x, rfl, x0, x1, hp⟩ | ⟨x, y, rfl, x0, x1, y0, y1, hp⟩ | ⟨x, y, z, rfl, x0, x1, y0, y1, z0, z1, hp⟩
  · omega
  · refine .inl ⟨x, p, rfl, ?_, ?_, by omega, by omega, by omega, by omega, by omega⟩
    · simp only [idx]; rw [Int.emod_eq_of_lt h0 (by omega)]
    · simp only [idx]; rw [Int.emod_eq_of_lt (by omega) hp]
  · have q1 := Int.ediv_nonneg h0 (Int.le_of_lt y0)
    have q2 := div_lt y0 hp
    have q3 := div_lt y0 (show p < x * y by omega)
    have q4 := Int.ediv_nonneg (show 0 ≤ p + 1 by omega) (Int.le_of_lt y0)
    have m := mod_bd p y0
    have e1 : p / y % x = p / y := Int.emod_eq_of_lt q1 q3
    have e2 : (p + 1) / y % x = (p + 1) / y := Int.emod_eq_of_lt q4 q2
    rcases step_mod p y0 with ⟨s1, s2, s3⟩ | ⟨s1, s2, s3⟩
    · refine .inr (.inr (.inl ⟨x, y, p / y, rfl, ?_, ?_, by omega, by omega, by omega, by omega, by omega, by omega, by omega⟩))
      · simp only [idx]; rw [e1, s1]
      · simp only [idx]; rw [e2, s2, s3]
    · refine .inr (.inl ⟨x, y, p / y, p % y, rfl, ?_, ?_, s1, by omega, by omega, by omega, by omega, by omega, by omega, by omega, by omega⟩)
      · simp only [idx]; rw [e1]
      · simp only [idx]; rw [e2, s2, s3]
  · have r1 := Int.ediv_nonneg h0 (Int.le_of_lt z0)
    have r2 := Int.ediv_nonneg r1 (Int.le_of_lt y0)
    have r3 := Int.ediv_nonneg (show 0 ≤ p + 1 by omega) (Int.le_of_lt z0)
    have r4 := Int.ediv_nonneg r3 (Int.le_of_lt y0)
    have t1 := div_lt y0 (div_lt z0 (show p < x * y * z by omega))
    have t2 := div_lt y0 (div_lt z0 hp)
    have m := mod_bd p z0
    have m' := mod_bd (p / z) y0
    have e1 : p / z / y % x = p / z / y := Int.emod_eq_of_lt r2 t1
    have e2 : (p + 1) / z / y % x = (p + 1) / z / y := Int.emod_eq_of_lt r4 t2
    rcases step_mod p z0 with ⟨s1, s2, s3⟩ | ⟨s1, s2, s3⟩
    · rcases step_mod (p / z) y0 with ⟨u1, u2, u3⟩ | ⟨u1, u2, u3⟩
      · refine .inr (.inr (.inr (.inr (.inr ⟨x, y, z, p / z / y, rfl, ?_, ?_, ?_, by omega, by omega, by omega, by omega, by omega, by omega, by omega, by omega⟩))))
        · simp only [idx]; rw [e1, u1, s1]
        · simp only [idx]; rw [e2, s2, s3, u2, u3]
        · rw [s3, u3] at t2; omega
      · refine .inr (.inr (.inr (.inr (.inl ⟨x, y, z, p / z / y, p / z % y, rfl, ?_, ?_, u1, by omega, by omega, by omega, by omega, by omega, by omega, by omega, by omega⟩))))
        · simp only [idx]; rw [e1, s1]
        · simp only [idx]; rw [e2, s2, s3, u2, u3]
    · refine .inr (.inr (.inr (.inl ⟨x, y, z, p / z / y, p / z % y, p % z, rfl, ?_, ?_, s1, by omega, by omega, by omega, by omega, by omega, by omega, by omega, by omega⟩)))
      · simp only [idx]; rw [e1]
      · simp only [idx]; rw [e2, s2, s3]
end Go.Proofs.Ytpjmnblkbejdlaj
