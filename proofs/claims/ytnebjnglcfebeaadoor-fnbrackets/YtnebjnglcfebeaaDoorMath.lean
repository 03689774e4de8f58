/-
  Plain arithmetic of Chapter 1 (numbers up to a trillion, what a sign does to one or two of them); no Go in sight.
-/
namespace Go.Proofs.YtnebjnglcfebeaaDoor

/-- A right number. -/
def ok (x : Int) : Bool := decide (-1000000000000 ≤ x) && decide (x ≤ 1000000000000)
theorem ok_bd {x : Int} (h : ok x = true) : -1000000000000 ≤ x ∧ x ≤ 1000000000000 := by simpa [ok] using h
theorem ok_mk {x : Int} (h1 : -1000000000000 ≤ x) (h2 : x ≤ 1000000000000) : ok x = true := by simp [ok, h1, h2]
theorem ok_no {x : Int} (h : x < -1000000000000 ∨ 1000000000000 < x) : ok x = false := by
  rcases h with h | h <;> simp [ok] <;> omega

/-- -1, 0 or 1. -/
def sgn (x : Int) : Int := if x < 0 then -1 else if 0 < x then 1 else 0
/-- Without its sign. -/
def mag (x : Int) : Int := if x < 0 then -x else x
theorem mag_abs (x : Int) : mag x = (x.natAbs : Int) := by unfold mag; split <;> omega
theorem mag_bd {x : Int} (h1 : -1000000000000 ≤ x) (h2 : x ≤ 1000000000000) : 0 ≤ mag x ∧ mag x ≤ 1000000000000 := by unfold mag; split <;> omega
/-- The greater, the lesser one. -/
def mx (a b : Int) : Int := if b < a then a else b
def mn (a b : Int) : Int := if a < b then a else b
/-- 1 where it is so. -/
def bit (b : Bool) : Int := if b = true then 1 else 0
theorem bit_bd (b : Bool) : 0 ≤ bit b ∧ bit b ≤ 1 := by unfold bit; split <;> omega
/-- What '~' tells, and its code. -/
def invC (x : Int) : Int := if x = 0 ∨ x = 1 then 0 else 2
def invV (x : Int) : Int := if x = 0 ∨ x = 1 then 1 - x else 0
/-- What One answers. -/
def oneV (s x : Int) : Int × Int :=
  if ok x = false then (0, 1) else if s = 43 then (x, 0) else if s = 45 then (-x, 0) else if s = 42 then (sgn x, 0)
  else if s = 124 then (mag x, 0) else if s = 126 then (invV x, invC x) else (0, 1)

/-- How many binary digits a number has. -/
def bits (m : Nat) : Nat := if m = 0 then 0 else m.log2 + 1
theorem bits_zero : bits 0 = 0 := rfl
theorem bits_pos {m : Nat} (h : 0 < m) : bits m = bits (m / 2) + 1 := by
  unfold bits
  rw [if_neg (by omega), Nat.log2_def]
  by_cases h2 : 2 ≤ m
  · rw [if_pos h2, if_neg (by omega)]
  · rw [if_neg (by omega), if_pos (by omega)]
theorem bits_lt (m : Nat) : m < 2 ^ bits m := by
  induction m using Nat.strongRecOn with
  | ind m ih =>
    by_cases h : m = 0
    · subst h; rw [bits_zero]; decide
    · have := ih (m / 2) (by omega)
      rw [bits_pos (by omega), Nat.pow_succ]; omega
theorem bits_le (m : Nat) (h : 0 < m) : 2 ^ bits m ≤ 2 * m := by
  induction m using Nat.strongRecOn with
  | ind m ih =>
    by_cases h1 : m = 1
    · subst h1; rw [bits_pos (by omega)]; simp [bits_zero]
    · have := ih (m / 2) (by omega) (by omega)
      rw [bits_pos (by omega), Nat.pow_succ]; omega
theorem bits_top : bits 1000000000000 = 40 := by
  have h1 := bits_lt 1000000000000
  have h2 := bits_le 1000000000000 (by decide)
  have a : ¬ bits 1000000000000 ≤ 39 := fun h => by
    have := Nat.pow_le_pow_right (n := 2) (by decide) h
    omega
  have b : ¬ 41 ≤ bits 1000000000000 := fun h => by
    have := Nat.pow_le_pow_right (n := 2) (by decide) h
    omega
  omega
theorem bits_small {m : Nat} (h : m ≤ 1000000000000) : bits m ≤ 40 := by
  by_cases h0 : m = 0
  · subst h0; rw [bits_zero]; decide
  · have h2 := bits_le m (by omega)
    have b : ¬ 41 ≤ bits m := fun h => by
      have := Nat.pow_le_pow_right (n := 2) (by decide) h
      omega
    omega

theorem abs_mul (a b : Int) : (a * b).natAbs = a.natAbs * b.natAbs := Int.natAbs_mul a b
theorem ok_iff (x : Int) : ok x = decide (x.natAbs ≤ 1000000000000) := by
  rw [Bool.eq_iff_iff]; simp [ok]; omega
theorem prod_big {a b : Int} (ha : a.natAbs ≤ 1000000000000) (hb : b.natAbs ≤ 1000000000000) (h : 41 < bits a.natAbs + bits b.natAbs) : ok (a * b) = false := by
  have a0 : a.natAbs ≠ 0 := fun e => by have := bits_small hb; rw [e, bits_zero] at h; omega
  have b0 : b.natAbs ≠ 0 := fun e => by have := bits_small ha; rw [e, bits_zero] at h; omega
  have l1 := bits_le a.natAbs (by omega)
  have l2 := bits_le b.natAbs (by omega)
  have l3 := Nat.mul_le_mul l1 l2
  rw [← Nat.pow_add] at l3
  have l4 := Nat.pow_le_pow_right (n := 2) (by decide) (show 42 ≤ bits a.natAbs + bits b.natAbs from h)
  have l5 : 2 * a.natAbs * (2 * b.natAbs) = 4 * (a.natAbs * b.natAbs) := by
    rw [Nat.mul_assoc, Nat.mul_left_comm a.natAbs 2, ← Nat.mul_assoc]
  rw [l5] at l3
  rw [ok_iff, abs_mul]
  have : (2 : Nat) ^ 42 = 4398046511104 := by decide
  simp only [decide_eq_false_iff_not]; omega
theorem prod_small {a b : Int} (h : bits a.natAbs + bits b.natAbs ≤ 41) : -2199023255552 ≤ a * b ∧ a * b ≤ 2199023255552 := by
  have l1 := bits_lt a.natAbs
  have l2 := bits_lt b.natAbs
  have l3 := Nat.mul_le_mul (Nat.le_of_lt l1) (Nat.le_of_lt l2)
  rw [← Nat.pow_add] at l3
  have l4 := Nat.pow_le_pow_right (n := 2) (by decide) h
  have e := abs_mul a b
  have : (2 : Nat) ^ 41 = 2199023255552 := by decide
  omega

/-- A right number, or the code of the limit. -/
def limV (x : Int) : Int := if ok x = true then x else 0
def limC (x : Int) : Int := if ok x = true then 0 else 6
theorem lim_no {x : Int} (h : ok x = false) : limV x = 0 ∧ limC x = 6 := by simp [limV, limC, h]
theorem lim_yes {x : Int} (h : ok x = true) : limV x = x ∧ limC x = 0 := by simp [limV, limC, h]

/-- The quotient rounded down. -/
def flo (a b : Int) : Int := a.fdiv b
theorem flo_go (a b : Int) (hb : b ≠ 0) : flo a b = if a.tmod b ≠ 0 ∧ (decide (a < 0) != decide (b < 0)) = true then a.tdiv b - 1 else a.tdiv b := by
  unfold flo
  rw [Int.fdiv_eq_tdiv]
  have hd : b ∣ a ↔ a.tmod b = 0 := Int.dvd_iff_tmod_eq_zero
  by_cases h0 : a.tmod b = 0
  · simp [h0, hd]
  · have hn : ¬ b ∣ a := fun h => h0 (hd.1 h)
    have ha : a ≠ 0 := fun e => by subst e; simp at h0
    by_cases p : 0 ≤ a
    · have p' : ¬ a < 0 := by omega
      by_cases q : 0 ≤ b
      · have q' : ¬ b < 0 := by omega
        simp [hn, p, q, p', q']
      · have q' : b < 0 := by omega
        simp [hn, h0, p, q, p', q']
    · have p' : a < 0 := by omega
      by_cases q : 0 ≤ b
      · have q' : ¬ b < 0 := by omega
        have s : b.sign = 1 := Int.sign_eq_one_of_pos (by omega)
        simp [hn, h0, p, q, p', q', s]
      · have q' : b < 0 := by omega
        have s : b.sign = -1 := Int.sign_eq_neg_one_of_neg q'
        simp [hn, p, q, p', q', s]
theorem flo_bd {a b : Int} (h1 : -1000000000000 ≤ a) (h2 : a ≤ 1000000000000) : -1000000000000 ≤ flo a b ∧ flo a b ≤ 1000000000000 := by
  have := Int.natAbs_fdiv_le_natAbs a b
  unfold flo
  omega
theorem tdiv_bd {a b : Int} (h1 : -1000000000000 ≤ a) (h2 : a ≤ 1000000000000) : -1000000000000 ≤ a.tdiv b ∧ a.tdiv b ≤ 1000000000000 := by
  have := Int.natAbs_tdiv_le_natAbs a b
  omega
/-- What is left over. -/
def rst (a b : Int) : Int := a.fmod b
theorem rst_eq (a b : Int) : a - b * flo a b = rst a b := by
  have := Int.fmod_add_mul_fdiv a b
  unfold flo rst
  omega
theorem rst_pos (a : Int) {b : Int} (hb : 0 < b) : 0 ≤ rst a b ∧ rst a b < b := ⟨Int.fmod_nonneg_of_pos a hb, Int.fmod_lt_of_pos a hb⟩
theorem rst_neg (a : Int) {b : Int} (hb : b < 0) : rst a b ≤ 0 ∧ b < rst a b := by
  have e : rst a b = - rst (-a) (-b) := by unfold rst; rw [Int.neg_fmod_neg, Int.neg_neg]
  have := rst_pos (-a) (b := -b) (by omega)
  omega
theorem rst_bd {a b : Int} (hb : b ≠ 0) (b1 : -1000000000000 ≤ b) (b2 : b ≤ 1000000000000) : -1000000000000 ≤ rst a b ∧ rst a b ≤ 1000000000000 := by
  by_cases h : 0 < b
  · have := rst_pos a h; omega
  · have := rst_neg a (b := b) (by omega); omega

/-- What a sign does to two right numbers, ahead of the limit, and the code that comes ahead of it. -/
def twoC (s b : Int) : Int := if s = 37 ∧ b = 0 then 2 else 0
def twoX (s a b : Int) : Int :=
  if s = 43 then a + b else if s = 45 then a - b else if s = 42 then a * b else if s = 37 then flo a b
  else if s = 124 then (if a = 0 then b else rst b a) else if s = 38 then mn a b else if s = 94 then mx a b
  else if s = 61 then bit (a == b) else if s = 60 then bit (decide (a < b)) else bit (decide (b < a))
def sign2 (s : Int) : Bool := s == 43 || s == 45 || s == 42 || s == 37 || s == 124 || s == 38 || s == 94 || s == 61 || s == 60 || s == 62
/-- What Two answers. -/
def twoV (s a b : Int) : Int × Int :=
  if ok a = false ∨ ok b = false ∨ sign2 s = false then (0, 1) else if twoC s b = 0 then (limV (twoX s a b), limC (twoX s a b)) else (0, twoC s b)
theorem twoV_43 {a b : Int} (ka : ok a = true) (kb : ok b = true) : twoV 43 a b = (limV (a + b), limC (a + b)) := by simp [twoV, ka, kb, sign2, twoC, twoX]
theorem twoV_45 {a b : Int} (ka : ok a = true) (kb : ok b = true) : twoV 45 a b = (limV (a - b), limC (a - b)) := by simp [twoV, ka, kb, sign2, twoC, twoX]
theorem twoV_42 {a b : Int} (ka : ok a = true) (kb : ok b = true) : twoV 42 a b = (limV (a * b), limC (a * b)) := by simp [twoV, ka, kb, sign2, twoC, twoX]
theorem twoV_37 {a b : Int} (ka : ok a = true) (kb : ok b = true) (hb : b ≠ 0) : twoV 37 a b = (limV (flo a b), limC (flo a b)) := by simp [twoV, ka, kb, sign2, twoC, twoX, hb]
theorem twoV_37n {a b : Int} (ka : ok a = true) (kb : ok b = true) (hb : b = 0) : twoV 37 a b = (0, 2) := by subst hb; simp [twoV, ka, kb, sign2, twoC]
theorem twoV_124 {a b : Int} (ka : ok a = true) (kb : ok b = true) : twoV 124 a b = (limV (if a = 0 then b else rst b a), limC (if a = 0 then b else rst b a)) := by simp [twoV, ka, kb, sign2, twoC, twoX]
theorem twoV_38 {a b : Int} (ka : ok a = true) (kb : ok b = true) : twoV 38 a b = (limV (mn a b), limC (mn a b)) := by simp [twoV, ka, kb, sign2, twoC, twoX]
theorem twoV_94 {a b : Int} (ka : ok a = true) (kb : ok b = true) : twoV 94 a b = (limV (mx a b), limC (mx a b)) := by simp [twoV, ka, kb, sign2, twoC, twoX]
theorem twoV_61 {a b : Int} (ka : ok a = true) (kb : ok b = true) : twoV 61 a b = (limV (bit (a == b)), limC (bit (a == b))) := by simp [twoV, ka, kb, sign2, twoC, twoX]
theorem twoV_60 {a b : Int} (ka : ok a = true) (kb : ok b = true) : twoV 60 a b = (limV (bit (decide (a < b))), limC (bit (decide (a < b)))) := by simp [twoV, ka, kb, sign2, twoC, twoX]
theorem twoV_62 {a b : Int} (ka : ok a = true) (kb : ok b = true) : twoV 62 a b = (limV (bit (decide (b < a))), limC (bit (decide (b < a)))) := by simp [twoV, ka, kb, sign2, twoC, twoX]
theorem twoV_none {s a b : Int} (h : sign2 s = false) : twoV s a b = (0, 1) := by simp [twoV, h]
theorem twoV_bad {s a b : Int} (h : ok a = false ∨ ok b = false) : twoV s a b = (0, 1) := by rcases h with h | h <;> simp [twoV, h]
def sign1 (s : Int) : Bool := s == 43 || s == 45 || s == 42 || s == 124 || s == 126
theorem oneV_none {s x : Int} (h : sign1 s = false) : oneV s x = (0, 1) := by
  simp [sign1] at h
  simp [oneV, h]
theorem oneV_bad {s x : Int} (h : ok x = false) : oneV s x = (0, 1) := by simp [oneV, h]
theorem oneV_43 {x : Int} (k : ok x = true) : oneV 43 x = (x, 0) := by simp [oneV, k]
theorem oneV_45 {x : Int} (k : ok x = true) : oneV 45 x = (-x, 0) := by simp [oneV, k]
theorem oneV_42 {x : Int} (k : ok x = true) : oneV 42 x = (sgn x, 0) := by simp [oneV, k]
theorem oneV_124 {x : Int} (k : ok x = true) : oneV 124 x = (mag x, 0) := by simp [oneV, k]
theorem oneV_126 {x : Int} (k : ok x = true) : oneV 126 x = (invV x, invC x) := by simp [oneV, k]
theorem sign1_of {s : Int} (h : sign1 s = true) : s = 43 ∨ s = 45 ∨ s = 42 ∨ s = 124 ∨ s = 126 := by simp [sign1] at h; omega
theorem sign2_of {s : Int} (h : sign2 s = true) : s = 43 ∨ s = 45 ∨ s = 42 ∨ s = 37 ∨ s = 124 ∨ s = 38 ∨ s = 94 ∨ s = 61 ∨ s = 60 ∨ s = 62 := by simp [sign2] at h; omega
theorem sgn_bits (x : Int) : bit (decide (0 < x)) - bit (decide (x < 0)) = sgn x := by
  unfold sgn bit
  by_cases h1 : 0 < x <;> by_cases h2 : x < 0 <;> simp [h1, h2] <;> omega
theorem mx_mag (x : Int) : mx x (-x) = mag x := by unfold mx mag; split <;> split <;> omega
/-- The product looked at by a quotient. -/
theorem times_big {a b : Int} (h : 1000000000000 / mag b < mag a) (hb : b ≠ 0) : ok (a * b) = false := by
  rw [mag_abs, mag_abs] at h
  have e : ((1000000000000 / b.natAbs : Nat) : Int) = 1000000000000 / (b.natAbs : Int) := by rw [Int.natCast_ediv]; rfl
  have h' : 1000000000000 / b.natAbs < a.natAbs := by rw [← e] at h; omega
  rw [Nat.div_lt_iff_lt_mul (by omega)] at h'
  rw [ok_iff, abs_mul]
  simp only [decide_eq_false_iff_not]; omega
theorem times_small {a b : Int} (h : ¬ 1000000000000 / mag b < mag a) (hb : b ≠ 0) : ok (a * b) = true := by
  rw [mag_abs, mag_abs] at h
  have e : ((1000000000000 / b.natAbs : Nat) : Int) = 1000000000000 / (b.natAbs : Int) := by rw [Int.natCast_ediv]; rfl
  have h' : ¬ 1000000000000 / b.natAbs < a.natAbs := by rw [← e] at h; omega
  rw [Nat.div_lt_iff_lt_mul (by omega)] at h'
  rw [ok_iff, abs_mul]
  simp only [decide_eq_true_eq]; omega
/-- What Neutral answers. -/
def neu (s : Int) : Int × Bool :=
  if s = 43 then (0, true) else if s = 45 then (0, true) else if s = 124 then (0, true) else if s = 60 then (0, true)
  else if s = 62 then (0, true) else if s = 42 then (1, true) else if s = 37 then (1, true) else if s = 61 then (1, true)
  else if s = 38 then (1000000000000, true) else if s = 94 then (-1000000000000, true) else (0, false)

theorem div_eq (a b : Int) : flo a b * b + rst a b = a := by
  have := rst_eq a b
  rw [Int.mul_comm b] at this
  omega
end Go.Proofs.YtnebjnglcfebeaaDoor
