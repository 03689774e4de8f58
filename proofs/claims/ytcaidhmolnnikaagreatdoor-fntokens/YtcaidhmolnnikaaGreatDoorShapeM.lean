/-
  Plain arithmetic of Chapter 2 (shapes, places, indexes); no Go in sight.
-/
namespace Go.Proofs.YtcaidhmolnnikaaGreatDoor
/-- A number of a shape. -/
def dimOk (x : Int) : Bool := decide (0 ≤ x) && decide (x ≤ 300)
def prodV (l : List Int) : Int := l.foldl (· * ·) 1
theorem prodV_snoc (l : List Int) (x : Int) : prodV (l ++ [x]) = prodV l * x := by simp [prodV]
theorem take_snoc {l : List Int} {k : Nat} (h : k < l.length) : l.take (k + 1) = l.take k ++ [l.getD k 0] := by
  rw [List.take_succ_eq_append_getElem h]; simp [h]
/-- What SizeOf answers. -/
def sizeV (l : List Int) : Int := if 3 < l.length then -1 else if l.all dimOk = true then (if 300 < prodV l then -1 else prodV l) else -1
def hasZero (l : List Int) : Bool := l.any (· == 0)
theorem hasZero_snoc (l : List Int) (x : Int) : hasZero (l ++ [x]) = (hasZero l || x == 0) := by simp [hasZero]
theorem all_snoc (l : List Int) (x : Int) : (l ++ [x]).all dimOk = (l.all dimOk && dimOk x) := by simp
theorem dimOk_bd {x : Int} (h : dimOk x = true) : 0 ≤ x ∧ x ≤ 300 := by simpa [dimOk] using h
/-- Products of right numbers lie within bounds. -/
theorem prodV_bd (l : List Int) (h : l.all dimOk = true) : 0 ≤ prodV l ∧ prodV l ≤ 300 ^ l.length := by
  have key : ∀ (l : List Int) (p : Int) (n : Nat), 0 ≤ p → p ≤ 300 ^ n → l.all dimOk = true → 0 ≤ l.foldl (· * ·) p ∧ l.foldl (· * ·) p ≤ 300 ^ (n + l.length) := by
    intro l
    induction l with
    | nil => intro p n h0 h1 _; simpa using ⟨h0, h1⟩
    | cons x l ih =>
      intro p n h0 h1 ha
      simp only [List.all_cons, Bool.and_eq_true] at ha
      obtain ⟨x0, x1⟩ := dimOk_bd ha.1
      have q := ih (p * x) (n + 1) (Int.mul_nonneg h0 x0) (by
        rw [Int.pow_succ]
        exact Int.mul_le_mul h1 x1 x0 (Int.le_trans h0 h1)) ha.2
      rw [List.foldl_cons, List.length_cons, show n + (l.length + 1) = n + 1 + l.length by omega]
      exact q
  have := key l 1 0 (by decide) (by decide) h
  simpa [prodV] using this
theorem prodV_small (l : List Int) (h : l.all dimOk = true) (hn : l.length ≤ 3) : 0 ≤ prodV l ∧ prodV l ≤ 27000000 := by
  have := prodV_bd l h
  have e : (300 : Int) ^ l.length ≤ 27000000 := by
    have : l.length = 0 ∨ l.length = 1 ∨ l.length = 2 ∨ l.length = 3 := by omega
    rcases this with e | e | e | e <;> rw [e] <;> decide
  omega
theorem prodV_zero {l : List Int} (h : hasZero l = true) : prodV l = 0 := by
  have key : ∀ (l : List Int), l.foldl (· * ·) (0 : Int) = 0 := by
    intro l; induction l with
    | nil => rfl
    | cons x l ih => simpa using ih
  have main : ∀ (l : List Int) (p : Int), hasZero l = true → l.foldl (· * ·) p = 0 := by
    intro l; induction l with
    | nil => intro p h; simp [hasZero] at h
    | cons x l ih =>
      intro p h
      by_cases hx : x = 0
      · subst hx; simpa using key l
      · have : hasZero l = true := by simpa [hasZero, hx] using h
        simpa using ih (p * x) this
  exact main l 1 h
theorem all_take {l : List Int} (h : l.all dimOk = true) (k : Nat) : (l.take k).all dimOk = true := by
  rw [List.all_eq_true] at *
  exact fun x hx => h x (List.mem_of_mem_take hx)
theorem all_bad {l : List Int} {k : Nat} (h : k < l.length) (hb : dimOk (l.getD k 0) = false) : l.all dimOk = false := by
  rw [List.all_eq_false]
  exact ⟨l.getD k 0, by simp [h], by rw [hb]; decide⟩
theorem sizeV_ok {l : List Int} (h : 0 ≤ sizeV l) : l.length ≤ 3 ∧ l.all dimOk = true ∧ prodV l ≤ 300 ∧ sizeV l = prodV l := by
  unfold sizeV at *
  by_cases h1 : 3 < l.length
  · rw [if_pos h1] at h; omega
  · rw [if_neg h1] at *
    by_cases h2 : l.all dimOk = true
    · rw [if_pos h2] at *
      by_cases h3 : 300 < prodV l
      · rw [if_pos h3] at h; omega
      · rw [if_neg h3]; exact ⟨by omega, h2, by omega, rfl⟩
    · rw [if_neg h2] at h; omega
theorem sizeV_bd (l : List Int) : -1 ≤ sizeV l ∧ sizeV l ≤ 300 := by
  by_cases h : 0 ≤ sizeV l
  · have := sizeV_ok h; omega
  · have : sizeV l = -1 ∨ 0 ≤ sizeV l := by
      unfold sizeV
      split
      · exact .inl rfl
      · split
        · rename_i h2
          split
          · exact .inl rfl
          · exact .inr (prodV_bd l h2).1
        · exact .inl rfl
    omega
/-- An index by rows. -/
def hor (z : List (Int × Int)) : Int := z.foldl (fun a p => a * p.1 + p.2) 0
def inOk (z : List (Int × Int)) : Bool := z.all fun p => decide (0 ≤ p.2) && decide (p.2 ≤ p.1 - 1)
theorem hor_snoc (z : List (Int × Int)) (x y : Int) : hor (z ++ [(x, y)]) = hor z * x + y := by simp [hor]
theorem inOk_snoc (z : List (Int × Int)) (x y : Int) : inOk (z ++ [(x, y)]) = (inOk z && (decide (0 ≤ y) && decide (y ≤ x - 1))) := by simp [inOk]
theorem zip_snoc {s i : List Int} {k : Nat} (h1 : k < s.length) (h2 : k < i.length) : (s.zip i).take (k + 1) = (s.zip i).take k ++ [(s.getD k 0, i.getD k 0)] := by
  rw [List.take_succ_eq_append_getElem (by simp; omega)]
  simp [h1, h2]
theorem hor_lt (z : List (Int × Int)) (h : inOk z = true) : 0 ≤ hor z ∧ hor z + 1 ≤ prodV (z.map Prod.fst) := by
  have key : ∀ (z : List (Int × Int)) (a P : Int), 0 ≤ a → a + 1 ≤ P → inOk z = true → 0 ≤ z.foldl (fun a p => a * p.1 + p.2) a ∧ z.foldl (fun a p => a * p.1 + p.2) a + 1 ≤ (z.map Prod.fst).foldl (· * ·) P := by
    intro z
    induction z with
    | nil => intro a P h0 h1 _; simpa using ⟨h0, h1⟩
    | cons p z ih =>
      intro a P h0 h1 hz
      simp only [inOk, List.all_cons, Bool.and_eq_true, decide_eq_true_eq] at hz
      obtain ⟨⟨y0, y1⟩, hz⟩ := hz
      have x0 : 0 ≤ p.1 := by omega
      refine ih (a * p.1 + p.2) (P * p.1) (by have := Int.mul_nonneg h0 x0; omega) ?_ hz
      have q := Int.mul_le_mul_of_nonneg_right h1 x0
      rw [Int.add_mul, Int.one_mul] at q
      omega
  have := key z 0 1 (by decide) (by decide) h
  simpa [hor, prodV] using this
theorem inOk_take {z : List (Int × Int)} (h : inOk z = true) (k : Nat) : inOk (z.take k) = true := by
  unfold inOk at *
  rw [List.all_eq_true] at *
  exact fun x hx => h x (List.mem_of_mem_take hx)
/-- What PlaceOf answers. -/
def placeV (s i : List Int) : Int := if sizeV s < 0 ∨ i.length ≠ s.length then -1 else if inOk (s.zip i) = true then hor (s.zip i) else -1
theorem fst_take {s i : List Int} (e : i.length = s.length) (k : Nat) : ((s.zip i).take k).map Prod.fst = s.take k := by
  rw [List.map_take, List.map_fst_zip (by omega)]
theorem hor_bd {s i : List Int} (h : 0 ≤ sizeV s) (e : i.length = s.length) (k : Nat) (hz : inOk ((s.zip i).take k) = true) : 0 ≤ hor ((s.zip i).take k) ∧ hor ((s.zip i).take k) ≤ 27000000 := by
  obtain ⟨h1, h2, _, _⟩ := sizeV_ok h
  have q := hor_lt _ hz
  rw [fst_take e] at q
  have r := prodV_small (s.take k) (all_take h2 k) (by simp; omega)
  omega
theorem inOk_bad {s i : List Int} {k : Nat} (h1 : k < s.length) (h2 : k < i.length) (hb : (decide (0 ≤ i.getD k 0) && decide (i.getD k 0 ≤ s.getD k 0 - 1)) = false) : inOk (s.zip i) = false := by
  unfold inOk
  rw [List.all_eq_false]
  refine ⟨(s.getD k 0, i.getD k 0), ?_, by rw [hb]; decide⟩
  rw [List.mem_iff_getElem]
  exact ⟨k, by simp; omega, by simp [h1, h2]⟩
/-- The index of a place, of a shape of up to three numbers. -/
def idx (s : List Int) (p : Int) : List Int :=
  match s with
  | [x] => [p % x]
  | [x, y] => [p / y % x, p % y]
  | [x, y, z] => [p / z / y % x, p / z % y, p % z]
  | _ => []
/-- What IndexOf answers. -/
def indexV (s : List Int) (p : Int) : List Int := if sizeV s < 0 ∨ p < 0 ∨ sizeV s - 1 < p then [] else idx s p
theorem len3 {s : List Int} (h : s.length ≤ 3) : s = [] ∨ (∃ x, s = [x]) ∨ (∃ x y, s = [x, y]) ∨ ∃ x y z, s = [x, y, z] := by
  match s, h with
  | [], _ => exact .inl rfl
  | [x], _ => exact .inr (.inl ⟨x, rfl⟩)
  | [x, y], _ => exact .inr (.inr (.inl ⟨x, y, rfl⟩))
  | [x, y, z], _ => exact .inr (.inr (.inr ⟨x, y, z, rfl⟩))
  | _ :: _ :: _ :: _ :: _, h => simp at h
theorem prod1 (x : Int) : prodV [x] = x := by simp [prodV]
theorem prod2 (x y : Int) : prodV [x, y] = x * y := by simp [prodV]
theorem prod3 (x y z : Int) : prodV [x, y, z] = x * y * z := by simp [prodV]
theorem pos_of_mul {a b : Int} (ha : 0 ≤ a) (hb : 0 ≤ b) (h : 0 < a * b) : 0 < a ∧ 0 < b := by
  constructor
  · rcases Int.lt_or_eq_of_le ha with h' | h'
    · exact h'
    · rw [← h'] at h; simp at h
  · rcases Int.lt_or_eq_of_le hb with h' | h'
    · exact h'
    · rw [← h'] at h; simp at h
theorem indexV_len (s : List Int) (p : Int) : (indexV s p).length ≤ 3 := by
  unfold indexV
  split
  · simp
  · unfold idx
    split <;> simp
end Go.Proofs.YtcaidhmolnnikaaGreatDoor
