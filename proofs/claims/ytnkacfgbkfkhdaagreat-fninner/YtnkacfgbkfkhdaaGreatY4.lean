/-
  Several texts, one behind the other: ShapeM, ShapeP, ArrM.
-/
import Derived.Test.YtnkacfgbkfkhdaaGreatY3
namespace Go.Proofs.YtnkacfgbkfkhdaaGreat
/-- A number of a shape. -/
def dimOk (x : Int) : Bool := decide (0 ≤ x) && decide (x ≤ 300)
def prodV (l : List Int) : Int := l.foldl (· * ·) 1
theorem prodV_snoc (l : List Int) (x : Int) : prodV (l ++ [x]) = prodV l * x := by simp [prodV]
theorem take_snoc {l : List Int} {k : Nat} (h : k < l.length) : l.take (k + 1) = l.take k ++ [l.getD k 0] := by
  rw [List.take_succ_eq_append_getElem h]; simp [h]
/-- What SizeOf answers. -/
def sizeV (l : List Int) : Int := if 3 < l.length then -1 else if l.all dimOk = true then (if 300 < prodV l then -1 else prodV l) else -1
def hasZero (l : List Int) : Bool := l.any (· == 0)
theorem hasZero_snoc (l : List Int) (x : Int) : hasZero (l ++ [x]) = (hasZero l || x == 0) := by simp [hasZero]
theorem all_snoc (l : List Int) (x : Int) : (l ++ [x]).all dimOk = (l.all dimOk && dimOk x) := by simp
theorem dimOk_bd {x : Int} (h : dimOk x = true) : 0 ≤ x ∧ x ≤ 300 := by simpa [dimOk] using h
/-- Products of right numbers lie within bounds. -/
theorem prodV_bd (l : List Int) (h : l.all dimOk = true) : 0 ≤ prodV l ∧ prodV l ≤ 300 ^ l.length := by
  have key : ∀ (l : List Int) (p : Int) (n : Nat), 0 ≤ p → p ≤ 300 ^ n → l.all dimOk = true → 0 ≤ l.foldl (· * ·) p ∧ l.foldl (· * ·) p ≤ 300 ^ (n + l.length) := by
    intro l
    induction l with
    | nil => intro p n h0 h1 _; simpa using ⟨h0, h1⟩
    | cons x l ih =>
      intro p n h0 h1 ha
      simp only [List.all_cons, Bool.and_eq_true] at ha
      obtain ⟨x0, x1⟩ := dimOk_bd ha.1
      have q := ih (p * x) (n + 1) (Int.mul_nonneg h0 x0) (by
        rw [Int.pow_succ]
        exact Int.mul_le_mul h1 x1 x0 (Int.le_trans h0 h1)) ha.2
      rw [List.foldl_cons, List.length_cons, show n + (l.length + 1) = n + 1 + l.length by omega]
      exact q
  have := key l 1 0 (by decide) (by decide) h
  simpa [prodV] using this
theorem prodV_small (l : List Int) (h : l.all dimOk = true) (hn : l.length ≤ 3) : 0 ≤ prodV l ∧ prodV l ≤ 27000000 := by
  have := prodV_bd l h
  have e : (300 : Int) ^ l.length ≤ 27000000 := by
    have : l.length = 0 ∨ l.length = 1 ∨ l.length = 2 ∨ l.length = 3 := by omega
    rcases this with e | e | e | e <;> rw [e] <;> decide
  omega
theorem prodV_zero {l : List Int} (h : hasZero l = true) : prodV l = 0 := by
  have key : ∀ (l : List Int), l.foldl (· * ·) (0 : Int) = 0 := by
    intro l; induction l with
    | nil => rfl
    | cons x l ih => simpa using ih
  have main : ∀ (l : List Int) (p : Int), hasZero l = true → l.foldl (· * ·) p = 0 := by
    intro l; induction l with
    | nil => intro p h; simp [hasZero] at h
    | cons x l ih =>
      intro p h
      by_cases hx : x = 0
      · subst hx; simpa using key l
      · have : hasZero l = true := by simpa [hasZero, hx] using h
        simpa using ih (p * x) this
  exact main l 1 h
theorem all_take {l : List Int} (h : l.all dimOk = true) (k : Nat) : (l.take k).all dimOk = true := by
  rw [List.all_eq_true] at *
  exact fun x hx => h x (List.mem_of_mem_take hx)
theorem all_bad {l : List Int} {k : Nat} (h : k < l.length) (hb : dimOk (l.getD k 0) = false) : l.all dimOk = false := by
  rw [List.all_eq_false]
  exact ⟨l.getD k 0, by simp [h], by rw [hb]; decide⟩
theorem sizeV_ok {l : List Int} (h : 0 ≤ sizeV l) : l.length ≤ 3 ∧ l.all dimOk = true ∧ prodV l ≤ 300 ∧ sizeV l = prodV l := by
  unfold sizeV at *
  by_cases h1 : 3 < l.length
  · rw [if_pos h1] at h; omega
  · rw [if_neg h1] at *
    by_cases h2 : l.all dimOk = true
    · rw [if_pos h2] at *
      by_cases h3 : 300 < prodV l
      · rw [if_pos h3] at h; omega
      · rw [if_neg h3]; exact ⟨by omega, h2, by omega, rfl⟩
    · rw [if_neg h2] at h; omega
theorem sizeV_bd (l : List Int) : -1 ≤ sizeV l ∧ sizeV l ≤ 300 := by
  by_cases h : 0 ≤ sizeV l
  · have := sizeV_ok h; omega
  · have : sizeV l = -1 ∨ 0 ≤ sizeV l := by
      unfold sizeV
      split
      · exact .inl rfl
      · split
        · rename_i h2
          split
          · exact .inl rfl
          · exact .inr (prodV_bd l h2).1
        · exact .inl rfl
    omega
/-- An index by rows. -/
def hor (z : List (Int × Int)) : Int := z.foldl (fun a p => a * p.1 + p.2) 0
def inOk (z : List (Int × Int)) : Bool := z.all fun p => decide (0 ≤ p.2) && decide (p.2 ≤ p.1 - 1)
theorem hor_snoc (z : List (Int × Int)) (x y : Int) : hor (z ++ [(x, y)]) = hor z * x + y := by simp [hor]
theorem inOk_snoc (z : List (Int × Int)) (x y : Int) : inOk (z ++ [(x, y)]) = (inOk z && (decide (0 ≤ y) && decide (y ≤ x - 1))) := by simp [inOk]
theorem zip_snoc {s i : List Int} {k : Nat} (h1 : k < s.length) (h2 : k < i.length) : (s.zip i).take (k + 1) = (s.zip i).take k ++ [(s.getD k 0, i.getD k 0)] := by
  rw [List.take_succ_eq_append_getElem (by simp; omega)]
  simp [h1, h2]
theorem hor_lt (z : List (Int × Int)) (h : inOk z = true) : 0 ≤ hor z ∧ hor z + 1 ≤ prodV (z.map Prod.fst) := by
  have key : ∀ (z : List (Int × Int)) (a P : Int), 0 ≤ a → a + 1 ≤ P → inOk z = true → 0 ≤ z.foldl (fun a p => a * p.1 + p.2) a ∧ z.foldl (fun a p => a * p.1 + p.2) a + 1 ≤ (z.map Prod.fst).foldl (· * ·) P := by
    intro z
    induction z with
    | nil => intro a P h0 h1 _; simpa using ⟨h0, h1⟩
    | cons p z ih =>
      intro a P h0 h1 hz
      simp only [inOk, List.all_cons, Bool.and_eq_true, decide_eq_true_eq] at hz
      obtain ⟨⟨y0, y1⟩, hz⟩ := hz
      have x0 : 0 ≤ p.1 := by omega
      refine ih (a * p.1 + p.2) (P * p.1) (by have := Int.mul_nonneg h0 x0; omega) ?_ hz
      have q := Int.mul_le_mul_of_nonneg_right h1 x0
      rw [Int.add_mul, Int.one_mul] at q
      omega
  have := key z 0 1 (by decide) (by decide) h
  simpa [hor, prodV] using this
theorem inOk_take {z : List (Int × Int)} (h : inOk z = true) (k : Nat) : inOk (z.take k) = true := by
  unfold inOk at *
  rw [List.all_eq_true] at *
  exact fun x hx => h x (List.mem_of_mem_take hx)
/-- What PlaceOf answers. -/
def placeV (s i : List Int) : Int := if sizeV s < 0 ∨ i.length ≠ s.length then -1 else if inOk (s.zip i) = true then hor (s.zip i) else -1
theorem fst_take {s i : List Int} (e : i.length = s.length) (k : Nat) : ((s.zip i).take k).map Prod.fst = s.take k := by
  rw [List.map_take, List.map_fst_zip (by omega)]
theorem hor_bd {s i : List Int} (h : 0 ≤ sizeV s) (e : i.length = s.length) (k : Nat) (hz : inOk ((s.zip i).take k) = true) : 0 ≤ hor ((s.zip i).take k) ∧ hor ((s.zip i).take k) ≤ 27000000 := by
  obtain ⟨h1, h2, _, _⟩ := sizeV_ok h
  have q := hor_lt _ hz
  rw [fst_take e] at q
  have r := prodV_small (s.take k) (all_take h2 k) (by simp; omega)
  omega
theorem inOk_bad {s i : List Int} {k : Nat} (h1 : k < s.length) (h2 : k < i.length) (hb : (decide (0 ≤ i.getD k 0) && decide (i.getD k 0 ≤ s.getD k 0 - 1)) = false) : inOk (s.zip i) = false := by
  unfold inOk
  rw [List.all_eq_false]
  refine ⟨(s.getD k 0, i.getD k 0), ?_, by rw [hb]; decide⟩
  rw [List.mem_iff_getElem]
  exact ⟨k, by simp; omega, by simp [h1, h2]⟩
/-- The index of a place, of a shape of up to three numbers. -/
def idx (s : List Int) (p : Int) : List Int :=
  match s with
  | [x] => [p % x]
  | [x, y] => [p / y % x, p % y]
  | [x, y, z] => [p / z / y % x, p / z % y, p % z]
  | _ => []
/-- What IndexOf answers. -/
def indexV (s : List Int) (p : Int) : List Int := if sizeV s < 0 ∨ p < 0 ∨ sizeV s - 1 < p then [] else idx s p
theorem len3 {s : List Int} (h : s.length ≤ 3) : s = [] ∨ (∃ x, s = [x]) ∨ (∃ x y, s = [x, y]) ∨ ∃ x y z, s = [x, y, z] := by
  match s, h with
  | [], _ => exact .inl rfl
  | [x], _ => exact .inr (.inl ⟨x, rfl⟩)
  | [x, y], _ => exact .inr (.inr (.inl ⟨x, y, rfl⟩))
  | [x, y, z], _ => exact .inr (.inr (.inr ⟨x, y, z, rfl⟩))
  | _ :: _ :: _ :: _ :: _, h => simp at h
theorem prod1 (x : Int) : prodV [x] = x := by simp [prodV]
theorem prod2 (x y : Int) : prodV [x, y] = x * y := by simp [prodV]
theorem prod3 (x y z : Int) : prodV [x, y, z] = x * y * z := by simp [prodV]
theorem pos_of_mul {a b : Int} (ha : 0 ≤ a) (hb : 0 ≤ b) (h : 0 < a * b) : 0 < a ∧ 0 < b := by
  constructor
  · rcases Int.lt_or_eq_of_le ha with h' | h'
    · exact h'
    · rw [← h'] at h; simp at h
  · rcases Int.lt_or_eq_of_le hb with h' | h'
    · exact h'
    · rw [← h'] at h; simp at h
theorem indexV_len (s : List Int) (p : Int) : (indexV s p).length ≤ 3 := by
  unfold indexV
  split
  · simp
  · unfold idx
    split <;> simp
end Go.Proofs.YtnkacfgbkfkhdaaGreat
namespace Go.Proofs.YtnkacfgbkfkhdaaGreat
theorem divmod {a b y : Int} (h0 : 0 ≤ b) (h1 : b < y) : (a * y + b) / y = a ∧ (a * y + b) % y = b := by
  have hy : 0 < y := by omega
  rw [Int.ediv_emod_unique hy]
  exact ⟨by rw [Int.mul_comm]; omega, h0, h1⟩
theorem moddiv (p : Int) {y : Int} : p / y * y + p % y = p := by
  have := Int.mul_ediv_add_emod p y
  rw [Int.mul_comm]; omega
theorem mod_bd (p : Int) {y : Int} (hy : 0 < y) : 0 ≤ p % y ∧ p % y ≤ y - 1 := by
  have h1 := Int.emod_nonneg p (show y ≠ 0 by omega)
  have h2 := Int.emod_lt_of_pos p hy
  omega
theorem div_lt {p x y : Int} (hy : 0 < y) (h : p < x * y) : p / y < x := Int.ediv_lt_of_lt_mul hy h
theorem idx_ok {s : List Int} {p : Int} (hs : 0 ≤ sizeV s) (h0 : 0 ≤ p) (h1 : p ≤ sizeV s - 1) :
    (s = [] ∧ p = 0) ∨ (∃ x, s = [x] ∧ 0 < x ∧ x ≤ 300 ∧ p < x) ∨ (∃ x y, s = [x, y] ∧ 0 < x ∧ x ≤ 300 ∧ 0 < y ∧ y ≤ 300 ∧ p < x * y) ∨
      ∃ x y z, s = [x, y, z] ∧ 0 < x ∧ x ≤ 300 ∧ 0 < y ∧ y ≤ 300 ∧ 0 < z ∧ z ≤ 300 ∧ p < x * y * z := by
  obtain ⟨k1, k2, k3, k4⟩ := sizeV_ok hs
  rcases len3 k1 with rfl | ⟨x, rfl⟩ | ⟨x, y, rfl⟩ | ⟨x, y, z, rfl⟩
  · rw [k4] at h1
    have : prodV ([] : List Int) = 1 := rfl
    exact .inl ⟨rfl, by omega⟩
  · simp only [List.all_cons, List.all_nil, Bool.and_true] at k2
    have dx := dimOk_bd k2
    rw [prod1] at k4
    exact .inr (.inl ⟨x, rfl, by omega, dx.2, by omega⟩)
  · simp only [List.all_cons, List.all_nil, Bool.and_true, Bool.and_eq_true] at k2
    have dx := dimOk_bd k2.1
    have dy := dimOk_bd k2.2
    rw [prod2] at k4
    have q := pos_of_mul dx.1 dy.1 (by omega)
    exact .inr (.inr (.inl ⟨x, y, rfl, q.1, dx.2, q.2, dy.2, by omega⟩))
  · simp only [List.all_cons, List.all_nil, Bool.and_true, Bool.and_eq_true] at k2
    have dx := dimOk_bd k2.1
    have dy := dimOk_bd k2.2.1
    have dz := dimOk_bd k2.2.2
    rw [prod3] at k4
    have q := pos_of_mul (Int.mul_nonneg dx.1 dy.1) dz.1 (by omega)
    have q' := pos_of_mul dx.1 dy.1 q.1
    exact .inr (.inr (.inr ⟨x, y, z, rfl, q'.1, dx.2, q'.2, dy.2, q.2, dz.2, by omega⟩))
theorem indexV_in {s : List Int} {p : Int} (hs : 0 ≤ sizeV s) (h0 : 0 ≤ p) (h1 : p ≤ sizeV s - 1) : indexV s p = idx s p := by
  unfold indexV
  rw [if_neg (by omega)]
/-- The index of a place is an index, and its place is that one. -/
theorem place_of_index {s : List Int} {p : Int} (hs : 0 ≤ sizeV s) (h0 : 0 ≤ p) (h1 : p ≤ sizeV s - 1) : (indexV s p).length = s.length ∧ placeV s (indexV s p) = p := by
  rw [indexV_in hs h0 h1]
  have key : (idx s p).length = s.length → inOk (s.zip (idx s p)) = true → hor (s.zip (idx s p)) = p → (idx s p).length = s.length ∧ placeV s (idx s p) = p := by
    intro e1 e2 e3
    refine ⟨e1, ?_⟩
    unfold placeV
    rw [if_neg (by omega), if_pos e2, e3]
  rcases idx_ok hs h0 h1 with ⟨rfl, rfl⟩ | ⟨x, rfl, x0, x1, hp⟩ | ⟨x, y, rfl, x0, x1, y0, y1, hp⟩ | ⟨x, y, z, rfl, x0, x1, y0, y1, z0, z1, hp⟩
  · exact key rfl rfl rfl
  · refine key rfl ?_ ?_
    · have := mod_bd p x0
      simp [idx, inOk]; omega
    · simp [idx, hor]; exact Int.emod_eq_of_lt h0 hp
  · have a1 := mod_bd (p / y) x0
    have a2 := mod_bd p y0
    have a3 := div_lt y0 hp
    have a4 := Int.ediv_nonneg h0 (Int.le_of_lt y0)
    have a5 : p / y % x = p / y := Int.emod_eq_of_lt a4 a3
    refine key rfl ?_ ?_
    · simp [idx, inOk]; omega
    · simp only [idx, hor, List.zip_cons_cons, List.zip_nil_right, List.foldl_cons, List.foldl_nil, Int.zero_mul, Int.zero_add]
      rw [a5]; exact moddiv p
  · have a1 := mod_bd (p / z / y) x0
    have a2 := mod_bd (p / z) y0
    have a3 := mod_bd p z0
    have b1 := div_lt z0 hp
    have b2 := div_lt y0 b1
    have b3 := Int.ediv_nonneg h0 (Int.le_of_lt z0)
    have b4 := Int.ediv_nonneg b3 (Int.le_of_lt y0)
    have b5 : p / z / y % x = p / z / y := Int.emod_eq_of_lt b4 b2
    refine key rfl ?_ ?_
    · simp [idx, inOk]; omega
    · simp only [idx, hor, List.zip_cons_cons, List.zip_nil_right, List.foldl_cons, List.foldl_nil, Int.zero_mul, Int.zero_add]
      rw [b5, moddiv (p / z), moddiv p]
/-- The place of an index has that index. -/
theorem index_of_place {s m : List Int} (h : 0 ≤ placeV s m) : indexV s (placeV s m) = m := by
  by_cases hb : sizeV s < 0 ∨ m.length ≠ s.length
  · unfold placeV at h; rw [if_pos hb] at h; omega
  · have hs : 0 ≤ sizeV s := by omega
    have el : m.length = s.length := by omega
    by_cases hi : inOk (s.zip m) = true
    · have e : placeV s m = hor (s.zip m) := by unfold placeV; rw [if_neg hb, if_pos hi]
      rw [e]
      obtain ⟨k1, k2, k3, k4⟩ := sizeV_ok hs
      have q := hor_lt _ hi
      have ef : (s.zip m).map Prod.fst = s := List.map_fst_zip (by omega)
      rw [ef, ← k4] at q
      rw [indexV_in hs q.1 (by omega)]
      rcases len3 k1 with rfl | ⟨x, rfl⟩ | ⟨x, y, rfl⟩ | ⟨x, y, z, rfl⟩
      · match m, el with
        | [], _ => rfl
      · match m, el with
        | [a], _ =>
          simp [inOk] at hi
          simp only [idx, hor, List.zip_cons_cons, List.zip_nil_right, List.foldl_cons, List.foldl_nil, Int.zero_mul, Int.zero_add]
          rw [Int.emod_eq_of_lt (by omega) (by omega)]
      · match m, el with
        | [a, b], _ =>
          simp [inOk] at hi
          simp only [idx, hor, List.zip_cons_cons, List.zip_nil_right, List.foldl_cons, List.foldl_nil, Int.zero_mul, Int.zero_add]
          have d := divmod (a := a) (b := b) (y := y) (by omega) (by omega)
          rw [d.1, d.2, Int.emod_eq_of_lt (by omega) (by omega)]
      · match m, el with
        | [a, b, c], _ =>
          simp [inOk] at hi
          simp only [idx, hor, List.zip_cons_cons, List.zip_nil_right, List.foldl_cons, List.foldl_nil, Int.zero_mul, Int.zero_add]
          have d := divmod (a := a * y + b) (b := c) (y := z) (by omega) (by omega)
          have d' := divmod (a := a) (b := b) (y := y) (by omega) (by omega)
          rw [d.1, d.2, d'.1, d'.2, Int.emod_eq_of_lt (by omega) (by omega)]
    · have e : placeV s m = -1 := by unfold placeV; rw [if_neg hb, if_neg hi]
      omega
theorem indexV_out {s : List Int} {p : Int} (h : sizeV s < 0 ∨ p < 0 ∨ sizeV s ≤ p) : indexV s p = [] := by
  unfold indexV
  rw [if_pos (by omega)]
theorem placeV_bd (s m : List Int) : -1 ≤ placeV s m ∧ placeV s m ≤ 1000 := by
  by_cases h : 0 ≤ placeV s m
  · by_cases hb : sizeV s < 0 ∨ m.length ≠ s.length
    · unfold placeV at h; rw [if_pos hb] at h; omega
    · by_cases hi : inOk (s.zip m) = true
      · have e : placeV s m = hor (s.zip m) := by unfold placeV; rw [if_neg hb, if_pos hi]
        obtain ⟨k1, k2, k3, k4⟩ := sizeV_ok (l := s) (by omega)
        have q := hor_lt _ hi
        have ef : (s.zip m).map Prod.fst = s := List.map_fst_zip (by omega)
        rw [ef] at q
        omega
      · have e : placeV s m = -1 := by unfold placeV; rw [if_neg hb, if_neg hi]
        omega
  · refine ⟨?_, by omega⟩
    unfold placeV
    split
    · exact Int.le_refl _
    · split
      · rename_i hi
        have := (hor_lt _ hi).1
        omega
      · exact Int.le_refl _
end Go.Proofs.YtnkacfgbkfkhdaaGreat
namespace Go.Proofs.YtnkacfgbkfkhdaaGreat
/-- What ArrayOk answers. -/
def arrOk (s d : List Int) : Bool := decide (sizeV s = d.length) && d.all ok
theorem arrOk_size {s d : List Int} (h : arrOk s d = true) : sizeV s = d.length := by
  simp only [arrOk, Bool.and_eq_true, decide_eq_true_eq] at h; exact h.1
theorem arrOk_len {s d : List Int} (h : arrOk s d = true) : d.length ≤ 300 := by
  have := arrOk_size h
  have := sizeV_bd s
  omega
theorem arrOk_shape {s d : List Int} (h : arrOk s d = true) : 0 ≤ sizeV s := by
  have := arrOk_size h
  omega
theorem all_snocN (l : List Int) (x : Int) (p : Int → Bool) : (l ++ [x]).all p = (l.all p && p x) := by simp
/-- What NumAt answers. -/
def numAtOk (s d i : List Int) : Bool := arrOk s d && decide (0 ≤ placeV s i)
def numAtV (s d i : List Int) : Int := if numAtOk s d i = true then d.getD (placeV s i).toNat 0 else 0
theorem placeV_lt {s i : List Int} (h : 0 ≤ placeV s i) : placeV s i < sizeV s := by
  unfold placeV at h ⊢
  by_cases h1 : sizeV s < 0 ∨ i.length ≠ s.length
  · rw [if_pos h1] at h; omega
  · rw [if_neg h1] at h ⊢
    by_cases h2 : inOk (s.zip i) = true
    · rw [if_pos h2] at h ⊢
      have b := hor_lt _ h2
      rw [List.map_fst_zip (by omega), ← (sizeV_ok (by omega)).2.2.2] at b
      omega
    · rw [if_neg h2] at h; omega
theorem numAt_bad {s d i : List Int} (h : numAtOk s d i = false) : numAtV s d i = 0 := by unfold numAtV; rw [if_neg (by rw [h]; decide)]
theorem numAt_good {s d i : List Int} (h : numAtOk s d i = true) : numAtV s d i = d.getD (placeV s i).toNat 0 := by unfold numAtV; rw [if_pos h]
theorem sizeV_0' : sizeV [] = 1 := by simp [sizeV, prodV]
end Go.Proofs.YtnkacfgbkfkhdaaGreat
