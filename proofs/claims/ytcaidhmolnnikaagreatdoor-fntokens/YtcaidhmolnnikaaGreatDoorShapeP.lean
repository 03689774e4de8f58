/-
  Plain arithmetic of Chapter 2: an index has the place whose index it is; no Go in sight.
-/
import Derived.Test.YtcaidhmolnnikaaGreatDoorShapeM
namespace Go.Proofs.YtcaidhmolnnikaaGreatDoor
theorem divmod {a b y : Int} (h0 : 0 ≤ b) (h1 : b < y) : (a * y + b) / y = a ∧ (a * y + b) % y = b := by
  have hy : 0 < y := by omega
  rw [Int.ediv_emod_unique hy]
  exact ⟨by rw [Int.mul_comm]; omega, h0, h1⟩
theorem moddiv (p : Int) {y : Int} : p / y * y + p % y = p := by
  have := Int.mul_ediv_add_emod p y
  rw [Int.mul_comm]; omega
theorem mod_bd (p : Int) {y : Int} (hy : 0 < y) : 0 ≤ p % y ∧ p % y ≤ y - 1 := by
  have h1 := Int.emod_nonneg p (show y ≠ 0 by omega)
  have h2 := Int.emod_lt_of_pos p hy
  omega
theorem div_lt {p x y : Int} (hy : 0 < y) (h : p < x * y) : p / y < x := Int.ediv_lt_of_lt_mul hy h
theorem idx_ok {s : List Int} {p : Int} (hs : 0 ≤ sizeV s) (h0 : 0 ≤ p) (h1 : p ≤ sizeV s - 1) :
    (s = [] ∧ p = 0) ∨ (∃ x, s = [x] ∧ 0 < x ∧ x ≤ 300 ∧ p < x) ∨ (∃ x y, s = [x, y] ∧ 0 < x ∧ x ≤ 300 ∧ 0 < y ∧ y ≤ 300 ∧ p < x * y) ∨
      ∃ x y z, s = [x, y, z] ∧ 0 < x ∧ x ≤ 300 ∧ 0 < y ∧ y ≤ 300 ∧ 0 < z ∧ z ≤ 300 ∧ p < x * y * z := by
  obtain ⟨k1, k2, k3, k4⟩ := sizeV_ok hs
  rcases len3 k1 with rfl | ⟨x, rfl⟩ | ⟨x, y, rfl⟩ | ⟨x, y, z, rfl⟩
  · rw [k4] at h1
    have : prodV ([] : List Int) = 1 := rfl
    exact .inl ⟨rfl, by omega⟩
  · simp only [List.all_cons, List.all_nil, Bool.and_true] at k2
    have dx := dimOk_bd k2
    rw [prod1] at k4
    exact .inr (.inl ⟨x, rfl, by omega, dx.2, by omega⟩)
  · simp only [List.all_cons, List.all_nil, Bool.and_true, Bool.and_eq_true] at k2
    have dx := dimOk_bd k2.1
    have dy := dimOk_bd k2.2
    rw [prod2] at k4
    have q := pos_of_mul dx.1 dy.1 (by omega)
    exact .inr (.inr (.inl ⟨x, y, rfl, q.1, dx.2, q.2, dy.2, by omega⟩))
  · simp only [List.all_cons, List.all_nil, Bool.and_true, Bool.and_eq_true] at k2
    have dx := dimOk_bd k2.1
    have dy := dimOk_bd k2.2.1
    have dz := dimOk_bd k2.2.2
    rw [prod3] at k4
    have q := pos_of_mul (Int.mul_nonneg dx.1 dy.1) dz.1 (by omega)
    have q' := pos_of_mul dx.1 dy.1 q.1
    exact .inr (.inr (.inr ⟨x, y, z, rfl, q'.1, dx.2, q'.2, dy.2, q.2, dz.2, by omega⟩))
theorem indexV_in {s : List Int} {p : Int} (hs : 0 ≤ sizeV s) (h0 : 0 ≤ p) (h1 : p ≤ sizeV s - 1) : indexV s p = idx s p := by
  unfold indexV
  rw [if_neg (by omega)]
/-- The index of a place is an index, and its place is that one. -/
theorem place_of_index {s : List Int} {p : Int} (hs : 0 ≤ sizeV s) (h0 : 0 ≤ p) (h1 : p ≤ sizeV s - 1) : (indexV s p).length = s.length ∧ placeV s (indexV s p) = p := by
  rw [indexV_in hs h0 h1]
  have key : (idx s p).length = s.length → inOk (s.zip (idx s p)) = true → hor (s.zip (idx s p)) = p → (idx s p).length = s.length ∧ placeV s (idx s p) = p := by
    intro e1 e2 e3
    refine ⟨e1, ?_⟩
    unfold placeV
    rw [if_neg (by omega), if_pos e2, e3]
  rcases idx_ok hs h0 h1 with ⟨rfl, rfl⟩ | ⟨x, rfl, x0, x1, hp⟩ | ⟨x, y, rfl, x0, x1, y0, y1, hp⟩ | ⟨x, y, z, rfl, x0, x1, y0, y1, z0, z1, hp⟩
  · exact key rfl rfl rfl
  · refine key rfl ?_ ?_
    · have := mod_bd p x0
      simp [idx, inOk]; omega
    · simp [idx, hor]; exact Int.emod_eq_of_lt h0 hp
  · have a1 := mod_bd (p / y) x0
    have a2 := mod_bd p y0
    have a3 := div_lt y0 hp
    have a4 := Int.ediv_nonneg h0 (Int.le_of_lt y0)
    have a5 : p / y % x = p / y := Int.emod_eq_of_lt a4 a3
    refine key rfl ?_ ?_
    · simp [idx, inOk]; omega
    · simp only [idx, hor, List.zip_cons_cons, List.zip_nil_right, List.foldl_cons, List.foldl_nil, Int.zero_mul, Int.zero_add]
      rw [a5]; exact moddiv p
  · have a1 := mod_bd (p / z / y) x0
    have a2 := mod_bd (p / z) y0
    have a3 := mod_bd p z0
    have b1 := div_lt z0 hp
    have b2 := div_lt y0 b1
    have b3 := Int.ediv_nonneg h0 (Int.le_of_lt z0)
    have b4 := Int.ediv_nonneg b3 (Int.le_of_lt y0)
    have b5 : p / z / y % x = p / z / y := Int.emod_eq_of_lt b4 b2
    refine key rfl ?_ ?_
    · simp [idx, inOk]; omega
    · simp only [idx, hor, List.zip_cons_cons, List.zip_nil_right, List.foldl_cons, List.foldl_nil, Int.zero_mul, Int.zero_add]
      rw [b5, moddiv (p / z), moddiv p]
/-- The place of an index has that index. -/
theorem index_of_place {s m : List Int} (h : 0 ≤ placeV s m) : indexV s (placeV s m) = m := by
  by_cases hb : sizeV s < 0 ∨ m.length ≠ s.length
  · unfold placeV at h; rw [if_pos hb] at h; omega
  · have hs : 0 ≤ sizeV s := by omega
    have el : m.length = s.length := by omega
    by_cases hi : inOk (s.zip m) = true
    · have e : placeV s m = hor (s.zip m) := by unfold placeV; rw [if_neg hb, if_pos hi]
      rw [e]
      obtain ⟨k1, k2, k3, k4⟩ := sizeV_ok hs
      have q := hor_lt _ hi
      have ef : (s.zip m).map Prod.fst = s := List.map_fst_zip (by omega)
      rw [ef, ← k4] at q
      rw [indexV_in hs q.1 (by omega)]
      rcases len3 k1 with rfl | ⟨x, rfl⟩ | ⟨x, y, rfl⟩ | ⟨x, y, z, rfl⟩
      · match m, el with
        | [], _ => rfl
      · match m, el with
        | [a], _ =>
          simp [inOk] at hi
          simp only [idx, hor, List.zip_cons_cons, List.zip_nil_right, List.foldl_cons, List.foldl_nil, Int.zero_mul, Int.zero_add]
          rw [Int.emod_eq_of_lt (by omega) (by omega)]
      · match m, el with
        | [a, b], _ =>
          simp [inOk] at hi
          simp only [idx, hor, List.zip_cons_cons, List.zip_nil_right, List.foldl_cons, List.foldl_nil, Int.zero_mul, Int.zero_add]
          have d := divmod (a := a) (b := b) (y := y) (by omega) (by omega)
          rw [d.1, d.2, Int.emod_eq_of_lt (by omega) (by omega)]
      · match m, el with
        | [a, b, c], _ =>
          simp [inOk] at hi
          simp only [idx, hor, List.zip_cons_cons, List.zip_nil_right, List.foldl_cons, List.foldl_nil, Int.zero_mul, Int.zero_add]
          have d := divmod (a := a * y + b) (b := c) (y := z) (by omega) (by omega)
          have d' := divmod (a := a) (b := b) (y := y) (by omega) (by omega)
          rw [d.1, d.2, d'.1, d'.2, Int.emod_eq_of_lt (by omega) (by omega)]
    · have e : placeV s m = -1 := by unfold placeV; rw [if_neg hb, if_neg hi]
      omega
theorem indexV_out {s : List Int} {p : Int} (h : sizeV s < 0 ∨ p < 0 ∨ sizeV s ≤ p) : indexV s p = [] := by
  unfold indexV
  rw [if_pos (by omega)]
theorem placeV_bd (s m : List Int) : -1 ≤ placeV s m ∧ placeV s m ≤ 1000 := by
  by_cases h : 0 ≤ placeV s m
  · by_cases hb : sizeV s < 0 ∨ m.length ≠ s.length
    · unfold placeV at h; rw [if_pos hb] at h; omega
    · by_cases hi : inOk (s.zip m) = true
      · have e : placeV s m = hor (s.zip m) := by unfold placeV; rw [if_neg hb, if_pos hi]
        obtain ⟨k1, k2, k3, k4⟩ := sizeV_ok (l := s) (by omega)
        have q := hor_lt _ hi
        have ef : (s.zip m).map Prod.fst = s := List.map_fst_zip (by omega)
        rw [ef] at q
        omega
      · have e : placeV s m = -1 := by unfold placeV; rw [if_neg hb, if_neg hi]
        omega
  · refine ⟨?_, by omega⟩
    unfold placeV
    split
    · exact Int.le_refl _
    · split
      · rename_i hi
        have := (hor_lt _ hi).1
        omega
      · exact Int.le_refl _
end Go.Proofs.YtcaidhmolnnikaaGreatDoor
