/-
  The program's contract of PlaceOf: an index is taken just where it is the index of the place that it reckons to.
-/
import Derived.Test.YtbmkfmppcojcgaaImplShape
namespace Go.Proofs.Ytbmkfmppcojcgaa
open Go.RowKit
set_option linter.unusedVariables false
theorem placeV_hit {s i : List Int} {P : Int} (hs : 0 ≤ sizeV s) (h0 : 0 ≤ P) (h1 : P < sizeV s) (he : idx s P = i) : placeV s i = P := by
  have q := place_of_index hs h0 (by omega)
  rw [indexV_in hs h0 (by omega), he] at q
  exact q.2
theorem placeV_miss {s i : List Int} {P : Int} (hs : 0 ≤ sizeV s) (hl : i.length = s.length) (hP : inOk (s.zip i) = true → P = hor (s.zip i)) (h : P < 0 ∨ sizeV s ≤ P ∨ idx s P ≠ i) : placeV s i = -1 := by
  by_cases hin : inOk (s.zip i) = true
  · exfalso
    have e := hP hin
    have hv : placeV s i = P := by unfold placeV; rw [if_neg (by omega), if_pos hin, e]
    have b := hor_lt _ hin
    rw [List.map_fst_zip (by omega), ← (sizeV_ok hs).2.2.2, ← e] at b
    have q := index_of_place (s := s) (m := i) (by omega)
    rw [hv, indexV_in hs (by omega) (by omega)] at q
    rcases h with h | h | h
    · omega
    · omega
    · exact h q
  · unfold placeV
    rw [if_neg (by omega), if_neg hin]
theorem wrap_in {a : Int} (h0 : 0 ≤ a) (h1 : a ≤ 27000000) : wrap64 a = a := by unfold wrap64; omega
theorem reck1_in {x i : Int} (x1 : x ≤ 300) (h : inOk ([x].zip [i]) = true) : wrap64 i = hor ([x].zip [i]) := by
  simp [inOk] at h
  rw [wrap_in (by omega) (by omega)]
  simp [hor]
theorem reck2_in {x y i j : Int} (x1 : x ≤ 300) (y1 : y ≤ 300) (h : inOk ([x, y].zip [i, j]) = true) : wrap64 (wrap64 (wrap64 i * y) + j) = hor ([x, y].zip [i, j]) := by
  simp [inOk] at h
  have m0 : 0 ≤ i * y := Int.mul_nonneg (by omega) (by omega)
  have m1 : i * y ≤ 300 * 300 := Int.mul_le_mul (by omega) (by omega) (by omega) (by omega)
  rw [wrap_in (a := i) (by omega) (by omega), wrap_in (a := i * y) (by omega) (by omega), wrap_in (by omega) (by omega)]
  simp [hor]
theorem reck3_in {x y z i j k : Int} (x1 : x ≤ 300) (y1 : y ≤ 300) (z1 : z ≤ 300) (h : inOk ([x, y, z].zip [i, j, k]) = true) : wrap64 (wrap64 (wrap64 (wrap64 (wrap64 i * y) + j) * z) + k) = hor ([x, y, z].zip [i, j, k]) := by
  have h' : inOk ([x, y].zip [i, j]) = true := by simp [inOk] at h ⊢; omega
  rw [reck2_in x1 y1 h']
  have b := hor_lt _ h'
  simp [inOk] at h
  have m1 : x * y ≤ 300 * 300 := Int.mul_le_mul (by omega) (by omega) (by omega) (by omega)
  have b2 : hor ([x, y].zip [i, j]) + 1 ≤ x * y := by simpa [prodV] using b.2
  generalize hh : hor ([x, y].zip [i, j]) = H at b b2
  have n0 : 0 ≤ H * z := Int.mul_nonneg b.1 (by omega)
  have n1 : H * z ≤ 90000 * 300 := Int.mul_le_mul (by omega) (by omega) (by omega) (by omega)
  rw [wrap_in n0 (by omega)]
  have e : hor ([x, y, z].zip [i, j, k]) = H * z + k := by rw [← hh]; simp [hor]
  have b3 := (hor_lt ([x, y, z].zip [i, j, k]) (by simp [inOk]; omega)).2
  have m2 : x * y * z ≤ 90000 * 300 := Int.mul_le_mul (by omega) (by omega) (by omega) (by omega)
  have b4 : hor ([x, y, z].zip [i, j, k]) + 1 ≤ x * y * z := by simpa [prodV] using b3
  rw [e] at b4 ⊢
  exact wrap_in (by omega) (by omega)
/-- PlaceOf, whatever lists it is given. -/
theorem place_impl {s i : List Int} {a b : Option Addr} {w : World} (c d : Nat) (h1 : Ints w a s) (h2 : Ints w b i) :
    Calls Try.prog 71 #[.slice a s.length c, .slice b i.length d] w fun e w' => e = .returned (.int .i64 (placeV s i)) ∧ Below w.heap.size w w' := by
  by_cases hb : sizeV s < 0 ∨ i.length ≠ s.length
  · have e : placeV s i = -1 := by unfold placeV; rw [if_pos hb]
    rw [e]
    exact place_bad_impl c d h1 hb
  · have hs : 0 ≤ sizeV s := by omega
    have hl : i.length = s.length := by omega
    obtain ⟨k1, k2, k3, k4⟩ := sizeV_ok hs
    rcases len3 k1 with rfl | ⟨x, rfl⟩ | ⟨x, y, rfl⟩ | ⟨x, y, z, rfl⟩
    · obtain rfl : i = [] := List.eq_nil_of_length_eq_zero hl
      have e : placeV [] [] = 0 := by simp [placeV, sizeV, prodV, inOk, hor]
      rw [e]
      exact place_0_hit 0 a b c d w h1 h2 rfl (by omega) (by omega) rfl
    · rcases len3 (by omega : i.length ≤ 3) with rfl | ⟨i, rfl⟩ | ⟨i, j, rfl⟩ | ⟨i, j, k, rfl⟩
      · simp at hl
      · simp only [List.all_cons, List.all_nil, Bool.and_true] at k2
        have dx := dimOk_bd k2
        rw [prod1] at k3 k4
        have hP := reck1_in dx.2 (i := i)
        generalize hPe : wrap64 i = P at hP
        by_cases q1 : P < 0
        · rw [placeV_miss hs hl hP (.inl q1)]
          exact place_1_neg x i P a b c d w h1 h2 hPe dx.1 dx.2 q1
        by_cases q2 : x ≤ P
        · rw [placeV_miss hs hl hP (.inr (.inl (by omega)))]
          exact place_1_much x i P a b c d w h1 h2 hPe dx.1 dx.2 (by omega) q2
        have px : 0 < x := by omega
        by_cases q3 : idx [x] P = [i]
        · rw [placeV_hit hs (by omega) (by omega) q3]
          simp only [idx, List.cons.injEq, and_true] at q3
          exact place_1_hit x i i P a b c d w h1 h2 hPe px dx.2 (by omega) (by omega) q3 (by simp)
        · rw [placeV_miss hs hl hP (.inr (.inr q3))]
          simp only [idx, List.cons.injEq, and_true] at q3
          exact place_1_miss x i _ P a b c d w h1 h2 hPe px dx.2 (by omega) (by omega) rfl (by simp; exact q3)
      · simp at hl
      · simp at hl
    · rcases len3 (by omega : i.length ≤ 3) with rfl | ⟨i, rfl⟩ | ⟨i, j, rfl⟩ | ⟨i, j, k, rfl⟩
      · simp at hl
      · simp at hl
      · simp only [List.all_cons, List.all_nil, Bool.and_true, Bool.and_eq_true] at k2
        have dx := dimOk_bd k2.1
        have dy := dimOk_bd k2.2
        rw [prod2] at k3 k4
        have hP := reck2_in dx.2 dy.2 (i := i) (j := j)
        generalize hPe : wrap64 (wrap64 (wrap64 i * y) + j) = P at hP
        by_cases q1 : P < 0
        · rw [placeV_miss hs hl hP (.inl q1)]
          exact place_2_neg x y i j P a b c d w h1 h2 hPe dx.1 dx.2 dy.1 dy.2 k3 q1
        by_cases q2 : x * y ≤ P
        · rw [placeV_miss hs hl hP (.inr (.inl (by omega)))]
          exact place_2_much x y i j P a b c d w h1 h2 hPe dx.1 dx.2 dy.1 dy.2 k3 (by omega) q2
        have q := pos_of_mul dx.1 dy.1 (by omega)
        obtain ⟨px, py⟩ := q
        by_cases q3 : idx [x, y] P = [i, j]
        · rw [placeV_hit hs (by omega) (by omega) q3]
          simp only [idx, List.cons.injEq, and_true] at q3
          exact place_2_hit x y i j i j P a b c d w h1 h2 hPe px dx.2 py dy.2 k3 (by omega) (by omega) q3.1 q3.2 (by simp)
        · rw [placeV_miss hs hl hP (.inr (.inr q3))]
          simp only [idx, List.cons.injEq, and_true] at q3
          exact place_2_miss x y i j _ _ P a b c d w h1 h2 hPe px dx.2 py dy.2 k3 (by omega) (by omega) rfl rfl (by simp at q3 ⊢; exact q3)
      · simp at hl
    · rcases len3 (by omega : i.length ≤ 3) with rfl | ⟨i, rfl⟩ | ⟨i, j, rfl⟩ | ⟨i, j, k, rfl⟩
      · simp at hl
      · simp at hl
      · simp at hl
      · simp only [List.all_cons, List.all_nil, Bool.and_true, Bool.and_eq_true] at k2
        have dx := dimOk_bd k2.1
        have dy := dimOk_bd k2.2.1
        have dz := dimOk_bd k2.2.2
        rw [prod3] at k3 k4
        have hP := reck3_in dx.2 dy.2 dz.2 (i := i) (j := j) (k := k)
        generalize hPe : wrap64 (wrap64 (wrap64 (wrap64 (wrap64 i * y) + j) * z) + k) = P at hP
        by_cases q1 : P < 0
        · rw [placeV_miss hs hl hP (.inl q1)]
          exact place_3_neg x y z i j k P a b c d w h1 h2 hPe dx.1 dx.2 dy.1 dy.2 dz.1 dz.2 k3 q1
        by_cases q2 : x * y * z ≤ P
        · rw [placeV_miss hs hl hP (.inr (.inl (by omega)))]
          exact place_3_much x y z i j k P a b c d w h1 h2 hPe dx.1 dx.2 dy.1 dy.2 dz.1 dz.2 k3 (by omega) q2
        have q := pos_of_mul (Int.mul_nonneg dx.1 dy.1) dz.1 (by omega)
        have q' := pos_of_mul dx.1 dy.1 q.1
        obtain ⟨px, py⟩ := q'
        have pz := q.2
        by_cases q3 : idx [x, y, z] P = [i, j, k]
        · rw [placeV_hit hs (by omega) (by omega) q3]
          simp only [idx, List.cons.injEq, and_true] at q3
          exact place_3_hit x y z i j k i j k P a b c d w h1 h2 hPe px dx.2 py dy.2 pz dz.2 k3 (by omega) (by omega) q3.1 q3.2.1 q3.2.2 (by simp)
        · rw [placeV_miss hs hl hP (.inr (.inr q3))]
          simp only [idx, List.cons.injEq, and_true] at q3
          exact place_3_miss x y z i j k _ _ _ P a b c d w h1 h2 hPe px dx.2 py dy.2 pz dz.2 k3 (by omega) (by omega) rfl rfl rfl (by simp at q3 ⊢; exact q3)
end Go.Proofs.Ytbmkfmppcojcgaa
