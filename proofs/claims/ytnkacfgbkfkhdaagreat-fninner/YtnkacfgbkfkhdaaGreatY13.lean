/-
  Several texts, one behind the other: OuterN, InnerP, FlipM.
-/
import Derived.Test.YtnkacfgbkfkhdaaGreatY12
import Derived.Test.YtnkacfgbkfkhdaaGreatY5
namespace Go.Proofs.YtnkacfgbkfkhdaaGreat
set_option linter.unusedVariables false
theorem flat_congr {n : Nat} {f g : Nat → List Int} (h : ∀ i, i < n → f i = g i) : (List.range n).flatMap f = (List.range n).flatMap g := by
  induction n with
  | zero => rfl
  | succ n ih =>
    rw [List.range_succ, List.flatMap_append, List.flatMap_append, ih (fun i hi => h i (by omega))]
    simp [h n (by omega)]
theorem outer_num {s d : List Int} (h : arrOk s d = true) {i : Nat} (hi : i < d.length) : ok (d.getD i 0) = true := by
  simp only [arrOk, Bool.and_eq_true, List.all_eq_true] at h
  apply h.2
  simp [List.getD, hi]
theorem spread_bound (g : Int) (d t e : List Int) (n : Nat) : ((List.range n).flatMap (fun k => eachTwoD g [] [d.getD k 0] t e)).length ≤ n * 300 := by
  induction n with
  | zero => simp
  | succ n ih =>
    rw [List.range_succ, List.flatMap_append, List.length_append, Nat.succ_mul]
    have := eachTwoD_len g [] [d.getD n 0] t e
    simp only [List.flatMap_cons, List.flatMap_nil, List.append_nil]
    omega
/-- Number by number, each with the whole array. -/
theorem outer_strung {g : Int} {s d t e : List Int} (S : List Int) (h1 : arrOk s d = true) (h2 : arrOk t e = true) (h3 : sign2 g = true) :
    mkR (firstC (fun k => eachTwoC g [] [d.getD k 0] t e) d.length) S ((List.range d.length).flatMap (fun k => eachTwoD g [] [d.getD k 0] t e)) = mkR (outC g d e d.length) S (outD g d e d.length) := by
  have hC : firstC (fun k => eachTwoC g [] [d.getD k 0] t e) d.length = outC g d e d.length := firstC_eq fun i hi => (each_spread (outer_num h1 hi) h2 h3).1
  rw [hC]
  by_cases h0 : outC g d e d.length = 0
  · rw [h0, mkR_good, mkR_good]
    have hz := firstC_all h0
    have : (List.range d.length).flatMap (fun k => eachTwoD g [] [d.getD k 0] t e) = outD g d e d.length := by
      unfold outD
      apply flat_congr
      intro i hi
      rw [(each_spread (outer_num h1 hi) h2 h3).2.2, if_pos (hz i hi)]
    rw [this]
  · rw [mkR_bad h0, mkR_bad h0]
theorem outer_len {g : Int} {s d t e : List Int} (h : outerC g s d t e = 0) : (s ++ t).length ≤ 1048576 ∧ (outD g d e d.length).length ≤ 1048576 := by
  unfold outerC at h
  by_cases ho : arrOk s d = true ∧ arrOk t e = true ∧ sign2 g = true
  · have h1 := (sizeV_ok (arrOk_shape ho.1)).1
    have h2 := (sizeV_ok (arrOk_shape ho.2.1)).1
    have h3 := arrOk_len ho.1
    have h4 := arrOk_len ho.2.1
    have h5 : d.length * e.length ≤ 300 * 300 := Nat.mul_le_mul (by omega) (by omega)
    refine ⟨by rw [List.length_append]; omega, by rw [outD_len]; omega⟩
  · rw [if_neg ho] at h; cases h
end Go.Proofs.YtnkacfgbkfkhdaaGreat
namespace Go.Proofs.YtnkacfgbkfkhdaaGreat
set_option linter.unusedVariables false
/-- Row i of so many numbers, column j of so many among so many. -/
def rowV (d : List Int) (n i : Nat) : List Int := (d.drop (i * n)).take n
def colV (e : List Int) (n wide j : Nat) : List Int := (List.range n).map (fun k => e.getD (k * wide + j) 0)
def innerN (t : List Int) : Nat := (t.getD 0 0).toNat
def innerW (t : List Int) : Nat := (sizeV (t.drop 1)).toNat
def innerS (s t : List Int) : List Int := s.take (s.length - 1) ++ t.drop 1
/-- The number at a place, and its code. -/
def innerK (f g : Int) (d t e : List Int) (k : Nat) : Int × Int := cellR f g (rowV d (innerN t) (k / innerW t)) (colV e (innerN t) (innerW t) (k % innerW t)) (innerN t)
def innerC (f g : Int) (s d t e : List Int) : Int :=
  if arrOk s d = true ∧ arrOk t e = true ∧ sign2 f = true ∧ sign2 g = true then
    (if (s.length = 1 ∨ s.length = 2) ∧ (t.length = 1 ∨ t.length = 2) then
      (if s.getD (s.length - 1) 0 ≠ t.getD 0 0 then 3 else if sizeV (innerS s t) < 0 then 6 else firstC (fun k => (innerK f g d t e k).2) (sizeV (innerS s t)).toNat)
    else 4)
  else 1
def innerR (f g : Int) (s d t e : List Int) : Int × List Int × List Int := mkR (innerC f g s d t e) (innerS s t) ((List.range (sizeV (innerS s t)).toNat).map (fun k => (innerK f g d t e k).1))
theorem innerR_bad {f g : Int} {s d t e : List Int} (h : ¬ (arrOk s d = true ∧ arrOk t e = true ∧ sign2 f = true ∧ sign2 g = true)) : innerR f g s d t e = (1, [], []) := by
  unfold innerR; rw [show innerC f g s d t e = 1 from by unfold innerC; rw [if_neg h]]; rfl
theorem innerR_told {f g : Int} {s d t e : List Int} (h : arrOk s d = true ∧ arrOk t e = true ∧ sign2 f = true ∧ sign2 g = true) :
    innerR f g s d t e = if (s.length = 1 ∨ s.length = 2) ∧ (t.length = 1 ∨ t.length = 2) then
      (if s.getD (s.length - 1) 0 ≠ t.getD 0 0 then (3, [], []) else if sizeV (innerS s t) < 0 then (6, [], []) else mkR (firstC (fun k => (innerK f g d t e k).2) (sizeV (innerS s t)).toNat) (innerS s t) ((List.range (sizeV (innerS s t)).toNat).map (fun k => (innerK f g d t e k).1)))
    else (4, [], []) := by
  unfold innerR innerC
  rw [if_pos h]
  split
  · split
    · rfl
    · split <;> rfl
  · rfl
theorem rowV_len (d : List Int) (n i : Nat) (h : i * n + n ≤ d.length) : (rowV d n i).length = n := by unfold rowV; rw [List.length_take, List.length_drop]; omega
theorem colV_len (e : List Int) (n wide j : Nat) : (colV e n wide j).length = n := by simp [colV]
/-- Parts of one number each, where no one has a code. -/
theorem flat_cells {N : Nat} {c : Nat → Int × Int} (h : firstC (fun k => (c k).2) N = 0) : (List.range N).flatMap (fun k => if (c k).2 = 0 then [(c k).1] else []) = (List.range N).map (fun k => (c k).1) := by
  have hz := firstC_all h
  clear h
  induction N with
  | zero => rfl
  | succ N ih =>
    rw [List.range_succ, List.flatMap_append, List.map_append, ih (fun i hi => hz i (by omega))]
    simp [hz N (by omega)]
end Go.Proofs.YtnkacfgbkfkhdaaGreat
namespace Go.Proofs.YtnkacfgbkfkhdaaGreat
set_option linter.unusedVariables false
theorem prod_rev {s : List Int} (h : s.length ≤ 3) : prodV s.reverse = prodV s := by
  rcases len3 h with rfl | ⟨x, rfl⟩ | ⟨x, y, rfl⟩ | ⟨x, y, z, rfl⟩
  · rfl
  · rfl
  · show prodV [y, x] = _
    rw [prod2, prod2, Int.mul_comm]
  · show prodV [z, y, x] = _
    rw [prod3, prod3, Int.mul_comm (z * y) x, Int.mul_comm z y, Int.mul_assoc]
theorem size_rev {s : List Int} (h : 0 ≤ sizeV s) : sizeV s.reverse = sizeV s := by
  obtain ⟨k1, _, _, _⟩ := sizeV_ok h
  unfold sizeV
  rw [List.length_reverse, List.all_reverse, prod_rev k1]
theorem zip_rev {s m : List Int} (h : s.length ≤ 3) (e : m.length = s.length) : s.zip m.reverse = (s.reverse.zip m).reverse := by
  rcases len3 h with rfl | ⟨x, rfl⟩ | ⟨x, y, rfl⟩ | ⟨x, y, z, rfl⟩
  · simp
  · match m, e with
    | [a], _ => rfl
  · match m, e with
    | [a, b], _ => rfl
  · match m, e with
    | [a, b, c], _ => rfl
theorem flip_place {s d : List Int} (ho : arrOk s d = true) (i : Nat) (hi : i < d.length) :
    0 ≤ placeV s (indexV s.reverse (i : Int)).reverse ∧ placeV s (indexV s.reverse (i : Int)).reverse < (d.length : Int) ∧ (indexV s.reverse (i : Int)).length ≤ 1000 := by
  have hs := arrOk_shape ho
  have z := arrOk_size ho
  have r := size_rev hs
  obtain ⟨k1, k2, k3, k4⟩ := sizeV_ok hs
  obtain ⟨q1, q2⟩ := place_of_index (s := s.reverse) (p := (i : Int)) (by omega) (by omega) (by omega)
  have hl := indexV_len s.reverse (i : Int)
  generalize indexV s.reverse (i : Int) = m at *
  rw [List.length_reverse] at q1
  have hin : inOk (s.reverse.zip m) = true := by
    unfold placeV at q2
    by_cases h1 : sizeV s.reverse < 0 ∨ m.length ≠ s.reverse.length
    · rw [if_pos h1] at q2; omega
    · rw [if_neg h1] at q2
      by_cases h2 : inOk (s.reverse.zip m) = true
      · exact h2
      · rw [if_neg h2] at q2; omega
  have hin2 : inOk (s.zip m.reverse) = true := by
    rw [zip_rev k1 q1]
    unfold inOk at hin ⊢
    rw [List.all_reverse]
    exact hin
  have e : placeV s m.reverse = hor (s.zip m.reverse) := by
    unfold placeV
    rw [if_neg (by rw [List.length_reverse]; omega), if_pos hin2]
  obtain ⟨p1, p2⟩ := hor_lt _ hin2
  have ef : (s.zip m.reverse).map Prod.fst = s := by
    rw [List.map_fst_zip]
    rw [List.length_reverse]; omega
  rw [ef] at p2
  rw [e]
  omega
end Go.Proofs.YtnkacfgbkfkhdaaGreat
