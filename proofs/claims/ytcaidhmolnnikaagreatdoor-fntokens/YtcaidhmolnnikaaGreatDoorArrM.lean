/-
  Plain arithmetic of Chapter 3 (arrays); no Go in sight.
-/
import Derived.Test.YtcaidhmolnnikaaGreatDoorMath
import Derived.Test.YtcaidhmolnnikaaGreatDoorShapeP
namespace Go.Proofs.YtcaidhmolnnikaaGreatDoor
/-- What ArrayOk answers. -/
def arrOk (s d : List Int) : Bool := decide (sizeV s = d.length) && d.all ok
theorem arrOk_size {s d : List Int} (h : arrOk s d = true) : sizeV s = d.length := by
  simp only [arrOk, Bool.and_eq_true, decide_eq_true_eq] at h; exact h.1
theorem arrOk_len {s d : List Int} (h : arrOk s d = true) : d.length ≤ 300 := by
  have := arrOk_size h
  have := sizeV_bd s
  omega
theorem arrOk_shape {s d : List Int} (h : arrOk s d = true) : 0 ≤ sizeV s := by
  have := arrOk_size h
  omega
theorem all_snocN (l : List Int) (x : Int) (p : Int → Bool) : (l ++ [x]).all p = (l.all p && p x) := by simp
/-- What NumAt answers. -/
def numAtOk (s d i : List Int) : Bool := arrOk s d && decide (0 ≤ placeV s i)
def numAtV (s d i : List Int) : Int := if numAtOk s d i = true then d.getD (placeV s i).toNat 0 else 0
theorem placeV_lt {s i : List Int} (h : 0 ≤ placeV s i) : placeV s i < sizeV s := by
  unfold placeV at h ⊢
  by_cases h1 : sizeV s < 0 ∨ i.length ≠ s.length
  · rw [if_pos h1] at h; omega
  · rw [if_neg h1] at h ⊢
    by_cases h2 : inOk (s.zip i) = true
    · rw [if_pos h2] at h ⊢
      have b := hor_lt _ h2
      rw [List.map_fst_zip (by omega), ← (sizeV_ok (by omega)).2.2.2] at b
      omega
    · rw [if_neg h2] at h; omega
theorem numAt_bad {s d i : List Int} (h : numAtOk s d i = false) : numAtV s d i = 0 := by unfold numAtV; rw [if_neg (by rw [h]; decide)]
theorem numAt_good {s d i : List Int} (h : numAtOk s d i = true) : numAtV s d i = d.getD (placeV s i).toNat 0 := by unfold numAtV; rw [if_pos h]
theorem sizeV_0' : sizeV [] = 1 := by simp [sizeV, prodV]
end Go.Proofs.YtcaidhmolnnikaaGreatDoor
