/-
  Plain arithmetic of Chapter 6: what Copy answers; no Go in sight.
-/
import Derived.Test.YtbmkfmppcojcgaaMakeM
namespace Go.Proofs.Ytbmkfmppcojcgaa
set_option linter.unusedVariables false
/-- How often row i is told. -/
def often (d : List Int) (i : Nat) : Int := d.getD (i % d.length) 0
def tot (d : List Int) : Nat → Int
  | 0 => 0
  | n + 1 => tot d n + often d n
def copyC (s d t e : List Int) : Int := if arrOk s d = true ∧ arrOk t e = true then (if 1 < s.length ∨ t = [] then 4 else if d.length ≠ 1 ∧ (d.length : Int) ≠ t.getD 0 0 then 3 else if d.any (fun x => decide (x < 0)) = true then 2 else if sizeV (tot d (rowsN t) :: t.drop 1) < 0 then 6 else 0) else 1
/-- The rows of the first numbers, each as often as told. -/
def toldTo (d : List Int) (f : Nat → List Int) : Nat → List Int
  | 0 => []
  | n + 1 => toldTo d f n ++ (List.replicate (often d n).toNat (f n)).flatten
def copyD (d t e : List Int) : List Int := toldTo d (fun i => rowAt t e i) (rowsN t)
def copyR (s d t e : List Int) : Int × List Int × List Int := mkR (copyC s d t e) (tot d (rowsN t) :: t.drop 1) (copyD d t e)
theorem copyR_bad {s d t e : List Int} (h : ¬ (arrOk s d = true ∧ arrOk t e = true)) : copyR s d t e = (1, [], []) := by
  unfold copyR; rw [show copyC s d t e = 1 from by unfold copyC; rw [if_neg h]]; rfl
theorem copyR_told {s d t e : List Int} (h1 : arrOk s d = true) (h2 : arrOk t e = true) :
    copyR s d t e = if 1 < s.length ∨ t = [] then (4, [], []) else if d.length ≠ 1 ∧ (d.length : Int) ≠ t.getD 0 0 then (3, [], []) else if d.any (fun x => decide (x < 0)) = true then (2, [], []) else if sizeV (tot d (rowsN t) :: t.drop 1) < 0 then (6, [], []) else (0, tot d (rowsN t) :: t.drop 1, copyD d t e) := by
  unfold copyR copyC
  rw [if_pos ⟨h1, h2⟩]
  split
  · rfl
  · split
    · rfl
    · split
      · rfl
      · split <;> rfl
theorem often_bd {s d : List Int} (ho : arrOk s d = true) (hn : ∀ j, j < d.length → 0 ≤ d.getD j 0) (i : Nat) : 0 ≤ often d i ∧ often d i ≤ 1000000000000 := by
  unfold often
  by_cases h : i % d.length < d.length
  · have hk : ok (d.getD (i % d.length) 0) = true := by
      unfold arrOk at ho
      rw [Bool.and_eq_true, List.all_eq_true] at ho
      exact ho.2 _ (by simp [h])
    exact ⟨hn _ h, (ok_bd hk).2⟩
  · have e : d.getD (i % d.length) 0 = 0 := by simp [List.getD, List.getElem?_eq_none (show d.length ≤ i % d.length by omega)]
    rw [e]
    omega
theorem tot_bd {s d : List Int} (ho : arrOk s d = true) (hn : ∀ j, j < d.length → 0 ≤ d.getD j 0) (i : Nat) : 0 ≤ tot d i ∧ tot d i ≤ i * 1000000000000 := by
  induction i with
  | zero => exact ⟨Int.le_refl _, by simp [tot]⟩
  | succ i ih =>
    have := often_bd ho hn i
    unfold tot
    push_cast
    omega
theorem tot_mono {s d : List Int} (ho : arrOk s d = true) (hn : ∀ j, j < d.length → 0 ≤ d.getD j 0) {i n : Nat} (h : i ≤ n) : tot d i ≤ tot d n := by
  induction n with
  | zero => obtain rfl : i = 0 := by omega
            exact Int.le_refl _
  | succ n ih =>
    by_cases e : i = n + 1
    · subst e; exact Int.le_refl _
    · have := ih (by omega)
      have := often_bd ho hn n
      show tot d i ≤ tot d n + often d n
      omega
theorem told_len {s d : List Int} (ho : arrOk s d = true) (hn : ∀ j, j < d.length → 0 ≤ d.getD j 0) (f : Nat → List Int) (m : Nat) (hf : ∀ i, (f i).length ≤ m) (i : Nat) : ((toldTo d f i).length : Int) ≤ tot d i * m := by
  induction i with
  | zero => simp [toldTo, tot]
  | succ i ih =>
    have hb := often_bd ho hn i
    unfold toldTo tot
    rw [List.length_append, Int.add_mul]
    have e : ((List.replicate (often d i).toNat (f i)).flatten.length : Int) = often d i * ((f i).length : Int) := by
      rw [List.length_flatten]
      simp
      rw [Int.max_eq_left hb.1]
    have h2 : often d i * ((f i).length : Int) ≤ often d i * (m : Int) := Int.mul_le_mul_of_nonneg_left (by have := hf i; omega) hb.1
    push_cast
    omega
theorem told_ext {d : List Int} {f g : Nat → List Int} {n : Nat} (h : ∀ i, i < n → f i = g i) : toldTo d f n = toldTo d g n := by
  induction n with
  | zero => rfl
  | succ n ih =>
    unfold toldTo
    rw [ih (fun i hi => h i (by omega)), h n (by omega)]
theorem big_shape {x : Int} {u : List Int} (h : 300 < x) : sizeV (x :: u) < 0 := by
  unfold sizeV
  split
  · decide
  · rw [if_neg (by simp [dimOk]; omega)]; decide
end Go.Proofs.Ytbmkfmppcojcgaa
