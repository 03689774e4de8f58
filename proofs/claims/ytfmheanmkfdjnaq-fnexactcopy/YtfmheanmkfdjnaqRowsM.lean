/-
  Plain: the rows of an array, and how long they are.
-/
import Derived.Test.YtfmheanmkfdjnaqLaw3
import Derived.Test.YtfmheanmkfdjnaqArrM
namespace Go.Proofs.Ytfmheanmkfdjnaq
set_option linter.unusedVariables false
/-- The rows of an array, shape and numbers of each in turn. -/
def rowsF (s d : List Int) : List (List Int) := if arrOk s d = true ∧ s ≠ [] then (List.range (s.getD 0 0).toNat).flatMap (fun i => [s.drop 1, (d.drop (i * (sizeV (s.drop 1)).toNat)).take (sizeV (s.drop 1)).toNat]) else []
theorem flat2_length (n : Nat) (f : Nat → List (List Int)) (hf : ∀ i, (f i).length = 2) : ((List.range n).flatMap f).length = 2 * n := by
  induction n with
  | zero => rfl
  | succ n ih => rw [List.range_succ, List.flatMap_append, List.length_append, ih]; simp [hf]; omega
theorem head_bd {s d : List Int} (h : arrOk s d = true) : 0 ≤ s.getD 0 0 ∧ s.getD 0 0 ≤ 300 := by
  obtain ⟨k1, k2, _, _⟩ := sizeV_ok (arrOk_shape h)
  cases s with
  | nil => simp
  | cons x t =>
    simp only [List.all_cons, Bool.and_eq_true] at k2
    simpa using dimOk_bd k2.1
theorem rowsF_length (s d : List Int) : (rowsF s d).length = if arrOk s d = true ∧ s ≠ [] then 2 * (s.getD 0 0).toNat else 0 := by
  unfold rowsF
  split
  · exact flat2_length _ _ (fun i => rfl)
  · rfl
theorem rowsF_len (s d : List Int) : (rowsF s d).length ≤ 600 := by
  rw [rowsF_length]
  split
  · rename_i h
    have := head_bd h.1
    omega
  · omega
theorem rowsF_mem {s d : List Int} {x : List Int} (h : x ∈ rowsF s d) : x.length ≤ 300 := by
  unfold rowsF at h
  split at h
  · rename_i ho
    obtain ⟨i, _, hx⟩ := List.mem_flatMap.1 h
    have h3 := (sizeV_ok (arrOk_shape ho.1)).1
    have h4 := arrOk_len ho.1
    simp at hx
    rcases hx with rfl | rfl
    · simp; omega
    · simp; omega
  · cases h
theorem rowsF_each (s d : List Int) : ∀ j, ((rowsF s d).getD j []).length ≤ 300 := by
  intro j
  by_cases h : j < (rowsF s d).length
  · have e : (rowsF s d).getD j [] = (rowsF s d)[j] := by simp [h]
    rw [e]
    exact rowsF_mem (List.getElem_mem h)
  · have e : (rowsF s d).getD j [] = [] := by simp [List.getD, List.getElem?_eq_none (Nat.le_of_not_lt h)]
    rw [e]; simp
theorem sumTo_bound (F : List (List Int)) (m j : Nat) (h : ∀ j, (F.getD j []).length ≤ m) : sumTo F j ≤ j * m := by
  induction j with
  | zero => simp [sumTo]
  | succ j ih =>
    rw [sumTo_succ, Nat.succ_mul]
    have := h j
    omega
theorem rowsF_sum (s d : List Int) : sumTo (rowsF s d) (rowsF s d).length ≤ 180000 := by
  have h1 := sumTo_bound (rowsF s d) 300 (rowsF s d).length (rowsF_each s d)
  have h2 := rowsF_len s d
  omega
end Go.Proofs.Ytfmheanmkfdjnaq
namespace Go.Proofs.Ytfmheanmkfdjnaq
set_option linter.unusedVariables false
/-- An answer: beside a code that is not 0 the array is the empty one. -/
def mkR (c : Int) (s d : List Int) : Int × List Int × List Int := if c = 0 then (0, s, d) else (c, [], [])
theorem mkR_good (s d : List Int) : mkR 0 s d = (0, s, d) := rfl
theorem mkR_bad {c : Int} (h : c ≠ 0) (s d : List Int) : mkR c s d = (c, [], []) := by unfold mkR; rw [if_neg h]
theorem mkR_code (c : Int) (s d : List Int) : (mkR c s d).1 = c := by
  unfold mkR
  split
  · rename_i h; exact h.symm
  · rfl
theorem mkR_len {c : Int} {s d : List Int} {n m : Nat} (hs : c = 0 → s.length ≤ n) (hd : c = 0 → d.length ≤ m) : (mkR c s d).2.1.length ≤ n ∧ (mkR c s d).2.2.length ≤ m := by
  unfold mkR
  split
  · rename_i h; exact ⟨hs h, hd h⟩
  · simp
/-- The shape of an array, or that of the vector of it where it is of rank 0. -/
def vecS (s d : List Int) : List Int := if s = [] then [(d.length : Int)] else s
/-- How many numbers a row has; how many rows there are; one of them. -/
def rowN (s : List Int) : Nat := (sizeV (s.drop 1)).toNat
def rowsN (s : List Int) : Nat := (s.getD 0 0).toNat
def rowAt (s d : List Int) (i : Nat) : List Int := (d.drop (i * rowN s)).take (rowN s)
def okC (s d : List Int) : Int := if arrOk s d = true then 0 else 1
def oneC (s d t e : List Int) : Int := if arrOk s d = true ∧ arrOk t e = true then (if d.length ≠ 1 then 3 else 0) else 1
def iotaC (s d : List Int) : Int := if arrOk s d = true then (if d.length ≠ 1 then 3 else if d.getD 0 0 < 0 then 2 else if 300 < d.getD 0 0 then 6 else 0) else 1
def iotaR (s d : List Int) : Int × List Int × List Int := mkR (iotaC s d) [d.getD 0 0] ((List.range (d.getD 0 0).toNat).map (fun (i : Nat) => (i : Int)))
def shapeOfR (s d : List Int) : Int × List Int × List Int := mkR (okC s d) [(s.length : Int)] s
def ravelR (s d : List Int) : Int × List Int × List Int := mkR (okC s d) [(d.length : Int)] d
def reshapeC (s d t e : List Int) : Int := if arrOk s d = true ∧ arrOk t e = true then (if 1 < s.length then 4 else if d.any (fun x => decide (x < 0)) = true then 2 else if sizeV d < 0 then 6 else 0) else 1
def againD (e : List Int) (n : Nat) : List Int := (List.range n).map (fun i => if e = [] then 0 else e.getD (i % e.length) 0)
def reshapeR (s d t e : List Int) : Int × List Int × List Int := mkR (reshapeC s d t e) d (againD e (sizeV d).toNat)
def joinS (s d t e : List Int) : List Int := ((vecS s d).getD 0 0 + (vecS t e).getD 0 0) :: (vecS s d).drop 1
def joinC (s d t e : List Int) : Int := if arrOk s d = true ∧ arrOk t e = true then (if (vecS s d).length ≠ (vecS t e).length then 4 else if (vecS s d).drop 1 ≠ (vecS t e).drop 1 then 3 else if arrOk (joinS s d t e) (d ++ e) = true then 0 else 6) else 1
def joinR (s d t e : List Int) : Int × List Int × List Int := mkR (joinC s d t e) (joinS s d t e) (d ++ e)
def turnD (s d : List Int) : List Int := if s = [] then d else (List.range (rowsN s)).flatMap (fun i => rowAt s d (rowsN s - 1 - i))
def turnR (s d : List Int) : Int × List Int × List Int := mkR (okC s d) s (turnD s d)
def rotateBy (x : Int) (n : Nat) : Nat := (x % (n : Int)).toNat
def rotateD (x : Int) (t e : List Int) : List Int := if t = [] ∨ t.getD 0 0 = 0 then e else (List.range (rowsN t)).flatMap (fun i => rowAt t e ((i + rotateBy x (rowsN t)) % rowsN t))
def rotateR (s d t e : List Int) : Int × List Int × List Int := mkR (oneC s d t e) t (rotateD (d.getD 0 0) t e)
def flipD (s d : List Int) : List Int := (List.range d.length).map (fun (i : Nat) => d.getD (placeV s (indexV s.reverse (i : Int)).reverse).toNat 0)
def flipR (s d : List Int) : Int × List Int × List Int := mkR (okC s d) s.reverse (flipD s d)
/-- How many rows are asked for. -/
def manyV (x : Int) : Int := if x > 0 - x then x else 0 - x
def takeS (x : Int) (t e : List Int) : List Int := manyV x :: (vecS t e).drop 1
def takeC (s d t e : List Int) : Int := if arrOk s d = true ∧ arrOk t e = true then (if d.length ≠ 1 then 3 else if 0 ≤ sizeV (takeS (d.getD 0 0) t e) then 0 else 6) else 1
def haveN (x : Int) (t e : List Int) : Nat := min (manyV x).toNat (rowsN (vecS t e))
def takeD (x : Int) (t e : List Int) : List Int :=
  if 0 ≤ x then e.take (haveN x t e * rowN (vecS t e)) ++ List.replicate (((manyV x).toNat - haveN x t e) * rowN (vecS t e)) 0
  else List.replicate (((manyV x).toNat - haveN x t e) * rowN (vecS t e)) 0 ++ e.drop ((rowsN (vecS t e) - haveN x t e) * rowN (vecS t e))
def takeR (s d t e : List Int) : Int × List Int × List Int := mkR (takeC s d t e) (takeS (d.getD 0 0) t e) (takeD (d.getD 0 0) t e)
def dropS (x : Int) (t e : List Int) : List Int := (((rowsN (vecS t e) - haveN x t e : Nat)) : Int) :: (vecS t e).drop 1
def dropD (x : Int) (t e : List Int) : List Int := if 0 ≤ x then e.drop (haveN x t e * rowN (vecS t e)) else e.take ((rowsN (vecS t e) - haveN x t e) * rowN (vecS t e))
def dropR (s d t e : List Int) : Int × List Int × List Int := mkR (oneC s d t e) (dropS (d.getD 0 0) t e) (dropD (d.getD 0 0) t e)
end Go.Proofs.Ytfmheanmkfdjnaq
namespace Go.Proofs.Ytfmheanmkfdjnaq
set_option linter.unusedVariables false
/-- How often row i is told. -/
def often (d : List Int) (i : Nat) : Int := d.getD (i % d.length) 0
def tot (d : List Int) : Nat → Int
  | 0 => 0
  | n + 1 => tot d n + often d n
def copyC (s d t e : List Int) : Int := if arrOk s d = true ∧ arrOk t e = true then (if 1 < s.length ∨ t = [] then 4 else if d.length ≠ 1 ∧ (d.length : Int) ≠ t.getD 0 0 then 3 else if d.any (fun x => decide (x < 0)) = true then 2 else if sizeV (tot d (rowsN t) :: t.drop 1) < 0 then 6 else 0) else 1
/-- The rows of the first numbers, each as often as told. -/
def toldTo (d : List Int) (f : Nat → List Int) : Nat → List Int
  | 0 => []
  | n + 1 => toldTo d f n ++ (List.replicate (often d n).toNat (f n)).flatten
def copyD (d t e : List Int) : List Int := toldTo d (fun i => rowAt t e i) (rowsN t)
def copyR (s d t e : List Int) : Int × List Int × List Int := mkR (copyC s d t e) (tot d (rowsN t) :: t.drop 1) (copyD d t e)
theorem copyR_bad {s d t e : List Int} (h : ¬ (arrOk s d = true ∧ arrOk t e = true)) : copyR s d t e = (1, [], []) := by
  unfold copyR; rw [show copyC s d t e = 1 from by unfold copyC; rw [if_neg h]]; rfl
theorem copyR_told {s d t e : List Int} (h1 : arrOk s d = true) (h2 : arrOk t e = true) :
    copyR s d t e = if 1 < s.length ∨ t = [] then (4, [], []) else if d.length ≠ 1 ∧ (d.length : Int) ≠ t.getD 0 0 then (3, [], []) else if d.any (fun x => decide (x < 0)) = true then (2, [], []) else if sizeV (tot d (rowsN t) :: t.drop 1) < 0 then (6, [], []) else (0, tot d (rowsN t) :: t.drop 1, copyD d t e) := by
  unfold copyR copyC
  rw [if_pos ⟨h1, h2⟩]
  split
  · rfl
  · split
    · rfl
    · split
      · rfl
      · split <;> rfl
theorem often_bd {s d : List Int} (ho : arrOk s d = true) (hn : ∀ j, j < d.length → 0 ≤ d.getD j 0) (i : Nat) : 0 ≤ often d i ∧ often d i ≤ 1000000000000 := by
  unfold often
  by_cases h : i % d.length < d.length
  · have hk : ok (d.getD (i % d.length) 0) = true := by
      unfold arrOk at ho
      rw [Bool.and_eq_true, List.all_eq_true] at ho
      exact ho.2 _ (by simp [h])
    exact ⟨hn _ h, (ok_bd hk).2⟩
  · have e : d.getD (i % d.length) 0 = 0 := by simp [List.getD, List.getElem?_eq_none (show d.length ≤ i % d.length by omega)]
    rw [e]
    omega
theorem tot_bd {s d : List Int} (ho : arrOk s d = true) (hn : ∀ j, j < d.length → 0 ≤ d.getD j 0) (i : Nat) : 0 ≤ tot d i ∧ tot d i ≤ i * 1000000000000 := by
  induction i with
  | zero => exact ⟨Int.le_refl _, by simp [tot]⟩
  | succ i ih =>
    have := often_bd ho hn i
    unfold tot
    push_cast
    omega
theorem tot_mono {s d : List Int} (ho : arrOk s d = true) (hn : ∀ j, j < d.length → 0 ≤ d.getD j 0) {i n : Nat} (h : i ≤ n) : tot d i ≤ tot d n := by
  induction n with
  | zero => obtain rfl : i = 0 := by omega
            exact Int.le_refl _
  | succ n ih =>
    by_cases e : i = n + 1
    · subst e; exact Int.le_refl _
    · have := ih (by omega)
      have := often_bd ho hn n
      show tot d i ≤ tot d n + often d n
      omega
theorem told_len {s d : List Int} (ho : arrOk s d = true) (hn : ∀ j, j < d.length → 0 ≤ d.getD j 0) (f : Nat → List Int) (m : Nat) (hf : ∀ i, (f i).length ≤ m) (i : Nat) : ((toldTo d f i).length : Int) ≤ tot d i * m := by
  induction i with
  | zero => simp [toldTo, tot]
  | succ i ih =>
    have hb := often_bd ho hn i
    unfold toldTo tot
    rw [List.length_append, Int.add_mul]
    have e : ((List.replicate (often d i).toNat (f i)).flatten.length : Int) = often d i * ((f i).length : Int) := by
      rw [List.length_flatten]
      simp
      rw [Int.max_eq_left hb.1]
    have h2 : often d i * ((f i).length : Int) ≤ often d i * (m : Int) := Int.mul_le_mul_of_nonneg_left (by have := hf i; omega) hb.1
    push_cast
    omega
theorem told_ext {d : List Int} {f g : Nat → List Int} {n : Nat} (h : ∀ i, i < n → f i = g i) : toldTo d f n = toldTo d g n := by
  induction n with
  | zero => rfl
  | succ n ih =>
    unfold toldTo
    rw [ih (fun i hi => h i (by omega)), h n (by omega)]
theorem big_shape {x : Int} {u : List Int} (h : 300 < x) : sizeV (x :: u) < 0 := by
  unfold sizeV
  split
  · decide
  · rw [if_neg (by simp [dimOk]; omega)]; decide
end Go.Proofs.Ytfmheanmkfdjnaq
