/-
  Plain: the rows of an array, and how long they are.
-/
import Derived.Test.YtfmheanmkfdjnaiLaw3
import Derived.Test.YtfmheanmkfdjnaiArrM
namespace Go.Proofs.Ytfmheanmkfdjnai
set_option linter.unusedVariables false
/-- The rows of an array, shape and numbers of each in turn. -/
def rowsF (s d : List Int) : List (List Int) := if arrOk s d = true ∧ s ≠ [] then (List.range (s.getD 0 0).toNat).flatMap (fun i => [s.drop 1, (d.drop (i * (sizeV (s.drop 1)).toNat)).take (sizeV (s.drop 1)).toNat]) else []
theorem flat2_length (n : Nat) (f : Nat → List (List Int)) (hf : ∀ i, (f i).length = 2) : ((List.range n).flatMap f).length = 2 * n := by
  induction n with
  | zero => rfl
  | succ n ih => rw [List.range_succ, List.flatMap_append, List.length_append, ih]; simp [hf]; omega
theorem head_bd {s d : List Int} (h : arrOk s d = true) : 0 ≤ s.getD 0 0 ∧ s.getD 0 0 ≤ 300 := by
  obtain ⟨k1, k2, _, _⟩ := sizeV_ok (arrOk_shape h)
  cases s with
  | nil => simp
  | cons x t =>
    simp only [List.all_cons, Bool.and_eq_true] at k2
    simpa using dimOk_bd k2.1
theorem rowsF_length (s d : List Int) : (rowsF s d).length = if arrOk s d = true ∧ s ≠ [] then 2 * (s.getD 0 0).toNat else 0 := by
  unfold rowsF
  split
  · exact flat2_length _ _ (fun i => rfl)
  · rfl
theorem rowsF_len (s d : List Int) : (rowsF s d).length ≤ 600 := by
  rw [rowsF_length]
  split
  · rename_i h
    have := head_bd h.1
    omega
  · omega
theorem rowsF_mem {s d : List Int} {x : List Int} (h : x ∈ rowsF s d) : x.length ≤ 300 := by
  unfold rowsF at h
  split at h
  · rename_i ho
    obtain ⟨i, _, hx⟩ := List.mem_flatMap.1 h
    have h3 := (sizeV_ok (arrOk_shape ho.1)).1
    have h4 := arrOk_len ho.1
    simp at hx
    rcases hx with rfl | rfl
    · simp; omega
    · simp; omega
  · cases h
theorem rowsF_each (s d : List Int) : ∀ j, ((rowsF s d).getD j []).length ≤ 300 := by
  intro j
  by_cases h : j < (rowsF s d).length
  · have e : (rowsF s d).getD j [] = (rowsF s d)[j] := by simp [h]
    rw [e]
    exact rowsF_mem (List.getElem_mem h)
  · have e : (rowsF s d).getD j [] = [] := by simp [List.getD, List.getElem?_eq_none (Nat.le_of_not_lt h)]
    rw [e]; simp
theorem sumTo_bound (F : List (List Int)) (m j : Nat) (h : ∀ j, (F.getD j []).length ≤ m) : sumTo F j ≤ j * m := by
  induction j with
  | zero => simp [sumTo]
  | succ j ih =>
    rw [sumTo_succ, Nat.succ_mul]
    have := h j
    omega
theorem rowsF_sum (s d : List Int) : sumTo (rowsF s d) (rowsF s d).length ≤ 180000 := by
  have h1 := sumTo_bound (rowsF s d) 300 (rowsF s d).length (rowsF_each s d)
  have h2 := rowsF_len s d
  omega
end Go.Proofs.Ytfmheanmkfdjnai
namespace Go.Proofs.Ytfmheanmkfdjnai
set_option linter.unusedVariables false
/-- An answer: beside a code that is not 0 the array is the empty one. -/
def mkR (c : Int) (s d : List Int) : Int × List Int × List Int := if c = 0 then (0, s, d) else (c, [], [])
theorem mkR_good (s d : List Int) : mkR 0 s d = (0, s, d) := rfl
theorem mkR_bad {c : Int} (h : c ≠ 0) (s d : List Int) : mkR c s d = (c, [], []) := by unfold mkR; rw [if_neg h]
theorem mkR_code (c : Int) (s d : List Int) : (mkR c s d).1 = c := by
  unfold mkR
  split
  · rename_i h; exact h.symm
  · rfl
theorem mkR_len {c : Int} {s d : List Int} {n m : Nat} (hs : c = 0 → s.length ≤ n) (hd : c = 0 → d.length ≤ m) : (mkR c s d).2.1.length ≤ n ∧ (mkR c s d).2.2.length ≤ m := by
  unfold mkR
  split
  · rename_i h; exact ⟨hs h, hd h⟩
  · simp
/-- The shape of an array, or that of the vector of it where it is of rank 0. -/
def vecS (s d : List Int) : List Int := if s = [] then [(d.length : Int)] else s
/-- How many numbers a row has; how many rows there are; one of them. -/
def rowN (s : List Int) : Nat := (sizeV (s.drop 1)).toNat
def rowsN (s : List Int) : Nat := (s.getD 0 0).toNat
def rowAt (s d : List Int) (i : Nat) : List Int := (d.drop (i * rowN s)).take (rowN s)
def okC (s d : List Int) : Int := if arrOk s d = true then 0 else 1
def oneC (s d t e : List Int) : Int := if arrOk s d = true ∧ arrOk t e = true then (if d.length ≠ 1 then 3 else 0) else 1
def iotaC (s d : List Int) : Int := if arrOk s d = true then (if d.length ≠ 1 then 3 else if d.getD 0 0 < 0 then 2 else if 300 < d.getD 0 0 then 6 else 0) else 1
def iotaR (s d : List Int) : Int × List Int × List Int := mkR (iotaC s d) [d.getD 0 0] ((List.range (d.getD 0 0).toNat).map (fun (i : Nat) => (i : Int)))
def shapeOfR (s d : List Int) : Int × List Int × List Int := mkR (okC s d) [(s.length : Int)] s
def ravelR (s d : List Int) : Int × List Int × List Int := mkR (okC s d) [(d.length : Int)] d
def reshapeC (s d t e : List Int) : Int := if arrOk s d = true ∧ arrOk t e = true then (if 1 < s.length then 4 else if d.any (fun x => decide (x < 0)) = true then 2 else if sizeV d < 0 then 6 else 0) else 1
def againD (e : List Int) (n : Nat) : List Int := (List.range n).map (fun i => if e = [] then 0 else e.getD (i % e.length) 0)
def reshapeR (s d t e : List Int) : Int × List Int × List Int := mkR (reshapeC s d t e) d (againD e (sizeV d).toNat)
def joinS (s d t e : List Int) : List Int := ((vecS s d).getD 0 0 + (vecS t e).getD 0 0) :: (vecS s d).drop 1
def joinC (s d t e : List Int) : Int := if arrOk s d = true ∧ arrOk t e = true then (if (vecS s d).length ≠ (vecS t e).length then 4 else if (vecS s d).drop 1 ≠ (vecS t e).drop 1 then 3 else if arrOk (joinS s d t e) (d ++ e) = true then 0 else 6) else 1
def joinR (s d t e : List Int) : Int × List Int × List Int := mkR (joinC s d t e) (joinS s d t e) (d ++ e)
def turnD (s d : List Int) : List Int := if s = [] then d else (List.range (rowsN s)).flatMap (fun i => rowAt s d (rowsN s - 1 - i))
def turnR (s d : List Int) : Int × List Int × List Int := mkR (okC s d) s (turnD s d)
def rotateBy (x : Int) (n : Nat) : Nat := (x % (n : Int)).toNat
def rotateD (x : Int) (t e : List Int) : List Int := if t = [] ∨ t.getD 0 0 = 0 then e else (List.range (rowsN t)).flatMap (fun i => rowAt t e ((i + rotateBy x (rowsN t)) % rowsN t))
def rotateR (s d t e : List Int) : Int × List Int × List Int := mkR (oneC s d t e) t (rotateD (d.getD 0 0) t e)
def flipD (s d : List Int) : List Int := (List.range d.length).map (fun (i : Nat) => d.getD (placeV s (indexV s.reverse (i : Int)).reverse).toNat 0)
def flipR (s d : List Int) : Int × List Int × List Int := mkR (okC s d) s.reverse (flipD s d)
/-- How many rows are asked for. -/
def manyV (x : Int) : Int := if x > 0 - x then x else 0 - x
def takeS (x : Int) (t e : List Int) : List Int := manyV x :: (vecS t e).drop 1
def takeC (s d t e : List Int) : Int := if arrOk s d = true ∧ arrOk t e = true then (if d.length ≠ 1 then 3 else if 0 ≤ sizeV (takeS (d.getD 0 0) t e) then 0 else 6) else 1
def haveN (x : Int) (t e : List Int) : Nat := min (manyV x).toNat (rowsN (vecS t e))
def takeD (x : Int) (t e : List Int) : List Int :=
  if 0 ≤ x then e.take (haveN x t e * rowN (vecS t e)) ++ List.replicate (((manyV x).toNat - haveN x t e) * rowN (vecS t e)) 0
  else List.replicate (((manyV x).toNat - haveN x t e) * rowN (vecS t e)) 0 ++ e.drop ((rowsN (vecS t e) - haveN x t e) * rowN (vecS t e))
def takeR (s d t e : List Int) : Int × List Int × List Int := mkR (takeC s d t e) (takeS (d.getD 0 0) t e) (takeD (d.getD 0 0) t e)
def dropS (x : Int) (t e : List Int) : List Int := (((rowsN (vecS t e) - haveN x t e : Nat)) : Int) :: (vecS t e).drop 1
def dropD (x : Int) (t e : List Int) : List Int := if 0 ≤ x then e.drop (haveN x t e * rowN (vecS t e)) else e.take ((rowsN (vecS t e) - haveN x t e) * rowN (vecS t e))
def dropR (s d t e : List Int) : Int × List Int × List Int := mkR (oneC s d t e) (dropS (d.getD 0 0) t e) (dropD (d.getD 0 0) t e)
end Go.Proofs.Ytfmheanmkfdjnai
namespace Go.Proofs.Ytfmheanmkfdjnai
set_option linter.unusedVariables false
theorem prod_rev {s : List Int} (h : s.length ≤ 3) : prodV s.reverse = prodV s := by
  rcases len3 h with rfl | ⟨x, rfl⟩ | ⟨x, y, rfl⟩ | ⟨x, y, z, rfl⟩
  · rfl
  · rfl
  · show prodV [y, x] = _
    rw [prod2, prod2, Int.mul_comm]
  · show prodV [z, y, x] = _
    rw [prod3, prod3, Int.mul_comm (z * y) x, Int.mul_comm z y, Int.mul_assoc]
theorem size_rev {s : List Int} (h : 0 ≤ sizeV s) : sizeV s.reverse = sizeV s := by
  obtain ⟨k1, _, _, _⟩ := sizeV_ok h
  unfold sizeV
  rw [List.length_reverse, List.all_reverse, prod_rev k1]
theorem zip_rev {s m : List Int} (h : s.length ≤ 3) (e : m.length = s.length) : s.zip m.reverse = (s.reverse.zip m).reverse := by
  rcases len3 h with rfl | ⟨x, rfl⟩ | ⟨x, y, rfl⟩ | ⟨x, y, z, rfl⟩
  · simp
  · match m, e with
    | [a], _ => rfl
  · match m, e with
    | [a, b], _ => rfl
  · match m, e with
    | [a, b, c], _ => rfl
theorem flip_place {s d : List Int} (ho : arrOk s d = true) (i : Nat) (hi : i < d.length) :
    0 ≤ placeV s (indexV s.reverse (i : Int)).reverse ∧ placeV s (indexV s.reverse (i : Int)).reverse < (d.length : Int) ∧ (indexV s.reverse (i : Int)).length ≤ 1000 := by
  have hs := arrOk_shape ho
  have z := arrOk_size ho
  have r := size_rev hs
  obtain ⟨k1, k2, k3, k4⟩ := sizeV_ok hs
  obtain ⟨q1, q2⟩ := place_of_index (s := s.reverse) (p := (i : Int)) (by omega) (by omega) (by omega)
  have hl := indexV_len s.reverse (i : Int)
  generalize indexV s.reverse (i : Int) = m at *
  rw [List.length_reverse] at q1
  have hin : inOk (s.reverse.zip m) = true := by
    unfold placeV at q2
    by_cases h1 : sizeV s.reverse < 0 ∨ m.length ≠ s.reverse.length
    · rw [if_pos h1] at q2; omega
    · rw [if_neg h1] at q2
      by_cases h2 : inOk (s.reverse.zip m) = true
      · exact h2
      · rw [if_neg h2] at q2; omega
  have hin2 : inOk (s.zip m.reverse) = true := by
    rw [zip_rev k1 q1]
    unfold inOk at hin ⊢
    rw [List.all_reverse]
    exact hin
  have e : placeV s m.reverse = hor (s.zip m.reverse) := by
    unfold placeV
    rw [if_neg (by rw [List.length_reverse]; omega), if_pos hin2]
  obtain ⟨p1, p2⟩ := hor_lt _ hin2
  have ef : (s.zip m.reverse).map Prod.fst = s := by
    rw [List.map_fst_zip]
    rw [List.length_reverse]; omega
  rw [ef] at p2
  rw [e]
  omega
end Go.Proofs.Ytfmheanmkfdjnai
namespace Go.Proofs.Ytfmheanmkfdjnai
set_option linter.unusedVariables false
/-- The number of a row, counted from the end where it is below nought. -/
def rowNo (n x : Int) : Nat := ((x + n) % n).toNat
def noRow (n x : Int) : Bool := decide (x < -n) || decide (n ≤ x)
def pickS (s t : List Int) : List Int := s ++ t.drop 1
def pickC (s d t e : List Int) : Int := if arrOk s d = true ∧ arrOk t e = true then (if t = [] ∨ 4 < s.length + t.length then 4 else if d.any (noRow (t.getD 0 0)) = true then 5 else if sizeV (pickS s t) < 0 then 6 else 0) else 1
def pickD (d t e : List Int) : List Int := (List.range d.length).flatMap (fun i => rowAt t e (rowNo (t.getD 0 0) (d.getD i 0)))
def pickR (s d t e : List Int) : Int × List Int × List Int := mkR (pickC s d t e) (pickS s t) (pickD d t e)
theorem pickR_bad {s d t e : List Int} (h : ¬ (arrOk s d = true ∧ arrOk t e = true)) : pickR s d t e = (1, [], []) := by
  unfold pickR; rw [show pickC s d t e = 1 from by unfold pickC; rw [if_neg h]]; rfl
theorem pickR_told {s d t e : List Int} (h1 : arrOk s d = true) (h2 : arrOk t e = true) :
    pickR s d t e = if t = [] ∨ 4 < s.length + t.length then (4, [], []) else if d.any (noRow (t.getD 0 0)) = true then (5, [], []) else if sizeV (pickS s t) < 0 then (6, [], []) else (0, pickS s t, pickD d t e) := by
  unfold pickR pickC
  rw [if_pos ⟨h1, h2⟩]
  split
  · rfl
  · split
    · rfl
    · split <;> rfl
theorem noRow_false {n x : Int} : noRow n x = false ↔ -n ≤ x ∧ x < n := by
  unfold noRow; simp
/-- Where the row is there: its number, by either end. -/
theorem rowNo_bd {n x : Int} (h : noRow n x = false) : rowNo n x < n.toNat ∧ (rowNo n x : Int) = if x < 0 then n + x else x := by
  obtain ⟨h1, h2⟩ := noRow_false.1 h
  unfold rowNo
  by_cases hx : x < 0
  · rw [if_pos hx, Int.emod_eq_of_lt (by omega) (by omega)]
    omega
  · rw [if_neg hx, Int.add_emod_right, Int.emod_eq_of_lt (by omega) h2]
    omega
/-- Go's remainder at such a number. -/
theorem rowNo_tmod {n x : Int} (h : noRow n x = false) : Int.tmod (x + n) n = (rowNo n x : Int) := by
  obtain ⟨h1, h2⟩ := noRow_false.1 h
  unfold rowNo
  rw [Int.tmod_eq_emod_of_nonneg (by omega), Int.toNat_of_nonneg (Int.emod_nonneg _ (by omega))]
end Go.Proofs.Ytfmheanmkfdjnai
