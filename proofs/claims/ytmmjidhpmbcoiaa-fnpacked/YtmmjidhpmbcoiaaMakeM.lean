/-
  Plain arithmetic of Chapter 5 (making arrays): what each function answers, as a code, a shape and numbers; no Go in sight.
-/
import Derived.Test.YtmmjidhpmbcoiaaRowsM
namespace Go.Proofs.Ytmmjidhpmbcoiaa
set_option linter.unusedVariables false
/-- An answer: beside a code that is not 0 the array is the empty one. -/
def mkR (c : Int) (s d : List Int) : Int × List Int × List Int := if c = 0 then (0, s, d) else (c, [], [])
theorem mkR_good (s d : List Int) : mkR 0 s d = (0, s, d) := rfl
theorem mkR_bad {c : Int} (h : c ≠ 0) (s d : List Int) : mkR c s d = (c, [], []) := by unfold mkR; rw [if_neg h]
theorem mkR_code (c : Int) (s d : List Int) : (mkR c s d).1 = c := by
  unfold mkR
  split
  · rename_i h; exact h.symm
  · rfl
theorem mkR_len {c : Int} {s d : List Int} {n m : Nat} (hs : c = 0 → s.length ≤ n) (hd : c = 0 → d.length ≤ m) : (mkR c s d).2.1.length ≤ n ∧ (mkR c s d).2.2.length ≤ m := by
  unfold mkR
  split
  · rename_i h; exact ⟨hs h, hd h⟩
  · simp
/-- The shape of an array, or that of the vector of it where it is of rank 0. -/
def vecS (s d : List Int) : List Int := if s = [] then [(d.length : Int)] else s
/-- How many numbers a row has; how many rows there are; one of them. -/
def rowN (s : List Int) : Nat := (sizeV (s.drop 1)).toNat
def rowsN (s : List Int) : Nat := (s.getD 0 0).toNat
def rowAt (s d : List Int) (i : Nat) : List Int := (d.drop (i * rowN s)).take (rowN s)
def okC (s d : List Int) : Int := if arrOk s d = true then 0 else 1
def oneC (s d t e : List Int) : Int := if arrOk s d = true ∧ arrOk t e = true then (if d.length ≠ 1 then 3 else 0) else 1
def iotaC (s d : List Int) : Int := if arrOk s d = true then (if d.length ≠ 1 then 3 else if d.getD 0 0 < 0 then 2 else if 300 < d.getD 0 0 then 6 else 0) else 1
def iotaR (s d : List Int) : Int × List Int × List Int := mkR (iotaC s d) [d.getD 0 0] ((List.range (d.getD 0 0).toNat).map (fun (i : Nat) => (i : Int)))
def shapeOfR (s d : List Int) : Int × List Int × List Int := mkR (okC s d) [(s.length : Int)] s
def ravelR (s d : List Int) : Int × List Int × List Int := mkR (okC s d) [(d.length : Int)] d
def reshapeC (s d t e : List Int) : Int := if arrOk s d = true ∧ arrOk t e = true then (if 1 < s.length then 4 else if d.any (fun x => decide (x < 0)) = true then 2 else if sizeV d < 0 then 6 else 0) else 1
def againD (e : List Int) (n : Nat) : List Int := (List.range n).map (fun i => if e = [] then 0 else e.getD (i % e.length) 0)
def reshapeR (s d t e : List Int) : Int × List Int × List Int := mkR (reshapeC s d t e) d (againD e (sizeV d).toNat)
def joinS (s d t e : List Int) : List Int := ((vecS s d).getD 0 0 + (vecS t e).getD 0 0) :: (vecS s d).drop 1
def joinC (s d t e : List Int) : Int := if arrOk s d = true ∧ arrOk t e = true then (if (vecS s d).length ≠ (vecS t e).length then 4 else if (vecS s d).drop 1 ≠ (vecS t e).drop 1 then 3 else if arrOk (joinS s d t e) (d ++ e) = true then 0 else 6) else 1
def joinR (s d t e : List Int) : Int × List Int × List Int := mkR (joinC s d t e) (joinS s d t e) (d ++ e)
def turnD (s d : List Int) : List Int := if s = [] then d else (List.range (rowsN s)).flatMap (fun i => rowAt s d (rowsN s - 1 - i))
def turnR (s d : List Int) : Int × List Int × List Int := mkR (okC s d) s (turnD s d)
def rotateBy (x : Int) (n : Nat) : Nat := (x % (n : Int)).toNat
def rotateD (x : Int) (t e : List Int) : List Int := if t = [] ∨ t.getD 0 0 = 0 then e else (List.range (rowsN t)).flatMap (fun i => rowAt t e ((i + rotateBy x (rowsN t)) % rowsN t))
def rotateR (s d t e : List Int) : Int × List Int × List Int := mkR (oneC s d t e) t (rotateD (d.getD 0 0) t e)
def flipD (s d : List Int) : List Int := (List.range d.length).map (fun (i : Nat) => d.getD (placeV s (indexV s.reverse (i : Int)).reverse).toNat 0)
def flipR (s d : List Int) : Int × List Int × List Int := mkR (okC s d) s.reverse (flipD s d)
/-- How many rows are asked for. -/
def manyV (x : Int) : Int := if x > 0 - x then x else 0 - x
def takeS (x : Int) (t e : List Int) : List Int := manyV x :: (vecS t e).drop 1
def takeC (s d t e : List Int) : Int := if arrOk s d = true ∧ arrOk t e = true then (if d.length ≠ 1 then 3 else if 0 ≤ sizeV (takeS (d.getD 0 0) t e) then 0 else 6) else 1
def haveN (x : Int) (t e : List Int) : Nat := min (manyV x).toNat (rowsN (vecS t e))
def takeD (x : Int) (t e : List Int) : List Int :=
  if 0 ≤ x then e.take (haveN x t e * rowN (vecS t e)) ++ List.replicate (((manyV x).toNat - haveN x t e) * rowN (vecS t e)) 0
  else List.replicate (((manyV x).toNat - haveN x t e) * rowN (vecS t e)) 0 ++ e.drop ((rowsN (vecS t e) - haveN x t e) * rowN (vecS t e))
def takeR (s d t e : List Int) : Int × List Int × List Int := mkR (takeC s d t e) (takeS (d.getD 0 0) t e) (takeD (d.getD 0 0) t e)
def dropS (x : Int) (t e : List Int) : List Int := (((rowsN (vecS t e) - haveN x t e : Nat)) : Int) :: (vecS t e).drop 1
def dropD (x : Int) (t e : List Int) : List Int := if 0 ≤ x then e.drop (haveN x t e * rowN (vecS t e)) else e.take ((rowsN (vecS t e) - haveN x t e) * rowN (vecS t e))
def dropR (s d t e : List Int) : Int × List Int × List Int := mkR (oneC s d t e) (dropS (d.getD 0 0) t e) (dropD (d.getD 0 0) t e)
end Go.Proofs.Ytmmjidhpmbcoiaa
