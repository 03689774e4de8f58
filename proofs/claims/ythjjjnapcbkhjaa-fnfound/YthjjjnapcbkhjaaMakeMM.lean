/-
  Plain arithmetic of Chapter 5 (making arrays): what each function answers, as a code, a shape and numbers; no Go in sight.
-/
import Derived.Test.YthjjjnapcbkhjaaRowsMM
import Derived.Test.YthjjjnapcbkhjaaLaw3
namespace Go.Proofs.Ythjjjnapcbkhjaa
set_option linter.unusedVariables false
/-- An answer: beside a code that is not 0 the array is the empty one. -/
def mkR (c : Int) (s d : List Int) : Int × List Int × List Int := if c = 0 then (0, s, d) else (c, [], [])
theorem mkR_good (s d : List Int) : mkR 0 s d = (0, s, d) := rfl
theorem mkR_bad {c : Int} (h : c ≠ 0) (s d : List Int) : mkR c s d = (c, [], []) := by unfold mkR; rw [if_neg h]
theorem mkR_code (c : Int) (s d : List Int) : (mkR c s d).1 = c := by
  unfold mkR
  split
  · rename_i h; exact h.symm
  · rfl
theorem mkR_len {c : Int} {s d : List Int} {n m : Nat} (hs : c = 0 → s.length ≤ n) (hd : c = 0 → d.length ≤ m) : (mkR c s d).2.1.length ≤ n ∧ (mkR c s d).2.2.length ≤ m := by
  unfold mkR
  split
  · rename_i h; exact ⟨hs h, hd h⟩
  · simp
/-- The shape of an array, or that of the vector of it where it is of rank 0. -/
def vecS (s d : List Int) : List Int := if s = [] then [(d.length : Int)] else s
/-- How many numbers a row has; how many rows there are; one of them. -/
def rowN (s : List Int) : Nat := (sizeV (s.drop 1)).toNat
def rowsN (s : List Int) : Nat := (s.getD 0 0).toNat
def rowAt (s d : List Int) (i : Nat) : List Int := (d.drop (i * rowN s)).take (rowN s)
def okC (s d : List Int) : Int := if arrOk s d = true then 0 else 1
def oneC (s d t e : List Int) : Int := if arrOk s d = true ∧ arrOk t e = true then (if d.length ≠ 1 then 3 else 0) else 1
def iotaC (s d : List Int) : Int := if arrOk s d = true then (if d.length ≠ 1 then 3 else if d.getD 0 0 < 0 then 2 else if 300 < d.getD 0 0 then 6 else 0) else 1
def iotaR (s d : List Int) : Int × List Int × List Int := mkR (iotaC s d) [d.getD 0 0] ((List.range (d.getD 0 0).toNat).map (fun (i : Nat) => (i : Int)))
def shapeOfR (s d : List Int) : Int × List Int × List Int := mkR (okC s d) [(s.length : Int)] s
def ravelR (s d : List Int) : Int × List Int × List Int := mkR (okC s d) [(d.length : Int)] d
def reshapeC (s d t e : List Int) : Int := if arrOk s d = true ∧ arrOk t e = true then (if 1 < s.length then 4 else if d.any (fun x => decide (x < 0)) = true then 2 else if sizeV d < 0 then 6 else 0) else 1
def againD (e : List Int) (n : Nat) : List Int := (List.range n).map (fun i => if e = [] then 0 else e.getD (i % e.length) 0)
def reshapeR (s d t e : List Int) : Int × List Int × List Int := mkR (reshapeC s d t e) d (againD e (sizeV d).toNat)
def joinS (s d t e : List Int) : List Int := ((vecS s d).getD 0 0 + (vecS t e).getD 0 0) :: (vecS s d).drop 1
def joinC (s d t e : List Int) : Int := if arrOk s d = true ∧ arrOk t e = true then (if (vecS s d).length ≠ (vecS t e).length then 4 else if (vecS s d).drop 1 ≠ (vecS t e).drop 1 then 3 else if arrOk (joinS s d t e) (d ++ e) = true then 0 else 6) else 1
def joinR (s d t e : List Int) : Int × List Int × List Int := mkR (joinC s d t e) (joinS s d t e) (d ++ e)
def turnD (s d : List Int) : List Int := if s = [] then d else (List.range (rowsN s)).flatMap (fun i => rowAt s d (rowsN s - 1 - i))
def turnR (s d : List Int) : Int × List Int × List Int := mkR (okC s d) s (turnD s d)
def rotateBy (x : Int) (n : Nat) : Nat := (x % (n : Int)).toNat
def rotateD (x : Int) (t e : List Int) : List Int := if t = [] ∨ t.getD 0 0 = 0 then e else (List.range (rowsN t)).flatMap (fun i => rowAt t e ((i + rotateBy x (rowsN t)) % rowsN t))
def rotateR (s d t e : List Int) : Int × List Int × List Int := mkR (oneC s d t e) t (rotateD (d.getD 0 0) t e)
def flipD (s d : List Int) : List Int := (List.range d.length).map (fun (i : Nat) => d.getD (placeV s (indexV s.reverse (i : Int)).reverse).toNat 0)
def flipR (s d : List Int) : Int × List Int × List Int := mkR (okC s d) s.reverse (flipD s d)
/-- How many rows are asked for. -/
def manyV (x : Int) : Int := if x > 0 - x then x else 0 - x
def takeS (x : Int) (t e : List Int) : List Int := manyV x :: (vecS t e).drop 1
def takeC (s d t e : List Int) : Int := if arrOk s d = true ∧ arrOk t e = true then (if d.length ≠ 1 then 3 else if 0 ≤ sizeV (takeS (d.getD 0 0) t e) then 0 else 6) else 1
def haveN (x : Int) (t e : List Int) : Nat := min (manyV x).toNat (rowsN (vecS t e))
def takeD (x : Int) (t e : List Int) : List Int :=
  if 0 ≤ x then e.take (haveN x t e * rowN (vecS t e)) ++ List.replicate (((manyV x).toNat - haveN x t e) * rowN (vecS t e)) 0
  else List.replicate (((manyV x).toNat - haveN x t e) * rowN (vecS t e)) 0 ++ e.drop ((rowsN (vecS t e) - haveN x t e) * rowN (vecS t e))
def takeR (s d t e : List Int) : Int × List Int × List Int := mkR (takeC s d t e) (takeS (d.getD 0 0) t e) (takeD (d.getD 0 0) t e)
def dropS (x : Int) (t e : List Int) : List Int := (((rowsN (vecS t e) - haveN x t e : Nat)) : Int) :: (vecS t e).drop 1
def dropD (x : Int) (t e : List Int) : List Int := if 0 ≤ x then e.drop (haveN x t e * rowN (vecS t e)) else e.take ((rowsN (vecS t e) - haveN x t e) * rowN (vecS t e))
def dropR (s d t e : List Int) : Int × List Int × List Int := mkR (oneC s d t e) (dropS (d.getD 0 0) t e) (dropD (d.getD 0 0) t e)
end Go.Proofs.Ythjjjnapcbkhjaa
namespace Go.Proofs.Ythjjjnapcbkhjaa
set_option linter.unusedVariables false
/-- The first place of a number in a list; how many there are, where it is none. -/
def placeIn (l : List Int) (x : Int) : Nat := l.findIdx (fun y => y == x)
theorem placeIn_le (l : List Int) (x : Int) : placeIn l x ≤ l.length := List.findIdx_le_length
theorem placeIn_here {l : List Int} {x : Int} {k : Nat} (hk : k < l.length) (he : l.getD k 0 = x) (hn : ∀ j, j < k → l.getD j 0 ≠ x) : placeIn l x = k := by
  unfold placeIn
  rw [List.findIdx_eq hk]
  rw [List.getD_eq_getElem?_getD, List.getElem?_eq_getElem hk] at he
  refine ⟨by simpa using he, fun j hj => ?_⟩
  have := hn j hj
  rw [List.getD_eq_getElem?_getD, List.getElem?_eq_getElem (by omega)] at this
  simpa using this
theorem placeIn_none {l : List Int} {x : Int} (hn : ∀ j, j < l.length → l.getD j 0 ≠ x) : placeIn l x = l.length := by
  unfold placeIn
  rw [List.findIdx_eq_length]
  intro y hy
  obtain ⟨j, hj, rfl⟩ := List.getElem_of_mem hy
  have := hn j hj
  rw [List.getD_eq_getElem?_getD, List.getElem?_eq_getElem hj] at this
  simpa using this
def findC (s d t e : List Int) : Int := if arrOk s d = true ∧ arrOk t e = true then (if s.length ≠ 1 then 4 else 0) else 1
def findR (s d t e : List Int) : Int × List Int × List Int := mkR (findC s d t e) t ((List.range e.length).map (fun i => ((placeIn d (e.getD i 0) : Nat) : Int)))
def withinC (s d t e : List Int) : Int := if arrOk s d = true ∧ arrOk t e = true then 0 else 1
def withinR (s d t e : List Int) : Int × List Int × List Int := mkR (withinC s d t e) s ((List.range d.length).map (fun i => if placeIn e (d.getD i 0) < e.length then 1 else 0))
end Go.Proofs.Ythjjjnapcbkhjaa
namespace Go.Proofs.Ythjjjnapcbkhjaa
open Go.RowKit
set_option linter.unusedVariables false
set_option linter.unusedSimpArgs false
set_option maxRecDepth 20000 in
set_option maxHeartbeats 2000000 in
/-- l6Place. -/
theorem place6_spec {l : List Int} {a : Option Addr} {w : World} (x : Int) (c : Nat) (h : Ints w a l) (hl : l.length ≤ 1048576) :
    Calls Try.prog 68 #[.slice a l.length c, .int .i64 x] w fun r w' => r = .returned (.int .i64 ((placeIn l x : Nat) : Int)) ∧ w' = w := by
  have H : Hid (Ints w a l) := h
  obtain ⟨P, hP⟩ : ∃ P, P = placeIn l x := ⟨_, rfl⟩
  rw [← hP]
  have E1 : Hid (∀ k, k < l.length → l.getD k 0 = x → (∀ j, j < k → l.getD j 0 ≠ x) → P = k) := fun k hk he hn => by rw [hP]; exact placeIn_here hk he hn
  have E2 : Hid ((∀ j, j < l.length → l.getD j 0 ≠ x) → P = l.length) := fun hn => by rw [hP]; exact placeIn_none hn
  clear hP h
  go_enter Try.func68, Try.ntmps68
  go_wp2
  go_loopw [5] (fun i w' => ∃ k : Nat, k ≤ l.length ∧ i = .int .i64 (k : Int) ∧ (∀ j, j < k → l.getD j 0 ≠ x) ∧ w' = w) (fun i _ => l.length - (intOf i).toNat)
  case atStart => exact ⟨0, by omega, rfl, fun j hj => by omega, rfl⟩
  case round =>
    obtain ⟨k, hk, rfl, hn, hw⟩ := hrel
    have HN : Hid (∀ j, j < k → l.getD j 0 ≠ x) := hn
    clear hn
    subst hw
    by_cases hlt : (k : Int) < (l.length : Int)
    · have L : k < l.length := by omega
      obtain ⟨b1, o1, rfl, hb1, c1⟩ := H.out.at L
      by_cases hx : l.getD k 0 = x
      · obtain rfl := E1.out k L hx HN.out
        rw [hx] at c1
        have hxx : (x == x) = true := by simp
        clear hx
        go_wp2
        go_ret
        exact ⟨rfl, rfl⟩
      · have HN2 : Hid (∀ j, j < k + 1 → l.getD j 0 ≠ x) := fun j hj => by
          by_cases e : j = k
          · rw [e]; exact hx
          · exact HN.out j (by omega)
        have hxb : (l.getD k 0 == x) = false := by simpa using hx
        generalize l.getD k 0 = y at *
        clear hx
        go_wp2
        go_roundw
        case rel => exact ⟨k + 1, by omega, by go_num, HN2.out, by first | rfl | trivial⟩
        case measure => simp [intOf]; omega
    · obtain rfl := E2.out (fun j hj => HN.out j (by omega))
      go_wp2
      go_ret
      exact ⟨rfl, rfl⟩
end Go.Proofs.Ythjjjnapcbkhjaa
