/-
  Plain arithmetic of Chapter 6 (looking): what Pick and Copy answer; no Go in sight.
-/
import Derived.Test.YthjjjnapcbkhjaaMakeM
namespace Go.Proofs.Ythjjjnapcbkhjaa
set_option linter.unusedVariables false
/-- The number of a row, counted from the end where it is below nought. -/
def rowNo (n x : Int) : Nat := ((x + n) % n).toNat
def noRow (n x : Int) : Bool := decide (x < -n) || decide (n ≤ x)
def pickS (s t : List Int) : List Int := s ++ t.drop 1
def pickC (s d t e : List Int) : Int := if arrOk s d = true ∧ arrOk t e = true then (if t = [] ∨ 4 < s.length + t.length then 4 else if d.any (noRow (t.getD 0 0)) = true then 5 else if sizeV (pickS s t) < 0 then 6 else 0) else 1
def pickD (d t e : List Int) : List Int := (List.range d.length).flatMap (fun i => rowAt t e (rowNo (t.getD 0 0) (d.getD i 0)))
def pickR (s d t e : List Int) : Int × List Int × List Int := mkR (pickC s d t e) (pickS s t) (pickD d t e)
theorem pickR_bad {s d t e : List Int} (h : ¬ (arrOk s d = true ∧ arrOk t e = true)) : pickR s d t e = (1, [], []) := by
  unfold pickR; rw [show pickC s d t e = 1 from by unfold pickC; rw [if_neg h]]; rfl
theorem pickR_told {s d t e : List Int} (h1 : arrOk s d = true) (h2 : arrOk t e = true) :
    pickR s d t e = if t = [] ∨ 4 < s.length + t.length then (4, [], []) else if d.any (noRow (t.getD 0 0)) = true then (5, [], []) else if sizeV (pickS s t) < 0 then (6, [], []) else (0, pickS s t, pickD d t e) := by
  unfold pickR pickC
  rw [if_pos ⟨h1, h2⟩]
  split
  · rfl
  · split
    · rfl
    · split <;> rfl
theorem noRow_false {n x : Int} : noRow n x = false ↔ -n ≤ x ∧ x < n := by
  unfold noRow; simp
/-- Where the row is there: its number, by either end. -/
theorem rowNo_bd {n x : Int} (h : noRow n x = false) : rowNo n x < n.toNat ∧ (rowNo n x : Int) = if x < 0 then n + x else x := by
  obtain ⟨h1, h2⟩ := noRow_false.1 h
  unfold rowNo
  by_cases hx : x < 0
  · rw [if_pos hx, Int.emod_eq_of_lt (by omega) (by omega)]
    omega
  · rw [if_neg hx, Int.add_emod_right, Int.emod_eq_of_lt (by omega) h2]
    omega
/-- Go's remainder at such a number. -/
theorem rowNo_tmod {n x : Int} (h : noRow n x = false) : Int.tmod (x + n) n = (rowNo n x : Int) := by
  obtain ⟨h1, h2⟩ := noRow_false.1 h
  unfold rowNo
  rw [Int.tmod_eq_emod_of_nonneg (by omega), Int.toNat_of_nonneg (Int.emod_nonneg _ (by omega))]
end Go.Proofs.Ythjjjnapcbkhjaa
