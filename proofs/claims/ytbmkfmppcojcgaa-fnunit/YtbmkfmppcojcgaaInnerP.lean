/-
  Plain arithmetic of Chapter 7 (operators): what Inner answers; no Go in sight.
-/
import Derived.Test.YtbmkfmppcojcgaaInnerM
import Derived.Test.YtbmkfmppcojcgaaOuterN
namespace Go.Proofs.Ytbmkfmppcojcgaa
set_option linter.unusedVariables false
/-- Row i of so many numbers, column j of so many among so many. -/
def rowV (d : List Int) (n i : Nat) : List Int := (d.drop (i * n)).take n
def colV (e : List Int) (n wide j : Nat) : List Int := (List.range n).map (fun k => e.getD (k * wide + j) 0)
def innerN (t : List Int) : Nat := (t.getD 0 0).toNat
def innerW (t : List Int) : Nat := (sizeV (t.drop 1)).toNat
def innerS (s t : List Int) : List Int := s.take (s.length - 1) ++ t.drop 1
/-- The number at a place, and its code. -/
def innerK (f g : Int) (d t e : List Int) (k : Nat) : Int × Int := cellR f g (rowV d (innerN t) (k / innerW t)) (colV e (innerN t) (innerW t) (k % innerW t)) (innerN t)
def innerC (f g : Int) (s d t e : List Int) : Int :=
  if arrOk s d = true ∧ arrOk t e = true ∧ sign2 f = true ∧ sign2 g = true then
    (if (s.length = 1 ∨ s.length = 2) ∧ (t.length = 1 ∨ t.length = 2) then
      (if s.getD (s.length - 1) 0 ≠ t.getD 0 0 then 3 else if sizeV (innerS s t) < 0 then 6 else firstC (fun k => (innerK f g d t e k).2) (sizeV (innerS s t)).toNat)
    else 4)
  else 1
def innerR (f g : Int) (s d t e : List Int) : Int × List Int × List Int := mkR (innerC f g s d t e) (innerS s t) ((List.range (sizeV (innerS s t)).toNat).map (fun k => (innerK f g d t e k).1))
theorem innerR_bad {f g : Int} {s d t e : List Int} (h : ¬ (arrOk s d = true ∧ arrOk t e = true ∧ sign2 f = true ∧ sign2 g = true)) : innerR f g s d t e = (1, [], []) := by
  unfold innerR; rw [show innerC f g s d t e = 1 from by unfold innerC; rw [if_neg h]]; rfl
theorem innerR_told {f g : Int} {s d t e : List Int} (h : arrOk s d = true ∧ arrOk t e = true ∧ sign2 f = true ∧ sign2 g = true) :
    innerR f g s d t e = if (s.length = 1 ∨ s.length = 2) ∧ (t.length = 1 ∨ t.length = 2) then
      (if s.getD (s.length - 1) 0 ≠ t.getD 0 0 then (3, [], []) else if sizeV (innerS s t) < 0 then (6, [], []) else mkR (firstC (fun k => (innerK f g d t e k).2) (sizeV (innerS s t)).toNat) (innerS s t) ((List.range (sizeV (innerS s t)).toNat).map (fun k => (innerK f g d t e k).1)))
    else (4, [], []) := by
  unfold innerR innerC
  rw [if_pos h]
  split
  · split
    · rfl
    · split <;> rfl
  · rfl
theorem rowV_len (d : List Int) (n i : Nat) (h : i * n + n ≤ d.length) : (rowV d n i).length = n := by unfold rowV; rw [List.length_take, List.length_drop]; omega
theorem colV_len (e : List Int) (n wide j : Nat) : (colV e n wide j).length = n := by simp [colV]
/-- Parts of one number each, where no one has a code. -/
theorem flat_cells {N : Nat} {c : Nat → Int × Int} (h : firstC (fun k => (c k).2) N = 0) : (List.range N).flatMap (fun k => if (c k).2 = 0 then [(c k).1] else []) = (List.range N).map (fun k => (c k).1) := by
  have hz := firstC_all h
  clear h
  induction N with
  | zero => rfl
  | succ N ih =>
    rw [List.range_succ, List.flatMap_append, List.map_append, ih (fun i hi => hz i (by omega))]
    simp [hz N (by omega)]
end Go.Proofs.Ytbmkfmppcojcgaa
