/-
  Plain arithmetic of Chapter 6 (looking): what Find and Within answer, as a code, a shape and numbers; no Go in sight.
-/
import Derived.Test.YthjjjnapcbkhjabMakeM
namespace Go.Proofs.Ythjjjnapcbkhjab
set_option linter.unusedVariables false
/-- The first place of a number in a list; how many there are, where it is none. -/
def placeIn (l : List Int) (x : Int) : Nat := l.findIdx (fun y => y == x)
theorem placeIn_le (l : List Int) (x : Int) : placeIn l x ≤ l.length := List.findIdx_le_length
theorem placeIn_here {l : List Int} {x : Int} {k : Nat} (hk : k < l.length) (he : l.getD k 0 = x) (hn : ∀ j, j < k → l.getD j 0 ≠ x) : placeIn l x = k := by
  unfold placeIn
  rw [List.findIdx_eq hk]
  rw [List.getD_eq_getElem?_getD, List.getElem?_eq_getElem hk] at he
  refine ⟨by simpa using he, fun j hj => ?_⟩
  have := hn j hj
  rw [List.getD_eq_getElem?_getD, List.getElem?_eq_getElem (by omega)] at this
  simpa using this
theorem placeIn_none {l : List Int} {x : Int} (hn : ∀ j, j < l.length → l.getD j 0 ≠ x) : placeIn l x = l.length := by
  unfold placeIn
  rw [List.findIdx_eq_length]
  intro y hy
  obtain ⟨j, hj, rfl⟩ := List.getElem_of_mem hy
  have := hn j hj
  rw [List.getD_eq_getElem?_getD, List.getElem?_eq_getElem hj] at this
  simpa using this
def findC (s d t e : List Int) : Int := if arrOk s d = true ∧ arrOk t e = true then (if s.length ≠ 1 then 4 else 0) else 1
def findR (s d t e : List Int) : Int × List Int × List Int := mkR (findC s d t e) t ((List.range e.length).map (fun i => ((placeIn d (e.getD i 0) : Nat) : Int)))
def withinC (s d t e : List Int) : Int := if arrOk s d = true ∧ arrOk t e = true then 0 else 1
def withinR (s d t e : List Int) : Int × List Int × List Int := mkR (withinC s d t e) s ((List.range d.length).map (fun i => if placeIn e (d.getD i 0) < e.length then 1 else 0))
end Go.Proofs.Ythjjjnapcbkhjab
