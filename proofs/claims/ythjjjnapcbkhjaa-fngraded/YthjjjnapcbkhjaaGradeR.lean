/-
  Plain: what Grade answers.
-/
import Derived.Test.YthjjjnapcbkhjaaGradeM
namespace Go.Proofs.Ythjjjnapcbkhjaa
set_option linter.unusedVariables false
def natI (l : List Nat) : List Int := l.map (fun (n : Nat) => (n : Int))
theorem natI_len (l : List Nat) : (natI l).length = l.length := by simp [natI]
theorem natI_at {l : List Nat} {k : Nat} (h : k < l.length) : (natI l).getD k 0 = ((l.getD k 0 : Nat) : Int) := by simp [natI, h]
theorem natI_app (l m : List Nat) : natI (l ++ m) = natI l ++ natI m := by simp [natI]
def gradeC (s d : List Int) : Int := if arrOk s d = true then (if s.length = 1 then 0 else 4) else 1
def gradeR (s d : List Int) : Int × List Int × List Int := mkR (gradeC s d) [(d.length : Int)] (natI (gradeTo d d.length))
theorem insTo_len (d : List Int) (i : Nat) (L : List Nat) (k : Nat) : (insTo d i L k).2.length ≤ 2 * k := by
  induction k with
  | zero => simp [insTo]
  | succ k ih =>
    show (if _ then _ else _ : Bool × List Nat).2.length ≤ _
    split
    · simp; omega
    · simp; omega
theorem insTo_put {d : List Int} {i : Nat} {L : List Nat} {k : Nat} (h : (insTo d i L k).1 = false) (hq : d.getD i 0 < d.getD (L.getD k 0) 0) : insTo d i L (k + 1) = (true, (insTo d i L k).2 ++ [i] ++ [L.getD k 0]) := by
  show (if _ then _ else _) = _
  rw [if_pos ⟨h, hq⟩]
theorem insTo_on {d : List Int} {i : Nat} {L : List Nat} {k : Nat} (h : ¬ ((insTo d i L k).1 = false ∧ d.getD i 0 < d.getD (L.getD k 0) 0)) : insTo d i L (k + 1) = ((insTo d i L k).1, (insTo d i L k).2 ++ [L.getD k 0]) := by
  show (if _ then _ else _) = _
  rw [if_neg h]
theorem gradeTo_lt {d : List Int} {n k : Nat} (h : k < n) : (gradeTo d n).getD k 0 < n := by
  have hl : k < (gradeTo d n).length := by rw [gradeTo_len]; exact h
  rw [getN hl]
  exact ((gradeTo_is d n).2 _).1 (List.getElem_mem hl)
end Go.Proofs.Ythjjjnapcbkhjaa
