/-
  Plain arithmetic of Chapter 7 (operators): one number of an inner product; no Go in sight.
-/
import Derived.Test.YtbmkfmppcojcgaaReduceM
namespace Go.Proofs.Ytbmkfmppcojcgaa
set_option linter.unusedVariables false
/-- Two lists, number by number: the first code, the numbers, each as an array of rank 0. -/
def pairC (g : Int) (x y : List Int) (n : Nat) : Int := firstC (fun i => (twoV g (x.getD i 0) (y.getD i 0)).2) n
def pairD (g : Int) (x y : List Int) (n : Nat) : List Int := (List.range n).map (fun i => (twoV g (x.getD i 0) (y.getD i 0)).1)
def pairR (g : Int) (x y : List Int) (n : Nat) : List (List Int) := (List.range n).map (fun i => [(twoV g (x.getD i 0) (y.getD i 0)).1])
theorem pairR_len (g : Int) (x y : List Int) (n : Nat) : (pairR g x y n).length = n := by simp [pairR]
theorem pairR_at (g : Int) (x y : List Int) {n i : Nat} (h : i < n) : (pairR g x y n).getD i [] = [(twoV g (x.getD i 0) (y.getD i 0)).1] := by simp [pairR, List.getD, h]
/-- One number of an inner product, and its code. -/
def cellR (f g : Int) (x y : List Int) (n : Nat) : Int × Int :=
  if pairC g x y n = 0 then (if n = 0 then ((neu f).1, 0) else if (redL f [] (pairR g x y n)).1 = 0 then ((redL f [] (pairR g x y n)).2.getD 0 0, 0) else (0, (redL f [] (pairR g x y n)).1)) else (0, pairC g x y n)
theorem cellR_stop {f g : Int} {x y : List Int} {n k : Nat} (hk : k < n) (h : pairC g x y k = 0) (hc : (twoV g (x.getD k 0) (y.getD k 0)).2 ≠ 0) : cellR f g x y n = (0, (twoV g (x.getD k 0) (y.getD k 0)).2) := by
  have q : pairC g x y n = (twoV g (x.getD k 0) (y.getD k 0)).2 := firstC_stop h hc hk
  unfold cellR
  rw [q, if_neg hc]
theorem cellR_none (f g : Int) (x y : List Int) : cellR f g x y 0 = ((neu f).1, 0) := by
  unfold cellR
  rw [if_pos (show pairC g x y 0 = 0 from rfl), if_pos rfl]
theorem cellR_bad {f g : Int} {x y : List Int} {n : Nat} (h : pairC g x y n = 0) (hn : n ≠ 0) (hc : (redL f [] (pairR g x y n)).1 ≠ 0) : cellR f g x y n = (0, (redL f [] (pairR g x y n)).1) := by
  unfold cellR
  rw [if_pos h, if_neg hn, if_neg hc]
theorem one_ok {z : Int} (h : ok z = true) : arrOk [] [z] = true := by simp [arrOk, h, sizeV_0']
theorem pair_ok {g : Int} {x y : List Int} {n : Nat} (h : pairC g x y n = 0) : ∀ i, i < (pairR g x y n).length → arrOk [] ((pairR g x y n).getD i []) = true := by
  intro i hi
  rw [pairR_len] at hi
  rw [pairR_at g x y hi]
  exact one_ok (two_ok (firstC_all h i hi))
theorem cellR_good {f g : Int} {x y : List Int} {n : Nat} (h : pairC g x y n = 0) (hn : n ≠ 0) (hc : (redL f [] (pairR g x y n)).1 = 0) : ∃ z, (redL f [] (pairR g x y n)).2 = [z] ∧ cellR f g x y n = (z, 0) := by
  have q := redL_ok (g := f) (t := []) (R := pairR g x y n) (by intro e; have := congrArg List.length e; rw [pairR_len] at this; simp at this; omega) (pair_ok h) hc
  have z := arrOk_size q
  rw [sizeV_0'] at z
  obtain ⟨z, hz⟩ : ∃ z, (redL f [] (pairR g x y n)).2 = [z] := by
    cases e : (redL f [] (pairR g x y n)).2 with
    | nil => rw [e] at z; simp at z
    | cons a l =>
      cases l with
      | nil => exact ⟨a, rfl⟩
      | cons b m => rw [e] at z; simp at z; omega
  refine ⟨z, hz, ?_⟩
  unfold cellR
  rw [if_pos h, if_neg hn, if_pos hc, hz]
  rfl
end Go.Proofs.Ytbmkfmppcojcgaa
