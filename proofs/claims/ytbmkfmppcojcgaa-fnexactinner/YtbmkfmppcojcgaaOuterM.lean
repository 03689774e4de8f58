/-
  Plain arithmetic of Chapter 7 (operators): what Outer answers; no Go in sight.
-/
import Derived.Test.YtbmkfmppcojcgaaMakeM
import Derived.Test.YtbmkfmppcojcgaaEachM
namespace Go.Proofs.Ytbmkfmppcojcgaa
set_option linter.unusedVariables false
/-- One number with each of a list: the first code, the numbers. -/
def spreadC (g x : Int) (e : List Int) : Int := firstC (fun j => (twoV g x (e.getD j 0)).2) e.length
def spreadD (g x : Int) (e : List Int) (n : Nat) : List Int := (List.range n).map (fun j => (twoV g x (e.getD j 0)).1)
/-- The first n numbers of d with each of e. -/
def outC (g : Int) (d e : List Int) (n : Nat) : Int := firstC (fun i => spreadC g (d.getD i 0) e) n
def outD (g : Int) (d e : List Int) (n : Nat) : List Int := (List.range n).flatMap (fun i => spreadD g (d.getD i 0) e e.length)
def outerC (g : Int) (s d t e : List Int) : Int := if arrOk s d = true ∧ arrOk t e = true ∧ sign2 g = true then (if 3 < s.length + t.length then 4 else if sizeV (s ++ t) < 0 then 6 else outC g d e d.length) else 1
def outerR (g : Int) (s d t e : List Int) : Int × List Int × List Int := mkR (outerC g s d t e) (s ++ t) (outD g d e d.length)
theorem outerR_bad {g : Int} {s d t e : List Int} (h : ¬ (arrOk s d = true ∧ arrOk t e = true ∧ sign2 g = true)) : outerR g s d t e = (1, [], []) := by
  unfold outerR; rw [show outerC g s d t e = 1 from by unfold outerC; rw [if_neg h]]; rfl
theorem outerR_told {g : Int} {s d t e : List Int} (h1 : arrOk s d = true) (h2 : arrOk t e = true) (h3 : sign2 g = true) :
    outerR g s d t e = if 3 < s.length + t.length then (4, [], []) else if sizeV (s ++ t) < 0 then (6, [], []) else mkR (outC g d e d.length) (s ++ t) (outD g d e d.length) := by
  unfold outerR outerC
  rw [if_pos ⟨h1, h2, h3⟩]
  split
  · rfl
  · split <;> rfl
theorem spreadD_len (g x : Int) (e : List Int) (n : Nat) : (spreadD g x e n).length = n := by simp [spreadD]
theorem spreadD_succ (g x : Int) (e : List Int) (n : Nat) : spreadD g x e (n + 1) = spreadD g x e n ++ [(twoV g x (e.getD n 0)).1] := by
  unfold spreadD; rw [List.range_succ, List.map_append]; rfl
theorem outD_succ (g : Int) (d e : List Int) (n : Nat) : outD g d e (n + 1) = outD g d e n ++ spreadD g (d.getD n 0) e e.length := by
  unfold outD; rw [List.range_succ, List.flatMap_append]; simp
theorem outD_len (g : Int) (d e : List Int) (n : Nat) : (outD g d e n).length = n * e.length := by
  induction n with
  | zero => simp [outD]
  | succ n ih => rw [outD_succ, List.length_append, ih, spreadD_len, Nat.succ_mul]
/-- A number of rank 0 and an array, element by element. -/
theorem each_spread {g x : Int} {t e : List Int} (hx : ok x = true) (h2 : arrOk t e = true) (h3 : sign2 g = true) :
    eachTwoC g [] [x] t e = spreadC g x e ∧ eachTwoS g [] [x] t e = (if spreadC g x e = 0 then t else []) ∧ eachTwoD g [] [x] t e = (if spreadC g x e = 0 then spreadD g x e e.length else []) := by
  have h1 : arrOk [] [x] = true := by simp [arrOk, hx, sizeV_0']
  have hf : fitC [] [x] t e = 0 := by unfold fitC; rw [if_pos ⟨h1, h2⟩, if_pos (.inl rfl)]
  have hS : fitS [] [x] t e = t := by unfold fitS; rw [if_pos hf, if_pos rfl]
  have z2 := arrOk_size h2
  have hN : eachN [] [x] t e = e.length := by unfold eachN; rw [hS]; omega
  have hn : ∀ i, i < e.length → numOf t e i = e.getD i 0 := by
    intro i hi
    unfold numOf
    by_cases ht : t = []
    · subst ht
      rw [sizeV_0'] at z2
      rw [if_pos rfl, show i = 0 by omega]
    · rw [if_neg ht]
  have hm : ∀ i, numOf [] [x] i = x := fun i => by unfold numOf; simp
  have hC : eachTwoC g [] [x] t e = spreadC g x e := by
    unfold eachTwoC spreadC
    rw [if_pos ⟨h1, h2, h3⟩, if_pos hf, hN]
    exact firstC_eq fun i hi => by rw [hm, hn i hi]
  refine ⟨hC, ?_, ?_⟩
  · unfold eachTwoS; rw [hC, hS]
  · unfold eachTwoD spreadD
    rw [hC, hN]
    split
    · apply List.map_congr_left
      intro i hi
      rw [hm, hn i (by simpa using hi)]
    · rfl
end Go.Proofs.Ytbmkfmppcojcgaa
