/-
  Plain: the places that are told, and that the program's choice of rows is what Copy answers.
-/
import Derived.Test.YtbmkfmppcojcgaaLookC
import Derived.Test.YtbmkfmppcojcgaaMakeP
namespace Go.Proofs.Ytbmkfmppcojcgaa
set_option linter.unusedVariables false
def sumL (l : List Int) : Nat → Int
  | 0 => 0
  | n + 1 => sumL l n + l.getD n 0
/-- Each place of a list as often as its number tells. -/
def toldP (l : List Int) : Nat → List Int
  | 0 => []
  | n + 1 => toldP l n ++ List.replicate (l.getD n 0).toNat (n : Int)
theorem again_often {d : List Int} {n i : Nat} (h : i < n) : (againD d n).getD i 0 = often d i := by
  unfold againD often
  by_cases e : d = []
  · simp [e, h]
  · simp [e, h]
theorem again_len (d : List Int) (n : Nat) : (againD d n).length = n := by simp [againD]
theorem sumL_tot {d : List Int} {n : Nat} : ∀ {k : Nat}, k ≤ n → sumL (againD d n) k = tot d k := by
  intro k
  induction k with
  | zero => intro _; rfl
  | succ k ih =>
    intro h
    show sumL (againD d n) k + (againD d n).getD k 0 = tot d k + often d k
    rw [ih (by omega), again_often (by omega)]
theorem told_rows {d : List Int} {n : Nat} (g : Nat → List Int) : ∀ {k : Nat}, k ≤ n → (toldP (againD d n) k).flatMap (fun x => g x.toNat) = toldTo d g k := by
  intro k
  induction k with
  | zero => intro _; rfl
  | succ k ih =>
    intro h
    show (toldP (againD d n) k ++ List.replicate ((againD d n).getD k 0).toNat (k : Int)).flatMap _ = toldTo d g k ++ (List.replicate (often d k).toNat (g k)).flatten
    rw [List.flatMap_append, ih (by omega), again_often (by omega)]
    congr 1
    rw [List.flatMap_def, List.map_replicate]
    rfl
theorem toldP_len {l : List Int} (h : ∀ j, j < l.length → 0 ≤ l.getD j 0) : ∀ {k : Nat}, k ≤ l.length → ((toldP l k).length : Int) = sumL l k := by
  intro k
  induction k with
  | zero => intro _; rfl
  | succ k ih =>
    intro hk
    show (((toldP l k) ++ List.replicate (l.getD k 0).toNat (k : Int)).length : Int) = sumL l k + l.getD k 0
    rw [List.length_append, List.length_replicate]
    have := h k (by omega)
    have := ih (by omega)
    push_cast
    omega
theorem toldP_mem {l : List Int} : ∀ {k : Nat} {x : Int}, x ∈ toldP l k → 0 ≤ x ∧ x < k := by
  intro k
  induction k with
  | zero => intro x h; cases h
  | succ k ih =>
    intro x h
    have h' : x ∈ toldP l k ++ List.replicate (l.getD k 0).toNat (k : Int) := h
    rw [List.mem_append] at h'
    rcases h' with h' | h'
    · have := ih h'; omega
    · have := List.eq_of_mem_replicate h'; omega
theorem range_getD (P : List Int) (g : Int → List Int) : (List.range P.length).flatMap (fun i => g (P.getD i 0)) = P.flatMap g := by
  rw [List.flatMap_def, List.flatMap_def]
  congr 1
  apply List.ext_getElem
  · simp
  · intro i h1 h2
    simp at h1
    simp [h1]
theorem flatMap_mem {P : List Int} {g h : Int → List Int} (q : ∀ x, x ∈ P → g x = h x) : P.flatMap g = P.flatMap h := by
  rw [List.flatMap_def, List.flatMap_def, List.map_congr_left q]
/-- The rows that are chosen by what is told are what Copy answers. -/
theorem copy_chosen {d t e : List Int} (h2 : arrOk t e = true) : chosenD t e (fun k => (toldP (againD d (rowsN t)) (rowsN t)).getD k 0) (toldP (againD d (rowsN t)) (rowsN t)).length = copyD d t e := by
  obtain ⟨e1, e2⟩ := rowsN5 h2
  unfold chosenD copyD
  rw [range_getD _ (fun x => chosenRow t e x), ← told_rows (n := rowsN t) (fun i => rowAt t e i) (Nat.le_refl _)]
  refine flatMap_mem (fun x hx => ?_)
  have := toldP_mem hx
  unfold chosenRow
  rw [if_pos ⟨by omega, by omega⟩]
theorem any_below {d : List Int} : d.any (fun x => decide (x < 0)) = false ↔ ∀ j, j < d.length → 0 ≤ d.getD j 0 := by
  constructor
  · intro h j hj
    rw [List.any_eq_false] at h
    have := h (d.getD j 0) (by simp [hj])
    simpa using this
  · intro h
    rw [List.any_eq_false]
    intro y hy
    obtain ⟨j, hj, rfl⟩ := List.getElem_of_mem hy
    have := h j hj
    rw [List.getD_eq_getElem?_getD, List.getElem?_eq_getElem hj] at this
    simpa using this
theorem copyC_zero {s d t e : List Int} (h : copyC s d t e = 0) : arrOk s d = true ∧ arrOk t e = true ∧ t ≠ [] ∧ (∀ j, j < d.length → 0 ≤ d.getD j 0) ∧ 0 ≤ sizeV (tot d (rowsN t) :: t.drop 1) := by
  unfold copyC at h
  by_cases q : arrOk s d = true ∧ arrOk t e = true
  · rw [if_pos q] at h
    by_cases q2 : 1 < s.length ∨ t = []
    · rw [if_pos q2] at h; cases h
    · rw [if_neg q2] at h
      by_cases q3 : d.length ≠ 1 ∧ (d.length : Int) ≠ t.getD 0 0
      · rw [if_pos q3] at h; cases h
      · rw [if_neg q3] at h
        by_cases q4 : d.any (fun x => decide (x < 0)) = true
        · rw [if_pos q4] at h; cases h
        · rw [if_neg q4] at h
          by_cases q5 : sizeV (tot d (rowsN t) :: t.drop 1) < 0
          · rw [if_pos q5] at h; cases h
          · exact ⟨q.1, q.2, fun k => q2 (.inr k), any_below.1 (by simpa using q4), by omega⟩
  · rw [if_neg q] at h; cases h
theorem copy_len {s d t e : List Int} (h : copyC s d t e = 0) : (tot d (rowsN t) :: t.drop 1).length ≤ 1048576 ∧ (copyD d t e).length ≤ 1048576 := by
  obtain ⟨h1, h2, h3, h4, h5⟩ := copyC_zero h
  have e2 := arrOk_len h2
  have e3 := (sizeV_ok h5).1
  have e4 := dim5 h5
  constructor
  · omega
  · have := told_len h1 h4 (fun i => rowAt t e i) 300 (fun i => by unfold rowAt; rw [List.length_take, List.length_drop]; omega) (rowsN t)
    have h6 : tot d (rowsN t) * ((300 : Nat) : Int) ≤ 300 * 300 := Int.mul_le_mul_of_nonneg_right e4.2 (by decide)
    unfold copyD
    omega
end Go.Proofs.Ytbmkfmppcojcgaa
