
/-
  Lists of arrays: a row of slices, two an array, each a list of numbers; the laws' own helpers on them: eqArrayS, markArrayS, heldArrayS.
-/
import Derived.Test.YtcaidhmolnnikaaDoorLaw3
namespace Go.Proofs.YtcaidhmolnnikaaDoor
open Go.RowKit
set_option linter.unusedVariables false
set_option linter.unusedSimpArgs false
/-- A list of arrays that can be read: F has the shape and the numbers of each in turn. -/
def ArrsI (w : World) (v : Value) (F : List (List Int)) : Prop :=
  ∃ (a : Option Addr) (n c : Nat), v = .slice a n c ∧ F.length = 2 * n ∧ (n = 0 ∨ ∃ (o off : Nat) (xs : List Value), a = some ⟨o, off, none⟩ ∧ o < w.heap.size ∧ xs.length = F.length ∧ ∀ j, j < xs.length → w.cell? ⟨o, off + j, none⟩ = some (xs.getD j undef) ∧ IntsI w (xs.getD j undef) (F.getD j []))
theorem ArrsI.keep {w w' : World} {v : Value} {F : List (List Int)} (h : ArrsI w v F) (hb : Below w.heap.size w w') : ArrsI w' v F := by
  obtain ⟨a, n, c, rfl, hF, h⟩ := h
  refine ⟨a, n, c, rfl, hF, ?_⟩
  rcases h with h | ⟨o, off, xs, e, ho, hx, hj⟩
  · exact .inl h
  · refine .inr ⟨o, off, xs, e, Nat.lt_of_lt_of_le ho hb.size, hx, fun j h => ⟨?_, (hj j h).2.keep hb⟩⟩
    rw [hb.cell (p := ⟨o, off + j, none⟩) ho]; exact (hj j h).1
theorem ArrsI.at {w : World} {a : Option Addr} {n c k : Nat} {F : List (List Int)} (h : ArrsI w (.slice a n c) F) (hk : k < n) :
    ∃ o off x y, a = some ⟨o, off, none⟩ ∧ o < w.heap.size ∧ w.cell? ⟨o, off + k * 2, none⟩ = some x ∧ w.cell? ⟨o, off + k * 2 + 1, none⟩ = some y ∧ IntsI w x (F.getD (2 * k) []) ∧ IntsI w y (F.getD (2 * k + 1) []) := by
  obtain ⟨a', n', c', e, hF, h⟩ := h
  cases e
  rcases h with h | ⟨o, off, xs, rfl, ho, hx, hj⟩
  · omega
  · have j0 := hj (2 * k) (by omega)
    have j1 := hj (2 * k + 1) (by omega)
    refine ⟨o, off, _, _, rfl, ho, ?_, ?_, j0.2, j1.2⟩
    · rw [Nat.mul_comm k 2]; exact j0.1
    · rw [Nat.mul_comm k 2, Nat.add_assoc]; exact j1.1
/-- A slice has no cell in a block. -/
def NotAt (o : Nat) (v : Value) : Prop := ∀ off n c, v = .slice (some ⟨o, off, none⟩) n c → n = 0
structure ArrsBody (B C o off : Nat) (w : World) (xs : List Value) (F : List (List Int)) : Prop where
  len : xs.length = F.length
  lo : B ≤ o
  hi : o < C
  outer : ∃ (cur : Array Value) (t : TypeId) (fr : Nat × Nat), w.heap[o]? = some (.cells cur t fr) ∧ ∀ j, j < xs.length → cur[off + j]? = some (xs.getD j undef)
  piece : ∀ j, j < xs.length → Piece B C w (xs.getD j undef) (F.getD j [])
  apart : ∀ i j, i < j → j < xs.length → Apart (xs.getD i undef) (xs.getD j undef)
  far : ∀ j, j < xs.length → NotAt o (xs.getD j undef)
/-- A list of arrays in memory of its own, in blocks from B on and below C, no two lists with a cell together. -/
def Arrs (B C : Nat) (w : World) (v : Value) (F : List (List Int)) : Prop :=
  ∃ (a : Option Addr) (n c : Nat), v = .slice a n c ∧ F.length = 2 * n ∧ (n = 0 ∨ ∃ (o off : Nat) (xs : List Value), a = some ⟨o, off, none⟩ ∧ ArrsBody B C o off w xs F)
theorem ArrsBody.lt {B C o off : Nat} {w : World} {xs : List Value} {F : List (List Int)} (h : ArrsBody B C o off w xs F) : o < w.heap.size := by
  obtain ⟨cur, t, fr, hg, _⟩ := h.outer
  exact lt_of_heapA hg
theorem ArrsBody.cell {B C o off j : Nat} {w : World} {xs : List Value} {F : List (List Int)} (h : ArrsBody B C o off w xs F) (hj : j < xs.length) : w.cell? ⟨o, off + j, none⟩ = some (xs.getD j undef) := by
  obtain ⟨cur, t, fr, hg, hc⟩ := h.outer
  exact cell_at hg (hc j hj)
theorem Arrs.arrsI {B C : Nat} {w : World} {v : Value} {F : List (List Int)} (h : Arrs B C w v F) : ArrsI w v F := by
  obtain ⟨a, n, c, rfl, hF, h⟩ := h
  refine ⟨a, n, c, rfl, hF, ?_⟩
  rcases h with h | ⟨o, off, xs, rfl, h⟩
  · exact .inl h
  · exact .inr ⟨o, off, xs, rfl, h.lt, h.len, fun j hj => ⟨h.cell hj, (h.piece j hj).intsI⟩⟩
theorem ArrsBody.keep {B C o off : Nat} {w w' : World} {xs : List Value} {F : List (List Int)} (h : ArrsBody B C o off w xs F) (hb : Below w.heap.size w w') : ArrsBody B C o off w' xs F := by
  obtain ⟨cur, t, fr, hg, hc⟩ := h.outer
  exact ⟨h.len, h.lo, h.hi, ⟨cur, t, fr, by rw [hb.block o h.lt]; exact hg, hc⟩, fun j hj => (h.piece j hj).keep hb, h.apart, h.far⟩
theorem ArrsBody.win {B C B' C' o off : Nat} {w w' : World} {xs : List Value} {F : List (List Int)} (h : ArrsBody B' C' o off w xs F) (hw : Win B C w w') (hd : C' ≤ B ∨ C ≤ B') : ArrsBody B' C' o off w' xs F := by
  obtain ⟨cur, t, fr, hg, hc⟩ := h.outer
  have h1 := h.lo
  have h2 := h.hi
  exact ⟨h.len, h.lo, h.hi, ⟨cur, t, fr, by rw [hw.block o h.lt (by omega)]; exact hg, hc⟩, fun j hj => (h.piece j hj).win hw hd, h.apart, h.far⟩
theorem Arrs.keep {B C : Nat} {w w' : World} {v : Value} {F : List (List Int)} (h : Arrs B C w v F) (hb : Below w.heap.size w w') : Arrs B C w' v F := by
  obtain ⟨a, n, c, rfl, hF, h⟩ := h
  refine ⟨a, n, c, rfl, hF, ?_⟩
  rcases h with h | ⟨o, off, xs, rfl, h⟩
  · exact .inl h
  · exact .inr ⟨o, off, xs, rfl, h.keep hb⟩
theorem Arrs.win {B C B' C' : Nat} {w w' : World} {v : Value} {F : List (List Int)} (h : Arrs B' C' w v F) (hw : Win B C w w') (hd : C' ≤ B ∨ C ≤ B') : Arrs B' C' w' v F := by
  obtain ⟨a, n, c, rfl, hF, h⟩ := h
  refine ⟨a, n, c, rfl, hF, ?_⟩
  rcases h with h | ⟨o, off, xs, rfl, h⟩
  · exact .inl h
  · exact .inr ⟨o, off, xs, rfl, h.win hw hd⟩
theorem Arrs.mono {B C B' C' : Nat} {w : World} {v : Value} {F : List (List Int)} (h : Arrs B C w v F) (hB : B' ≤ B) (hC : C ≤ C') : Arrs B' C' w v F := by
  obtain ⟨a, n, c, rfl, hF, h⟩ := h
  refine ⟨a, n, c, rfl, hF, ?_⟩
  rcases h with h | ⟨o, off, xs, rfl, h⟩
  · exact .inl h
  · have h1 := h.lo
    have h2 := h.hi
    exact .inr ⟨o, off, xs, rfl, h.len, by omega, by omega, h.outer, fun j hj => (h.piece j hj).mono hB hC, h.apart, h.far⟩
/-- How many numbers the first j lists have. -/
def sumTo (F : List (List Int)) (j : Nat) : Nat := ((F.take j).map List.length).sum
theorem sumTo_zero (F : List (List Int)) : sumTo F 0 = 0 := by simp [sumTo]
theorem sumTo_succ (F : List (List Int)) (j : Nat) : sumTo F (j + 1) = sumTo F j + (F.getD j []).length := by
  unfold sumTo
  by_cases h : j < F.length
  · have e : F.getD j [] = F[j] := by simp [h]
    rw [List.take_succ_eq_append_getElem h, e]
    simp only [List.map_append, List.sum_append, List.map_cons, List.map_nil, List.sum_cons, List.sum_nil, Nat.add_zero]
  · rw [List.take_of_length_le (by omega), List.take_of_length_le (by omega)]
    simp [List.getD, List.getElem?_eq_none (Nat.le_of_not_lt h)]
theorem sumTo_le (F : List (List Int)) (i j : Nat) (h : i ≤ j) : sumTo F i ≤ sumTo F j := by
  induction j with
  | zero => obtain rfl : i = 0 := by omega
            exact Nat.le_refl _
  | succ j ih =>
    by_cases e : i = j + 1
    · subst e; exact Nat.le_refl _
    · have := ih (by omega)
      rw [sumTo_succ]
      omega
theorem sumTo_all (F : List (List Int)) (j : Nat) : sumTo F j ≤ sumTo F F.length := by
  by_cases h : j ≤ F.length
  · exact sumTo_le F j _ h
  · unfold sumTo
    rw [List.take_of_length_le (by omega), List.take_of_length_le (by omega)]
    exact Nat.le_refl _
/-- The lists, the first j of them marked. -/
def mkF (F : List (List Int)) (k0 : Int) (j i : Nat) : List Int := if i < j then upFrom (k0 + sumTo F i) (F.getD i []).length else F.getD i []
def markF (F : List (List Int)) (k0 : Int) (j : Nat) : List (List Int) := (List.range F.length).map (mkF F k0 j)
theorem markF_length (F : List (List Int)) (k0 : Int) (j : Nat) : (markF F k0 j).length = F.length := by simp [markF]
theorem markF_at {F : List (List Int)} {k0 : Int} {j i : Nat} (h : i < F.length) : (markF F k0 j).getD i [] = mkF F k0 j i := by simp [markF, h]
theorem markF_zero (F : List (List Int)) (k0 : Int) : markF F k0 0 = F := by
  apply List.ext_getElem
  · simp [markF]
  · intro i h1 h2
    simp [markF, mkF, h2]
theorem ArrsBody.mark {B C o off j : Nat} {w w' : World} {xs : List Value} {F : List (List Int)} {k0 : Int} (h : ArrsBody B C o off w xs (markF F k0 j)) (hj : j < xs.length) (hp : Piece B C w' (xs.getD j undef) (upFrom (k0 + sumTo F j) (F.getD j []).length)) (ho : Only (xs.getD j undef) w w') :
    ArrsBody B C o off w' xs (markF F k0 (j + 1)) := by
  have hl : xs.length = F.length := by rw [h.len, markF_length]
  obtain ⟨cur, t, fr, hg, hc⟩ := h.outer
  refine ⟨by rw [markF_length]; exact hl, h.lo, h.hi, ⟨cur, t, fr, by rw [ho.block o h.lt (h.far j hj)]; exact hg, hc⟩, fun i hi => ?_, h.apart, h.far⟩
  rw [markF_at (by omega)]
  by_cases e : i = j
  · subst e
    unfold mkF
    rw [if_pos (by omega)]
    exact hp
  · have q := h.piece i hi
    rw [markF_at (by omega)] at q
    have e2 : mkF F k0 (j + 1) i = mkF F k0 j i := by
      unfold mkF
      by_cases e3 : i < j
      · rw [if_pos e3, if_pos (by omega)]
      · rw [if_neg e3, if_neg (by omega)]
    rw [e2]
    refine q.only ho ?_
    by_cases e4 : i < j
    · exact (h.apart i j e4 hj).symm
    · exact h.apart j i (by omega) hi
theorem ArrsBody.onlyWin {B C o off j : Nat} {w w' : World} {xs : List Value} {F : List (List Int)} (h : ArrsBody B C o off w xs F) (hj : j < xs.length) (ho : Only (xs.getD j undef) w w') : Win B C w w' := ho.win (h.piece j hj)
end Go.Proofs.YtcaidhmolnnikaaDoor
