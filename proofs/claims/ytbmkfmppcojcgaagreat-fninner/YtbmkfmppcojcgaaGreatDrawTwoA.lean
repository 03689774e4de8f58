
/-
  Walks: the specification's l3DrawTwo.
-/
import Derived.Test.YtbmkfmppcojcgaaGreatDrawFill3
import Derived.Test.YtbmkfmppcojcgaaGreatSpecCopy
import Derived.Test.YtbmkfmppcojcgaaGreatSpecPlace
namespace Go.Proofs.YtbmkfmppcojcgaaGreat
open Go.RowKit
set_option linter.unusedVariables false
set_option linter.unusedSimpArgs false
/-- Two arrays in two cells. -/
theorem results_arr2 {fn : Func} {p q : Tmp} (h : fn.results = #[.cell p 26, .cell q 26]) (tmps : Array Value) (w : World) (g k : Nat) (x y x' y' : Value) (hp : tmps.getD p undef = .pointer (some ⟨g, 0, none⟩)) (hq : tmps.getD q undef = .pointer (some ⟨k, 0, none⟩))
    (hg : w.heap[g]? = some (.cells #[x, y] 26 (0, 0))) (hk : w.heap[k]? = some (.cells #[x', y'] 26 (0, 0))) : (results fn tmps).run Tryz.prog w = .ok (.tuple #[.agg #[x, y], .agg #[x', y']]) w := by
  have e : (asAddr (.pointer (some ⟨g, 0, none⟩))).run Tryz.prog w = .ok ⟨g, 0, none⟩ w := by simp [asAddr]
  have e' : (asAddr (.pointer (some ⟨k, 0, none⟩))).run Tryz.prog w = .ok ⟨k, 0, none⟩ w := by simp [asAddr]
  have l := arr_loaded hg
  have l' := arr_loaded hk
  have hp' : tmps[p]?.getD undef = .pointer (some ⟨g, 0, none⟩) := by simpa using hp
  have hq' : tmps[q]?.getD undef = .pointer (some ⟨k, 0, none⟩) := by simpa using hq
  simp [results, h, hp', hq', e, e', l, l', Sem.run_bind, Result.andThen]
theorem two_end {w W : World} {x y x' y' : Value} {s d t f : List Int} (ra : Box W w.heap.size (.slice none 0 0) (.slice none 0 0) 26) (rb : Box W (w.heap.size + 1) (.slice none 0 0) (.slice none 0 0) 26) (A : Arr (w.heap.size + 2) W.heap.size W (.agg #[x, y]) s d) (B : Arr (w.heap.size + 2) W.heap.size W (.agg #[x', y']) t f) (bl : Below w.heap.size w W) :
    ((((W.setCell ⟨w.heap.size, 0, none⟩ x).setCell ⟨w.heap.size, 1, none⟩ y).setCell ⟨w.heap.size + 1, 0, none⟩ x').setCell ⟨w.heap.size + 1, 1, none⟩ y').heap[w.heap.size]? = some (.cells #[x, y] 26 (0, 0)) ∧
    ((((W.setCell ⟨w.heap.size, 0, none⟩ x).setCell ⟨w.heap.size, 1, none⟩ y).setCell ⟨w.heap.size + 1, 0, none⟩ x').setCell ⟨w.heap.size + 1, 1, none⟩ y').heap[w.heap.size + 1]? = some (.cells #[x', y'] 26 (0, 0)) ∧
    Arr w.heap.size ((((W.setCell ⟨w.heap.size, 0, none⟩ x).setCell ⟨w.heap.size, 1, none⟩ y).setCell ⟨w.heap.size + 1, 0, none⟩ x').setCell ⟨w.heap.size + 1, 1, none⟩ y').heap.size ((((W.setCell ⟨w.heap.size, 0, none⟩ x).setCell ⟨w.heap.size, 1, none⟩ y).setCell ⟨w.heap.size + 1, 0, none⟩ x').setCell ⟨w.heap.size + 1, 1, none⟩ y') (.agg #[x, y]) s d ∧
    Arr w.heap.size ((((W.setCell ⟨w.heap.size, 0, none⟩ x).setCell ⟨w.heap.size, 1, none⟩ y).setCell ⟨w.heap.size + 1, 0, none⟩ x').setCell ⟨w.heap.size + 1, 1, none⟩ y').heap.size ((((W.setCell ⟨w.heap.size, 0, none⟩ x).setCell ⟨w.heap.size, 1, none⟩ y).setCell ⟨w.heap.size + 1, 0, none⟩ x').setCell ⟨w.heap.size + 1, 1, none⟩ y') (.agg #[x', y']) t f ∧
    Below w.heap.size w ((((W.setCell ⟨w.heap.size, 0, none⟩ x).setCell ⟨w.heap.size, 1, none⟩ y).setCell ⟨w.heap.size + 1, 0, none⟩ x').setCell ⟨w.heap.size + 1, 1, none⟩ y') := by
  have a1 : Box ((W.setCell ⟨w.heap.size, 0, none⟩ x).setCell ⟨w.heap.size, 1, none⟩ y) w.heap.size x y 26 := arr_stored ra
  have b1 : Box ((W.setCell ⟨w.heap.size, 0, none⟩ x).setCell ⟨w.heap.size, 1, none⟩ y) (w.heap.size + 1) (.slice none 0 0) (.slice none 0 0) 26 := (rb.win (win_setCell _ _ _ _) (.inr (Nat.le_refl _))).win (win_setCell _ _ _ _) (.inr (Nat.le_refl _))
  exact ⟨(a1.win (win_setCell _ _ _ _) (.inl (Nat.lt_succ_self _))).win (win_setCell _ _ _ _) (.inl (Nat.lt_succ_self _)), arr_stored b1, ((((A.setCell (by omega) _ _).setCell (by omega) _ _).setCell (by omega) _ _).setCell (by omega) _ _).mono (by omega) (by simp [size_setCell]), ((((B.setCell (by omega) _ _).setCell (by omega) _ _).setCell (by omega) _ _).setCell (by omega) _ _).mono (by omega) (by simp [size_setCell]),
    below_setCell (below_setCell (below_setCell (below_setCell bl (Nat.le_refl _) _ _) (Nat.le_refl _) _ _) (by omega) _ _) (by omega) _ _⟩
theorem Arr.but {B C G : Nat} {w w' : World} {v : Value} {s d : List Int} (h : Arr B C w v s d) (hb : But G w w') (hd : G < B ∨ C ≤ G) : Arr B C w' v s d := by
  obtain ⟨x, y, rfl, h1, h2, h3⟩ := h
  exact ⟨x, y, rfl, h1.but hb hd, h2.but hb hd, h3⟩
end Go.Proofs.YtbmkfmppcojcgaaGreat
