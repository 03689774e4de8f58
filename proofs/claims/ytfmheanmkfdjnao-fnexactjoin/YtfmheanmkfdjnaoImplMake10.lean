/-
  Walks: withRows once more: what it answers stays where nothing new is turned.
-/
import Derived.Test.YtfmheanmkfdjnaoImplMake9
import Derived.Test.YtfmheanmkfdjnaoImplMake1
namespace Go.Proofs.Ytfmheanmkfdjnao
open Go.RowKit
set_option linter.unusedVariables false
set_option linter.unusedSimpArgs false
set_option maxRecDepth 20000 in
set_option maxHeartbeats 2000000 in
theorem withRows3_impl {G : World → Prop} {t e : List Int} {w : World} {a b : Option Addr} {c f : Nat} (hG : ∀ W, G W → IntsI W (.slice a t.length c) t) :
    Calls Try.prog 46 #[.agg #[.slice a t.length c, .slice b e.length f]] w fun r w' => ∃ a2 c2, r = .returned (.agg #[.slice a2 (rowsS t).length c2, .slice b e.length f]) ∧ (∀ W : World, G W → (∀ o, w.heap.size ≤ o → o < w'.heap.size → W.heap[o]? = w'.heap[o]?) → w'.heap.size ≤ W.heap.size → IntsI W (.slice a2 (rowsS t).length c2) (rowsS t)) ∧ Below w.heap.size w w' := by
  by_cases h0 : t = []
  · have HS : Hid (rowsS t = [1]) := by show _ = _; unfold rowsS; rw [if_pos h0]
    subst h0
    rw [HS.out]
    simp only [List.length_nil, List.length_cons, Nat.zero_add]
    clear hG
    go_enter Try.func46, Try.ntmps46
    go_wp2
    refine bodyPost_ret (v := .agg #[.slice (some ⟨w.heap.size + 1 + 1, 0, none⟩) 1 1, .slice b e.length f]) (results_arr rfl _ _ (w.heap.size + 1) _ _ rfl ?_) rfl ?_
    · exact (box_new2 w _ _ _ _).keep (bAlloc (Below.refl _ _) _)
    · refine ⟨_, 1, rfl, fun W _ hW hs => ?_, bAlloc (bAlloc (bAlloc (Below.refl _ _) _) _) _⟩
      have q := (three5 w (.cells #[.slice a 0 c, .slice b e.length f] 26) (.cells #[.slice (some ⟨w.heap.size + 1 + 1, 0, none⟩) 1 1, .slice b e.length f] 26) (.cells #[.int .i64 1] 3)).2.2
      have k := hW (w.heap.size + 1 + 1) (by omega) (lt_of_heapA q)
      rw [q] at k
      refine ⟨_, 1, rfl, by simp, .inr ⟨w.heap.size + 1 + 1, 0, rfl, lt_of_heapA k, fun j hj => ?_⟩⟩
      have : j = 0 := by simp at hj; omega
      subst this
      exact cell_at k rfl
  · have HS : Hid (rowsS t = t) := by show _ = _; unfold rowsS; rw [if_neg h0]
    have hne : ((t.length : Int) == 0) = false := by simp; exact h0
    have HG : Hid (∀ W, G W → IntsI W (.slice a t.length c) t) := hG
    rw [HS.out]
    clear h0 HS hG
    generalize t.length = n at *
    go_enter Try.func46, Try.ntmps46
    go_wp2
    refine bodyPost_ret (v := .agg #[.slice a n c, .slice b e.length f]) (results_arr rfl _ _ (w.heap.size + 1) _ _ rfl ?_) rfl ?_
    · exact box_new2 w _ _ _ _
    · exact ⟨a, c, rfl, fun W h _ _ => HG.out W h, bAlloc (bAlloc (Below.refl _ _) _) _⟩
end Go.Proofs.Ytfmheanmkfdjnao
