/-
  A number of a list in memory told anew: what turns, and what stays.
-/
import Derived.Test.YtfmheanmkfdjnaiArrM
import Derived.Test.YtfmheanmkfdjnaiLaw3
namespace Go.Proofs.Ytfmheanmkfdjnai
open Go.RowKit
set_option linter.unusedVariables false
set_option linter.unusedSimpArgs false
theorem only_setCell (w : World) (g off n c k : Nat) (u : Value) (hk : k < n) : Only (.slice (some ⟨g, off, none⟩) n c) w (w.setCell ⟨g, off + k, none⟩ u) := by
  refine ⟨rfl, rfl, rfl, size_setCell _ _ _, fun j hj hq => Below.heap_setCell _ _ _ _ (fun e => ?_), fun g' off' n' c' e cur t hg => ?_⟩
  · have := hq off n c (by rw [show j = g from e])
    omega
  · cases e
    refine ⟨_, heap_setCell_same w g (off + k) _ _ u hg, fun i hi => ?_⟩
    rw [Array.getElem?_setIfInBounds, if_neg (by omega)]
theorem Piece.set {B C g off c k : Nat} {w : World} {l : List Int} (h : Piece B C w (.slice (some ⟨g, off, none⟩) l.length c) l) (hk : k < l.length) (x : Int) : Piece B C (w.setCell ⟨g, off + k, none⟩ (.int .i64 x)) (.slice (some ⟨g, off, none⟩) l.length c) (l.set k x) := by
  obtain ⟨a, c', e, hle, h⟩ := h
  cases e
  refine ⟨_, _, by rw [List.length_set], by rw [List.length_set]; exact hle, ?_⟩
  rcases h with rfl | ⟨g', off', cur, t, e, h1, h2, hg, r⟩
  · simp at hk
  · cases e
    have hs : off + k < cur.size := by
      have := (Array.getElem?_eq_some_iff.1 (r k hk)).1
      exact this
    refine .inr ⟨g, off, _, t, rfl, h1, h2, heap_setCell_same w g (off + k) _ _ _ hg, fun j hj => ?_⟩
    rw [List.length_set] at hj
    rw [Array.getElem?_setIfInBounds]
    by_cases e : k = j
    · subst e
      rw [if_pos rfl, if_pos hs]
      simp [List.getD, hk]
    · rw [if_neg (by omega), r j hj]
      simp [List.getD, e]
/-- The cell of a number of a piece, and that it may be written. -/
theorem Piece.cellAt {B C g off n c k : Nat} {w : World} {l : List Int} (h : Piece B C w (.slice (some ⟨g, off, none⟩) n c) l) (hk : k < l.length) : w.cell? ⟨g, off + k, none⟩ = some (.int .i64 (l.getD k 0)) ∧ w.frozen? ⟨g, off + k, none⟩ = false ∧ B ≤ g ∧ g < C ∧ g < w.heap.size := by
  obtain ⟨a, c', e, _, h⟩ := h
  cases e
  rcases h with rfl | ⟨g', off', cur, t, e, h1, h2, hg, r⟩
  · simp at hk
  · cases e
    exact ⟨cell_at hg (r k hk), free_at hg _, h1, h2, lt_of_heapA hg⟩
theorem Piece.some {B C n c : Nat} {a : Option Addr} {w : World} {l : List Int} (h : Piece B C w (.slice a n c) l) (hl : 0 < l.length) : ∃ g off, a = .some ⟨g, off, none⟩ := by
  obtain ⟨a', c', e, _, h⟩ := h
  cases e
  rcases h with rfl | ⟨g', off', cur, t, e, _⟩
  · simp at hl
  · exact ⟨g', off', e⟩
end Go.Proofs.Ytfmheanmkfdjnai
namespace Go.Proofs.Ytfmheanmkfdjnai
open Go.RowKit
set_option linter.unusedVariables false
set_option linter.unusedSimpArgs false
set_option maxHeartbeats 1000000 in
theorem rev_none {l : List Int} {a : Option Addr} {c : Nat} {w : World} (hl : l.length = 0 ∨ l.length = 1) :
    Calls Try.prog 55 #[.slice a l.length c] w fun r w' => (∃ v, r = .returned v) ∧ w' = w := by
  rcases hl with hl | hl
  all_goals
    rw [hl]
    go_enter Try.func55, Try.ntmps55
    go_wp2
    refine wp_loop_rounds 1 ?_
    rw [rounds_succ]
    go_wp2
    go_end0
    exact ⟨⟨_, rfl⟩, rfl⟩
set_option maxHeartbeats 1000000 in
theorem rev_two {B C g off c : Nat} {x y z : Int} {w : World} (h : Piece B C w (.slice (some ⟨g, off, none⟩) 2 c) [x, y]) :
    Calls Try.prog 55 #[.slice (some ⟨g, off, none⟩) 2 c] w fun r w' => (∃ v, r = .returned v) ∧ w' = (w.drew.setCell ⟨g, off, none⟩ (.int .i64 y)).setCell ⟨g, off + 1, none⟩ (.int .i64 x) := by
  obtain ⟨t0, t1, _, _, _⟩ := h.cellAt (k := 0) (by simp)
  obtain ⟨u0, u1, _, _, _⟩ := h.cellAt (k := 1) (by simp)
  rw [Nat.add_zero] at t0 t1
  have t0 : w.cell? ⟨g, off, none⟩ = some (.int .i64 x) := t0
  have u0 : w.cell? ⟨g, off + 1, none⟩ = some (.int .i64 y) := u0
  clear h
  go_enter Try.func55, Try.ntmps55
  go_wp2
  refine wp_loop_rounds 2 ?_
  rw [rounds_succ]
  go_wp2
  go_region
  go_wp2
  rw [rounds_succ]
  go_wp2
  go_end0
  exact ⟨⟨_, rfl⟩, rfl⟩
set_option maxHeartbeats 1000000 in
theorem rev_three {B C g off c : Nat} {x y z : Int} {w : World} (h : Piece B C w (.slice (some ⟨g, off, none⟩) 3 c) [x, z, y]) :
    Calls Try.prog 55 #[.slice (some ⟨g, off, none⟩) 3 c] w fun r w' => (∃ v, r = .returned v) ∧ w' = (w.drew.setCell ⟨g, off, none⟩ (.int .i64 y)).setCell ⟨g, off + 2, none⟩ (.int .i64 x) := by
  obtain ⟨t0, t1, _, _, _⟩ := h.cellAt (k := 0) (by simp)
  obtain ⟨u0, u1, _, _, _⟩ := h.cellAt (k := 2) (by simp)
  rw [Nat.add_zero] at t0 t1
  have t0 : w.cell? ⟨g, off, none⟩ = some (.int .i64 x) := t0
  have u0 : w.cell? ⟨g, off + 2, none⟩ = some (.int .i64 y) := u0
  clear h
  go_enter Try.func55, Try.ntmps55
  go_wp2
  refine wp_loop_rounds 2 ?_
  rw [rounds_succ]
  go_wp2
  go_region
  go_wp2
  rw [rounds_succ]
  go_wp2
  go_end0
  exact ⟨⟨_, rfl⟩, rfl⟩
/-- slices.Reverse, on a list of one's own of up to three numbers. -/
theorem reverse_impl {B C g off c : Nat} {l : List Int} {w : World} (h : Piece B C w (.slice (some ⟨g, off, none⟩) l.length c) l) (hl : l.length ≤ 3) (hg : l ≠ [] → B ≤ g ∧ g < C) :
    Calls Try.prog 55 #[.slice (some ⟨g, off, none⟩) l.length c] w fun r w' => (∃ v, r = .returned v) ∧ Piece B C w' (.slice (some ⟨g, off, none⟩) l.length c) l.reverse ∧ (w' = w ∨ l ≠ [] ∧ ∃ k y x, w' = (w.drew.setCell ⟨g, off, none⟩ y).setCell ⟨g, off + k, none⟩ x) := by
  match l, hl, h with
  | [], _, h =>
    refine (rev_none (l := []) (.inl rfl)).mono ?_
    rintro r w' ⟨hr, rfl⟩
    exact ⟨hr, h, .inl rfl⟩
  | [x], _, h =>
    refine (rev_none (l := [x]) (.inr rfl)).mono ?_
    rintro r w' ⟨hr, rfl⟩
    exact ⟨hr, h, .inl rfl⟩
  | [x, y], _, h =>
    refine (rev_two (z := 0) h).mono ?_
    rintro r w' ⟨hr, rfl⟩
    refine ⟨hr, ?_, .inr ⟨by simp, 1, _, _, rfl⟩⟩
    have h1 : Piece B C w.drew (.slice (some ⟨g, off, none⟩) 2 c) [x, y] := h.keep (Below.refl w.heap.size w).drew
    have h2 := Piece.set (l := [x, y]) h1 (k := 0) (by simp) y
    have h3 := Piece.set (l := [y, y]) h2 (k := 1) (by simp) x
    exact h3
  | [x, z, y], _, h =>
    refine (rev_three h).mono ?_
    rintro r w' ⟨hr, rfl⟩
    refine ⟨hr, ?_, .inr ⟨by simp, 2, _, _, rfl⟩⟩
    have h1 : Piece B C w.drew (.slice (some ⟨g, off, none⟩) 3 c) [x, z, y] := h.keep (Below.refl w.heap.size w).drew
    have h2 := Piece.set (l := [x, z, y]) h1 (k := 0) (by simp) y
    have h3 := Piece.set (l := [y, z, y]) h2 (k := 2) (by simp) x
    exact h3
  | _ :: _ :: _ :: _ :: _, hl, _ => simp at hl
end Go.Proofs.Ytfmheanmkfdjnai
