/-
  Walks: slices.Reverse on a list of up to three numbers (a shape, an index).
-/
import Derived.Test.YtbmkfmppcojcgaaEachP
import Derived.Test.YtbmkfmppcojcgaaLaw3
namespace Go.Proofs.Ytbmkfmppcojcgaa
open Go.RowKit
set_option linter.unusedVariables false
set_option linter.unusedSimpArgs false
set_option maxHeartbeats 1000000 in
theorem rev_none {l : List Int} {a : Option Addr} {c : Nat} {w : World} (hl : l.length = 0 ∨ l.length = 1) :
    Calls Try.prog 69 #[.slice a l.length c] w fun r w' => (∃ v, r = .returned v) ∧ w' = w := by
  rcases hl with hl | hl
  all_goals
    rw [hl]
    go_enter Try.func69, Try.ntmps69
    go_wp2
    refine wp_loop_rounds 1 ?_
    rw [rounds_succ]
    go_wp2
    go_end0
    exact ⟨⟨_, rfl⟩, rfl⟩
set_option maxHeartbeats 1000000 in
theorem rev_two {B C g off c : Nat} {x y z : Int} {w : World} (h : Piece B C w (.slice (some ⟨g, off, none⟩) 2 c) [x, y]) :
    Calls Try.prog 69 #[.slice (some ⟨g, off, none⟩) 2 c] w fun r w' => (∃ v, r = .returned v) ∧ w' = (w.drew.setCell ⟨g, off, none⟩ (.int .i64 y)).setCell ⟨g, off + 1, none⟩ (.int .i64 x) := by
  obtain ⟨t0, t1, _, _, _⟩ := h.cellAt (k := 0) (by simp)
  obtain ⟨u0, u1, _, _, _⟩ := h.cellAt (k := 1) (by simp)
  rw [Nat.add_zero] at t0 t1
  have t0 : w.cell? ⟨g, off, none⟩ = some (.int .i64 x) := t0
  have u0 : w.cell? ⟨g, off + 1, none⟩ = some (.int .i64 y) := u0
  clear h
  go_enter Try.func69, Try.ntmps69
  go_wp2
  refine wp_loop_rounds 2 ?_
  rw [rounds_succ]
  go_wp2
  go_region
  go_wp2
  rw [rounds_succ]
  go_wp2
  go_end0
  exact ⟨⟨_, rfl⟩, rfl⟩
set_option maxHeartbeats 1000000 in
theorem rev_three {B C g off c : Nat} {x y z : Int} {w : World} (h : Piece B C w (.slice (some ⟨g, off, none⟩) 3 c) [x, z, y]) :
    Calls Try.prog 69 #[.slice (some ⟨g, off, none⟩) 3 c] w fun r w' => (∃ v, r = .returned v) ∧ w' = (w.drew.setCell ⟨g, off, none⟩ (.int .i64 y)).setCell ⟨g, off + 2, none⟩ (.int .i64 x) := by
  obtain ⟨t0, t1, _, _, _⟩ := h.cellAt (k := 0) (by simp)
  obtain ⟨u0, u1, _, _, _⟩ := h.cellAt (k := 2) (by simp)
  rw [Nat.add_zero] at t0 t1
  have t0 : w.cell? ⟨g, off, none⟩ = some (.int .i64 x) := t0
  have u0 : w.cell? ⟨g, off + 2, none⟩ = some (.int .i64 y) := u0
  clear h
  go_enter Try.func69, Try.ntmps69
  go_wp2
  refine wp_loop_rounds 2 ?_
  rw [rounds_succ]
  go_wp2
  go_region
  go_wp2
  rw [rounds_succ]
  go_wp2
  go_end0
  exact ⟨⟨_, rfl⟩, rfl⟩
/-- slices.Reverse, on a list of one's own of up to three numbers. -/
theorem reverse_impl {B C g off c : Nat} {l : List Int} {w : World} (h : Piece B C w (.slice (some ⟨g, off, none⟩) l.length c) l) (hl : l.length ≤ 3) (hg : l ≠ [] → B ≤ g ∧ g < C) :
    Calls Try.prog 69 #[.slice (some ⟨g, off, none⟩) l.length c] w fun r w' => (∃ v, r = .returned v) ∧ Piece B C w' (.slice (some ⟨g, off, none⟩) l.length c) l.reverse ∧ (w' = w ∨ l ≠ [] ∧ ∃ k y x, w' = (w.drew.setCell ⟨g, off, none⟩ y).setCell ⟨g, off + k, none⟩ x) := by
  match l, hl, h with
  | [], _, h =>
    refine (rev_none (l := []) (.inl rfl)).mono ?_
    rintro r w' ⟨hr, rfl⟩
    exact ⟨hr, h, .inl rfl⟩
  | [x], _, h =>
    refine (rev_none (l := [x]) (.inr rfl)).mono ?_
    rintro r w' ⟨hr, rfl⟩
    exact ⟨hr, h, .inl rfl⟩
  | [x, y], _, h =>
    refine (rev_two (z := 0) h).mono ?_
    rintro r w' ⟨hr, rfl⟩
    refine ⟨hr, ?_, .inr ⟨by simp, 1, _, _, rfl⟩⟩
    have h1 : Piece B C w.drew (.slice (some ⟨g, off, none⟩) 2 c) [x, y] := h.keep (Below.refl w.heap.size w).drew
    have h2 := Piece.set (l := [x, y]) h1 (k := 0) (by simp) y
    have h3 := Piece.set (l := [y, y]) h2 (k := 1) (by simp) x
    exact h3
  | [x, z, y], _, h =>
    refine (rev_three h).mono ?_
    rintro r w' ⟨hr, rfl⟩
    refine ⟨hr, ?_, .inr ⟨by simp, 2, _, _, rfl⟩⟩
    have h1 : Piece B C w.drew (.slice (some ⟨g, off, none⟩) 3 c) [x, z, y] := h.keep (Below.refl w.heap.size w).drew
    have h2 := Piece.set (l := [x, z, y]) h1 (k := 0) (by simp) y
    have h3 := Piece.set (l := [y, z, y]) h2 (k := 2) (by simp) x
    exact h3
  | _ :: _ :: _ :: _ :: _, hl, _ => simp at hl
end Go.Proofs.Ytbmkfmppcojcgaa
