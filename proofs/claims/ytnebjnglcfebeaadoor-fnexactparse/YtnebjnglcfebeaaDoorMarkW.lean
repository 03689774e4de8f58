/-
  Lists of numbers marked from great numbers on; sums of lengths.
-/
import Derived.Test.YtnebjnglcfebeaaDoorPiece
namespace Go.Proofs.YtnebjnglcfebeaaDoor
open Go.RowKit
set_option linter.unusedVariables false
set_option linter.unusedSimpArgs false
set_option maxRecDepth 20000 in
set_option maxHeartbeats 1000000 in
theorem mark_atW (cur0 : Array Value) (t : TypeId) (g off n c : Nat) (k0 : Int) (w : World) (hn : n ≤ 1048576) (p1 : 0 ≤ k0) (p2 : k0 ≤ 4611686018427387904) (h1 : w.heap[g]? = some (.cells cur0 t (0, 0))) (hs : off + n ≤ cur0.size) :
    Calls Tryd.prog 44 #[.slice (some ⟨g, off, none⟩) n c, .int .i64 k0] w fun e w' => e = .returned (.int .i64 (k0 + n)) ∧ (∃ A : Array Value, w'.heap[g]? = some (.cells A t (0, 0)) ∧ (∀ i, i < n → A[off + i]? = some (.int .i64 (k0 + i))) ∧ ∀ i, (i < off ∨ off + n ≤ i) → A[i]? = cur0[i]?) ∧ But g w w' ∧ w'.heap.size = w.heap.size := by
  have H1 : Hid (w.heap[g]? = some (.cells cur0 t (0, 0))) := h1
  have HS : Hid (off + n ≤ cur0.size) := hs
  clear h1 hs
  go_enter Tryd.func44, Tryd.ntmps44
  go_wp2
  go_loopw [1, 5] (fun q i w' => ∃ (k : Nat) (A : Array Value), k ≤ n ∧ i = .int .i64 k ∧ q = .int .i64 (k0 + k) ∧ w'.heap[g]? = some (.cells A t (0, 0)) ∧ (A.size = cur0.size ∧ (∀ i, i < k → A[off + i]? = some (.int .i64 (k0 + i))) ∧ ∀ i, (i < off ∨ off + n ≤ i) → A[i]? = cur0[i]?) ∧ But g w w' ∧ w'.heap.size = w.heap.size) (fun _ i _ => n - (intOf i).toNat)
  case atStart => exact ⟨0, cur0, by omega, rfl, by simp, H1.out, ⟨rfl, fun i hi => by omega, fun _ _ => rfl⟩, But.refl _ _, rfl⟩
  case round =>
    obtain ⟨k, A, hk, rfl, rfl, hg, hA, hb, hz⟩ := hrel
    have HG : Hid (wr.heap[g]? = some (.cells A t (0, 0))) := hg
    have HA : Hid (A.size = cur0.size ∧ (∀ i, i < k → A[off + i]? = some (.int .i64 (k0 + i))) ∧ ∀ i, (i < off ∨ off + n ≤ i) → A[i]? = cur0[i]?) := hA
    have HB : Hid (But g w wr ∧ wr.heap.size = w.heap.size) := ⟨hb, hz⟩
    by_cases hlt : (k : Int) < (n : Int)
    · have L2 : off + k < A.size := by have := hA.1; have := HS.out; omega
      obtain ⟨z, hz'⟩ : ∃ z, wr.cell? ⟨g, off + k, none⟩ = some z := ⟨A[off + k], by simp [World.cell?, hg, L2]⟩
      have fz : wr.frozen? ⟨g, off + k, none⟩ = false := by simp [World.frozen?, hg]
      have HN : Hid ((wr.setCell ⟨g, off + k, none⟩ (.int .i64 (k0 + k))).heap[g]? = some (.cells (A.setIfInBounds (off + k) (.int .i64 (k0 + k))) t (0, 0))) := heap_setCell_same wr g (off + k) _ _ (.int .i64 (k0 + k)) hg
      have HA' : Hid ((A.setIfInBounds (off + k) (.int .i64 (k0 + k))).size = cur0.size ∧ (∀ i, i < k + 1 → (A.setIfInBounds (off + k) (.int .i64 (k0 + k)))[off + i]? = some (.int .i64 (k0 + i))) ∧ ∀ i, (i < off ∨ off + n ≤ i) → (A.setIfInBounds (off + k) (.int .i64 (k0 + k)))[i]? = cur0[i]?) := by
        refine ⟨by rw [Array.size_setIfInBounds]; exact hA.1, fun i hi => ?_, fun i hi => ?_⟩
        · rw [Array.getElem?_setIfInBounds]
          by_cases e : i = k
          · subst e; simp [L2]
          · rw [if_neg (by omega)]; exact hA.2.1 i (by omega)
        · rw [Array.getElem?_setIfInBounds, if_neg (by omega)]; exact hA.2.2 i hi
      have HZ : Hid ((wr.setCell ⟨g, off + k, none⟩ (.int .i64 (k0 + k))).heap.size = w.heap.size) := by show _ = _; rw [← hz]; simp [World.setCell]
      clear hg hA hb L2 hz
      go_wp2
      go_roundw
      case rel => exact ⟨k + 1, A.setIfInBounds (off + k) (.int .i64 (k0 + k)), by omega, by go_num, by go_num, HN.out, HA'.out, HB.out.1.setCell (off + k) _, HZ.out⟩
      case measure => simp [intOf]; omega
    · have e : k = n := by omega
      subst e
      clear hg hA hb hz
      go_wp2
      go_ret
      exact ⟨rfl, ⟨A, HG.out, HA.out.2⟩, HB.out.1, HB.out.2⟩
set_option maxRecDepth 20000 in
set_option maxHeartbeats 1000000 in
/-- A piece is marked: its own cells turn, no other one. -/
theorem mark_pieceW {B C : Nat} {w : World} {v : Value} {l : List Int} (h : Piece B C w v l) (hn : l.length ≤ 1048576) (k0 : Int) (p1 : 0 ≤ k0) (p2 : k0 ≤ 4611686018427387904) :
    Calls Tryd.prog 44 #[v, .int .i64 k0] w fun e w' => e = .returned (.int .i64 (k0 + l.length)) ∧ Piece B C w' v (upFrom k0 l.length) ∧ Only v w w' := by
  obtain ⟨a, c, rfl, hle, h⟩ := h
  by_cases h0 : l.length = 0
  · rw [h0]
    refine (mark_nil a c k0 w).mono ?_
    rintro e w' ⟨rfl, rfl⟩
    exact ⟨by simp, ⟨a, c, by simp [upFrom], by simp [upFrom], .inl (by simp [upFrom])⟩, Only.refl _ _⟩
  · rcases h with rfl | ⟨g, off, cur, t, rfl, h1, h2, hg, r⟩
    · exact absurd rfl h0
    · have hs : off + l.length ≤ cur.size := by
        have := (Array.getElem?_eq_some_iff.1 (r (l.length - 1) (by omega))).1
        omega
      refine (mark_atW cur t g off l.length c k0 w hn p1 p2 hg hs).mono ?_
      rintro e w' ⟨rfl, ⟨A, hA, a1, a2⟩, hb, hz⟩
      refine ⟨rfl, ⟨_, c, by rw [upFrom_length], by rw [upFrom_length]; exact hle, .inr ⟨g, off, A, t, rfl, h1, h2, hA, fun k hk => ?_⟩⟩, ⟨hb.os, hb.tape, hb.output, hz, fun k hk hq => hb.block k hk fun e => ?_, fun g' off' n' c' e cur' t' hg' => ?_⟩⟩
      · rw [upFrom_length] at hk
        rw [a1 k hk, upFrom_at hk]
      · subst e
        exact h0 (hq off l.length c rfl)
      · cases e
        rw [hg] at hg'
        cases hg'
        exact ⟨A, hA, a2⟩
/-- How many numbers the first i have, L each and their lists. -/
def totN (L : Nat) (N : Nat → List Int) : Nat → Nat
  | 0 => 0
  | i + 1 => totN L N i + (L + (N i).length)
theorem totN_le {L : Nat} {N : Nat → List Int} (hl : ∀ i, (N i).length ≤ 1048576) (hL : L ≤ 6) {i : Nat} (hi : i ≤ 1048576) : totN L N i ≤ 1099518000000 := by
  have : ∀ j, totN L N j ≤ j * (L + 1048576) := fun j => by
    induction j with
    | zero => simp [totN]
    | succ j ih =>
      have := hl j
      rw [totN, Nat.succ_mul]
      omega
  have q := this i
  have r : i * (L + 1048576) ≤ 1048576 * 1048582 := Nat.mul_le_mul hi (by omega)
  omega
theorem totN_mono (L : Nat) (N : Nat → List Int) {i j : Nat} (h : i ≤ j) : totN L N i ≤ totN L N j := by
  induction j with
  | zero => rw [show i = 0 by omega]; exact Nat.le_refl _
  | succ j ih =>
    by_cases e : i = j + 1
    · rw [e]; exact Nat.le_refl _
    · have := ih (by omega); rw [totN]; omega
theorem lo_mono {lo : Nat → Nat} {k : Nat} (h : ∀ i, i < k → lo i ≤ lo (i + 1)) {i j : Nat} (hij : i ≤ j) (hj : j ≤ k) : lo i ≤ lo j := by
  induction j with
  | zero => rw [show i = 0 by omega]; exact Nat.le_refl _
  | succ j ih =>
    by_cases e : i = j + 1
    · rw [e]; exact Nat.le_refl _
    · exact Nat.le_trans (ih (by omega) (by omega)) (h j (by omega))
end Go.Proofs.YtnebjnglcfebeaaDoor
