/-
  Several walks, one behind the other: MarkW, TreeO, TreeK, TreeT, TreeF, TreeV, TreeX, TokS, ParS8, TreeP, TokK, ParI9, ParJ, ParK, DrawTy, TtG, DrawPs, BrkM, BrkW, SameT.
-/
import Derived.Test.YtnebjnglcfebeaaDoorPiece
import Derived.Test.YtnebjnglcfebeaaDoorTreeU
import Derived.Test.YtnebjnglcfebeaaDoorTreeQ
import Derived.Test.YtnebjnglcfebeaaDoorFrame
import Derived.Deep.Slices
import Derived.Lib.SmallJoins
import Derived.Test.YtnebjnglcfebeaaDoorTokW
import Derived.Laws.BytesArg
import Derived.Test.YtnebjnglcfebeaaDoorParS7
import Derived.Test.YtnebjnglcfebeaaDoorParI8
import Derived.Test.YtnebjnglcfebeaaDoorTokOk
import Derived.Defers
import Derived.Recover
import Derived.RegionDies
import Derived.Laws.Pointers
import Derived.Test.YtnebjnglcfebeaaDoorDrawTx
import Derived.Test.YtnebjnglcfebeaaDoorDrawZ
import Derived.Deep.RegionHeld3
import Derived.Test.YtnebjnglcfebeaaDoorTokQ
import Derived.Deep.AppendSrc
import Derived.Test.YtnebjnglcfebeaaDoorLexS
import Derived.Test.YtnebjnglcfebeaaDoorParM
import Derived.Deep.RegionLaw
namespace Go.Proofs.YtnebjnglcfebeaaDoor
open Go.RowKit
set_option linter.unusedVariables false
set_option linter.unusedSimpArgs false
set_option maxRecDepth 20000 in
set_option maxHeartbeats 1000000 in
theorem mark_atW (cur0 : Array Value) (t : TypeId) (g off n c : Nat) (k0 : Int) (w : World) (hn : n ≤ 1048576) (p1 : 0 ≤ k0) (p2 : k0 ≤ 4611686018427387904) (h1 : w.heap[g]? = some (.cells cur0 t (0, 0))) (hs : off + n ≤ cur0.size) :
    Calls Tryd.prog 44 #[.slice (some ⟨g, off, none⟩) n c, .int .i64 k0] w fun e w' => e = .returned (.int .i64 (k0 + n)) ∧ (∃ A : Array Value, w'.heap[g]? = some (.cells A t (0, 0)) ∧ (∀ i, i < n → A[off + i]? = some (.int .i64 (k0 + i))) ∧ ∀ i, (i < off ∨ off + n ≤ i) → A[i]? = cur0[i]?) ∧ But g w w' ∧ w'.heap.size = w.heap.size := by
  have H1 : Hid (w.heap[g]? = some (.cells cur0 t (0, 0))) := h1
  have HS : Hid (off + n ≤ cur0.size) := hs
  clear h1 hs
  go_enter Tryd.func44, Tryd.ntmps44
  go_wp2
  go_loopw [1, 5] (fun q i w' => ∃ (k : Nat) (A : Array Value), k ≤ n ∧ i = .int .i64 k ∧ q = .int .i64 (k0 + k) ∧ w'.heap[g]? = some (.cells A t (0, 0)) ∧ (A.size = cur0.size ∧ (∀ i, i < k → A[off + i]? = some (.int .i64 (k0 + i))) ∧ ∀ i, (i < off ∨ off + n ≤ i) → A[i]? = cur0[i]?) ∧ But g w w' ∧ w'.heap.size = w.heap.size) (fun _ i _ => n - (intOf i).toNat)
  case atStart => exact ⟨0, cur0, by omega, rfl, by simp, H1.out, ⟨rfl, fun i hi => by omega, fun _ _ => rfl⟩, But.refl _ _, rfl⟩
  case round =>
    obtain ⟨k, A, hk, rfl, rfl, hg, hA, hb, hz⟩ := hrel
    have HG : Hid (wr.heap[g]? = some (.cells A t (0, 0))) := hg
    have HA : Hid (A.size = cur0.size ∧ (∀ i, i < k → A[off + i]? = some (.int .i64 (k0 + i))) ∧ ∀ i, (i < off ∨ off + n ≤ i) → A[i]? = cur0[i]?) := hA
    have HB : Hid (But g w wr ∧ wr.heap.size = w.heap.size) := ⟨hb, hz⟩
    by_cases hlt : (k : Int) < (n : Int)
    · have L2 : off + k < A.size := by have := hA.1; have := HS.out; omega
      obtain ⟨z, hz'⟩ : ∃ z, wr.cell? ⟨g, off + k, none⟩ = some z := ⟨A[off + k], by simp [World.cell?, hg, L2]⟩
      have fz : wr.frozen? ⟨g, off + k, none⟩ = false := by simp [World.frozen?, hg]
      have HN : Hid ((wr.setCell ⟨g, off + k, none⟩ (.int .i64 (k0 + k))).heap[g]? = some (.cells (A.setIfInBounds (off + k) (.int .i64 (k0 + k))) t (0, 0))) := heap_setCell_same wr g (off + k) _ _ (.int .i64 (k0 + k)) hg
      have HA' : Hid ((A.setIfInBounds (off + k) (.int .i64 (k0 + k))).size = cur0.size ∧ (∀ i, i < k + 1 → (A.setIfInBounds (off + k) (.int .i64 (k0 + k)))[off + i]? = some (.int .i64 (k0 + i))) ∧ ∀ i, (i < off ∨ off + n ≤ i) → (A.setIfInBounds (off + k) (.int .i64 (k0 + k)))[i]? = cur0[i]?) := by
        refine ⟨by rw [Array.size_setIfInBounds]; exact hA.1, fun i hi => ?_, fun i hi => ?_⟩
        · rw [Array.getElem?_setIfInBounds]
          by_cases e : i = k
          · subst e; simp [L2]
          · rw [if_neg (by omega)]; exact hA.2.1 i (by omega)
        · rw [Array.getElem?_setIfInBounds, if_neg (by omega)]; exact hA.2.2 i hi
      have HZ : Hid ((wr.setCell ⟨g, off + k, none⟩ (.int .i64 (k0 + k))).heap.size = w.heap.size) := by show _ = _; rw [← hz]; simp [World.setCell]
      clear hg hA hb L2 hz
      go_wp2
      go_roundw
      case rel => exact ⟨k + 1, A.setIfInBounds (off + k) (.int .i64 (k0 + k)), by omega, by go_num, by go_num, HN.out, HA'.out, HB.out.1.setCell (off + k) _, HZ.out⟩
      case measure => simp [intOf]; omega
    · have e : k = n := by omega
      subst e
      clear hg hA hb hz
      go_wp2
      go_ret
      exact ⟨rfl, ⟨A, HG.out, HA.out.2⟩, HB.out.1, HB.out.2⟩
set_option maxRecDepth 20000 in
set_option maxHeartbeats 1000000 in
/-- A piece is marked: its own cells turn, no other one. -/
theorem mark_pieceW {B C : Nat} {w : World} {v : Value} {l : List Int} (h : Piece B C w v l) (hn : l.length ≤ 1048576) (k0 : Int) (p1 : 0 ≤ k0) (p2 : k0 ≤ 4611686018427387904) :
    Calls Tryd.prog 44 #[v, .int .i64 k0] w fun e w' => e = .returned (.int .i64 (k0 + l.length)) ∧ Piece B C w' v (upFrom k0 l.length) ∧ Only v w w' := by
  obtain ⟨a, c, rfl, hle, h⟩ := h
  by_cases h0 : l.length = 0
  · rw [h0]
    refine (mark_nil a c k0 w).mono ?_
    rintro e w' ⟨rfl, rfl⟩
    exact ⟨by simp, ⟨a, c, by simp [upFrom], by simp [upFrom], .inl (by simp [upFrom])⟩, Only.refl _ _⟩
  · rcases h with rfl | ⟨g, off, cur, t, rfl, h1, h2, hg, r⟩
    · exact absurd rfl h0
    · have hs : off + l.length ≤ cur.size := by
        have := (Array.getElem?_eq_some_iff.1 (r (l.length - 1) (by omega))).1
        omega
      refine (mark_atW cur t g off l.length c k0 w hn p1 p2 hg hs).mono ?_
      rintro e w' ⟨rfl, ⟨A, hA, a1, a2⟩, hb, hz⟩
      refine ⟨rfl, ⟨_, c, by rw [upFrom_length], by rw [upFrom_length]; exact hle, .inr ⟨g, off, A, t, rfl, h1, h2, hA, fun k hk => ?_⟩⟩, ⟨hb.os, hb.tape, hb.output, hz, fun k hk hq => hb.block k hk fun e => ?_, fun g' off' n' c' e cur' t' hg' => ?_⟩⟩
      · rw [upFrom_length] at hk
        rw [a1 k hk, upFrom_at hk]
      · subst e
        exact h0 (hq off l.length c rfl)
      · cases e
        rw [hg] at hg'
        cases hg'
        exact ⟨A, hA, a2⟩
/-- How many numbers the first i have, L each and their lists. -/
def totN (L : Nat) (N : Nat → List Int) : Nat → Nat
  | 0 => 0
  | i + 1 => totN L N i + (L + (N i).length)
theorem totN_le {L : Nat} {N : Nat → List Int} (hl : ∀ i, (N i).length ≤ 1048576) (hL : L ≤ 6) {i : Nat} (hi : i ≤ 1048576) : totN L N i ≤ 1099518000000 := by
  have : ∀ j, totN L N j ≤ j * (L + 1048576) := fun j => by
    induction j with
    | zero => simp [totN]
    | succ j ih =>
      have := hl j
      rw [totN, Nat.succ_mul]
      omega
  have q := this i
  have r : i * (L + 1048576) ≤ 1048576 * 1048582 := Nat.mul_le_mul hi (by omega)
  omega
theorem totN_mono (L : Nat) (N : Nat → List Int) {i j : Nat} (h : i ≤ j) : totN L N i ≤ totN L N j := by
  induction j with
  | zero => rw [show i = 0 by omega]; exact Nat.le_refl _
  | succ j ih =>
    by_cases e : i = j + 1
    · rw [e]; exact Nat.le_refl _
    · have := ih (by omega); rw [totN]; omega
theorem lo_mono {lo : Nat → Nat} {k : Nat} (h : ∀ i, i < k → lo i ≤ lo (i + 1)) {i j : Nat} (hij : i ≤ j) (hj : j ≤ k) : lo i ≤ lo j := by
  induction j with
  | zero => rw [show i = 0 by omega]; exact Nat.le_refl _
  | succ j ih =>
    by_cases e : i = j + 1
    · rw [e]; exact Nat.le_refl _
    · exact Nat.le_trans (ih (by omega) (by omega)) (h j (by omega))
end Go.Proofs.YtnebjnglcfebeaaDoor
namespace Go.Proofs.YtnebjnglcfebeaaDoor
open Go.RowKit
set_option linter.unusedVariables false
set_option linter.unusedSimpArgs false
/-- The first k of n are filled, in block o; their lists lie behind it and below hi. -/
def OwnExprsI (o hi n k : Nat) (W : World) (E : Nat → Nat → Int) (N : Nat → List Int) : Prop :=
  ∃ (A : Array Value) (x : Nat → Value) (lo : Nat → Nat), W.heap[o]? = some (.cells A 67 (0, 0)) ∧ A.size = n * 7 ∧ lo 0 = o + 1 ∧ (∀ i, i < k → lo i ≤ lo (i + 1)) ∧ lo k ≤ hi ∧ hi ≤ W.heap.size ∧
    ∀ i, i < k → (A[i * 7]? = some (.int .i64 (E i 0)) ∧ A[i * 7 + 1]? = some (.int .i64 (E i 1)) ∧ A[i * 7 + 2]? = some (.int .i64 (E i 2)) ∧ A[i * 7 + 3]? = some (.int .i64 (E i 3)) ∧ A[i * 7 + 4]? = some (.int .i64 (E i 4)) ∧ A[i * 7 + 5]? = some (.int .i64 (E i 5)) ∧ A[i * 7 + 6]? = some (x i)) ∧ Piece (lo i) (lo (i + 1)) W (x i) (N i)
section
variable {W W' : World} {o hi n k : Nat} {E : Nat → Nat → Int} {N : Nat → List Int}
theorem OwnExprsI.lt (h : OwnExprsI o hi n k W E N) : o < W.heap.size := by obtain ⟨A, _, _, h1, _⟩ := h; exact lt_of_heapA h1
theorem OwnExprsI.lthi (h : OwnExprsI o hi n k W E N) : o < hi ∧ hi ≤ W.heap.size := by
  obtain ⟨A, x, lo, h1, h2, h3, h4, h5, h6, _⟩ := h
  have := lo_mono h4 (Nat.zero_le k) (Nat.le_refl k)
  omega
theorem OwnExprsI.win {B C : Nat} (h : OwnExprsI o hi n k W E N) (hw : Win B C W W') (hd : C ≤ o ∨ hi ≤ B) : OwnExprsI o hi n k W' E N := by
  have hl := h.lt
  have hl2 := h.lthi
  obtain ⟨A, x, lo, h1, h2, h3, h4, h5, h6, h7⟩ := h
  refine ⟨A, x, lo, by rw [hw.block o hl (by omega)]; exact h1, h2, h3, h4, h5, Nat.le_trans h6 hw.size, fun i hi => ?_⟩
  obtain ⟨q1, q2⟩ := h7 i hi
  have m1 := lo_mono h4 (Nat.zero_le i) (Nat.le_of_lt hi)
  have m2 := lo_mono h4 (show i + 1 ≤ k from hi) (Nat.le_refl k)
  exact ⟨q1, q2.win hw (by omega)⟩
theorem OwnExprsI.keep (h : OwnExprsI o hi n k W E N) (hb : Below W.heap.size W W') : OwnExprsI o hi n k W' E N := h.win (B := W.heap.size) (C := W.heap.size) (Below.win hb) (.inr h.lthi.2)
theorem OwnExprsI.mono {hi' : Nat} (h : OwnExprsI o hi n k W E N) (hh : hi ≤ hi') (hw : hi' ≤ W.heap.size) : OwnExprsI o hi' n k W E N := by
  obtain ⟨A, x, lo, h1, h2, h3, h4, h5, h6, h7⟩ := h
  exact ⟨A, x, lo, h1, h2, h3, h4, Nat.le_trans h5 hh, hw, h7⟩
theorem OwnExprsI.cells (h : OwnExprsI o hi n k W E N) {i : Nat} (hk : i < n) : ((∃ u, W.cell? ⟨o, i * 7, none⟩ = some u) ∧ (∃ u, W.cell? ⟨o, i * 7 + 1, none⟩ = some u) ∧ (∃ u, W.cell? ⟨o, i * 7 + 2, none⟩ = some u) ∧ (∃ u, W.cell? ⟨o, i * 7 + 3, none⟩ = some u) ∧ (∃ u, W.cell? ⟨o, i * 7 + 4, none⟩ = some u) ∧ (∃ u, W.cell? ⟨o, i * 7 + 5, none⟩ = some u) ∧ (∃ u, W.cell? ⟨o, i * 7 + 6, none⟩ = some u)) ∧ W.frozen? ⟨o, i * 7, none⟩ = false ∧ W.frozen? ⟨o, i * 7 + 1, none⟩ = false ∧ W.frozen? ⟨o, i * 7 + 2, none⟩ = false ∧ W.frozen? ⟨o, i * 7 + 3, none⟩ = false ∧ W.frozen? ⟨o, i * 7 + 4, none⟩ = false ∧ W.frozen? ⟨o, i * 7 + 5, none⟩ = false ∧ W.frozen? ⟨o, i * 7 + 6, none⟩ = false := by
  obtain ⟨A, x, lo, h1, h2, _⟩ := h
  have g : ∀ j, j < n * 7 → ∃ u, W.cell? ⟨o, j, none⟩ = some u := fun j hj => ⟨A[j]'(by omega), cell_at h1 (Array.getElem?_eq_getElem (by omega))⟩
  exact ⟨⟨g _ (by omega), g _ (by omega), g _ (by omega), g _ (by omega), g _ (by omega), g _ (by omega), g _ (by omega)⟩, free_at h1 _, free_at h1 _, free_at h1 _, free_at h1 _, free_at h1 _, free_at h1 _, free_at h1 _⟩
theorem OwnExprsI.list (h : OwnExprsI o hi n n W E N) : ExprsI W (.slice (some ⟨o, 0, none⟩) n n) n E N := by
  have hl := h.lt
  obtain ⟨A, x, lo, h1, h2, h3, h4, h5, h6, h7⟩ := h
  refine ⟨_, _, rfl, .inr ⟨o, 0, x, rfl, hl, fun i hi => ?_⟩⟩
  obtain ⟨⟨q0, q1, q2, q3, q4, q5, q6⟩, qz⟩ := h7 i hi
  rw [Nat.zero_add]
  exact ⟨⟨cell_at h1 q0, cell_at h1 q1, cell_at h1 q2, cell_at h1 q3, cell_at h1 q4, cell_at h1 q5, cell_at h1 q6⟩, qz.intsI⟩
/-- One more is put. -/
theorem OwnExprsI.put {W0 : World} (h : OwnExprsI o hi n k W0 E N) (hb : Below W0.heap.size W0 W) (hk : k < n) {e : Nat → Int} (he : e = E k) {x' : Value} (px : Piece W0.heap.size W.heap.size W x' (N k)) : OwnExprsI o W.heap.size n (k + 1) (((((((W.setCell ⟨o, k * 7, none⟩ (.int .i64 (e 0))).setCell ⟨o, k * 7 + 1, none⟩ (.int .i64 (e 1))).setCell ⟨o, k * 7 + 2, none⟩ (.int .i64 (e 2))).setCell ⟨o, k * 7 + 3, none⟩ (.int .i64 (e 3))).setCell ⟨o, k * 7 + 4, none⟩ (.int .i64 (e 4))).setCell ⟨o, k * 7 + 5, none⟩ (.int .i64 (e 5))).setCell ⟨o, k * 7 + 6, none⟩ x') E N := by
  have hw := h.keep hb
  have h0 := h.lthi
  obtain ⟨A, x, lo, h1, h2, h3, h4, h5, h6, h7⟩ := hw
  subst he
  have e0 := heap_setCell_same W o (k * 7) _ _ (.int .i64 (E k 0)) h1
  have e1 := heap_setCell_same _ o (k * 7 + 1) _ _ (.int .i64 (E k 1)) e0
  have e2 := heap_setCell_same _ o (k * 7 + 2) _ _ (.int .i64 (E k 2)) e1
  have e3 := heap_setCell_same _ o (k * 7 + 3) _ _ (.int .i64 (E k 3)) e2
  have e4 := heap_setCell_same _ o (k * 7 + 4) _ _ (.int .i64 (E k 4)) e3
  have e5 := heap_setCell_same _ o (k * 7 + 5) _ _ (.int .i64 (E k 5)) e4
  have e6 := heap_setCell_same _ o (k * 7 + 6) _ _ x' e5
  have ww : Win o (o + 1) W (((((((W.setCell ⟨o, k * 7, none⟩ (.int .i64 (E k 0))).setCell ⟨o, k * 7 + 1, none⟩ (.int .i64 (E k 1))).setCell ⟨o, k * 7 + 2, none⟩ (.int .i64 (E k 2))).setCell ⟨o, k * 7 + 3, none⟩ (.int .i64 (E k 3))).setCell ⟨o, k * 7 + 4, none⟩ (.int .i64 (E k 4))).setCell ⟨o, k * 7 + 5, none⟩ (.int .i64 (E k 5))).setCell ⟨o, k * 7 + 6, none⟩ x') := (((((((win_setCell _ _ _ _).trans (win_setCell _ _ _ _)).trans (win_setCell _ _ _ _)).trans (win_setCell _ _ _ _)).trans (win_setCell _ _ _ _)).trans (win_setCell _ _ _ _)).trans (win_setCell _ _ _ _))
  have m0 := lo_mono h4 (Nat.zero_le k) (Nat.le_refl k)
  have hz := hb.size
  refine ⟨_, fun i => if i = k then x' else x i, fun i => if i ≤ k then lo i else W.heap.size, e6, by simpa using h2, by simpa using h3, fun i hi => ?_, by show (if k + 1 ≤ k then lo (k + 1) else W.heap.size) ≤ _; rw [if_neg (Nat.not_succ_le_self k)]; exact Nat.le_refl _, by simp only [size_setCell]; exact Nat.le_refl _, fun i hi => ?_⟩
  · by_cases e : i = k
    · simp only [e, Nat.le_refl, if_true, if_neg (Nat.not_succ_le_self k)]; omega
    · simp only [if_pos (show i ≤ k by omega), if_pos (show i + 1 ≤ k by omega)]; exact h4 i (by omega)
  by_cases e : i = k
  · rw [e]
    simp only [if_true, Nat.le_refl, if_neg (Nat.not_succ_le_self k)]
    refine ⟨⟨?_, ?_, ?_, ?_, ?_, ?_, ?_⟩, (px.win ww (.inr (by omega))).mono (by omega) (Nat.le_refl _)⟩
    · rw [Array.getElem?_setIfInBounds, if_neg (by omega), Array.getElem?_setIfInBounds, if_neg (by omega), Array.getElem?_setIfInBounds, if_neg (by omega), Array.getElem?_setIfInBounds, if_neg (by omega), Array.getElem?_setIfInBounds, if_neg (by omega), Array.getElem?_setIfInBounds, if_neg (by omega), Array.getElem?_setIfInBounds, if_pos rfl, if_pos (by (try simp only [Array.size_setIfInBounds]); omega)]
    · rw [Array.getElem?_setIfInBounds, if_neg (by omega), Array.getElem?_setIfInBounds, if_neg (by omega), Array.getElem?_setIfInBounds, if_neg (by omega), Array.getElem?_setIfInBounds, if_neg (by omega), Array.getElem?_setIfInBounds, if_neg (by omega), Array.getElem?_setIfInBounds, if_pos rfl, if_pos (by (try simp only [Array.size_setIfInBounds]); omega)]
    · rw [Array.getElem?_setIfInBounds, if_neg (by omega), Array.getElem?_setIfInBounds, if_neg (by omega), Array.getElem?_setIfInBounds, if_neg (by omega), Array.getElem?_setIfInBounds, if_neg (by omega), Array.getElem?_setIfInBounds, if_pos rfl, if_pos (by (try simp only [Array.size_setIfInBounds]); omega)]
    · rw [Array.getElem?_setIfInBounds, if_neg (by omega), Array.getElem?_setIfInBounds, if_neg (by omega), Array.getElem?_setIfInBounds, if_neg (by omega), Array.getElem?_setIfInBounds, if_pos rfl, if_pos (by (try simp only [Array.size_setIfInBounds]); omega)]
    · rw [Array.getElem?_setIfInBounds, if_neg (by omega), Array.getElem?_setIfInBounds, if_neg (by omega), Array.getElem?_setIfInBounds, if_pos rfl, if_pos (by (try simp only [Array.size_setIfInBounds]); omega)]
    · rw [Array.getElem?_setIfInBounds, if_neg (by omega), Array.getElem?_setIfInBounds, if_pos rfl, if_pos (by (try simp only [Array.size_setIfInBounds]); omega)]
    · rw [Array.getElem?_setIfInBounds, if_pos rfl, if_pos (by (try simp only [Array.size_setIfInBounds]); omega)]
  · obtain ⟨⟨q0, q1, q2, q3, q4, q5, q6⟩, qz⟩ := h7 i (by omega)
    have m1 := lo_mono h4 (Nat.zero_le i) (show i ≤ k by omega)
    simp only [if_neg e, if_pos (show i ≤ k by omega), if_pos (show i + 1 ≤ k by omega)]
    refine ⟨⟨?_, ?_, ?_, ?_, ?_, ?_, ?_⟩, qz.win ww (.inr (by omega))⟩
    · rw [Array.getElem?_setIfInBounds, if_neg (by omega), Array.getElem?_setIfInBounds, if_neg (by omega), Array.getElem?_setIfInBounds, if_neg (by omega), Array.getElem?_setIfInBounds, if_neg (by omega), Array.getElem?_setIfInBounds, if_neg (by omega), Array.getElem?_setIfInBounds, if_neg (by omega), Array.getElem?_setIfInBounds, if_neg (by omega)]; exact q0
    · rw [Array.getElem?_setIfInBounds, if_neg (by omega), Array.getElem?_setIfInBounds, if_neg (by omega), Array.getElem?_setIfInBounds, if_neg (by omega), Array.getElem?_setIfInBounds, if_neg (by omega), Array.getElem?_setIfInBounds, if_neg (by omega), Array.getElem?_setIfInBounds, if_neg (by omega), Array.getElem?_setIfInBounds, if_neg (by omega)]; exact q1
    · rw [Array.getElem?_setIfInBounds, if_neg (by omega), Array.getElem?_setIfInBounds, if_neg (by omega), Array.getElem?_setIfInBounds, if_neg (by omega), Array.getElem?_setIfInBounds, if_neg (by omega), Array.getElem?_setIfInBounds, if_neg (by omega), Array.getElem?_setIfInBounds, if_neg (by omega), Array.getElem?_setIfInBounds, if_neg (by omega)]; exact q2
    · rw [Array.getElem?_setIfInBounds, if_neg (by omega), Array.getElem?_setIfInBounds, if_neg (by omega), Array.getElem?_setIfInBounds, if_neg (by omega), Array.getElem?_setIfInBounds, if_neg (by omega), Array.getElem?_setIfInBounds, if_neg (by omega), Array.getElem?_setIfInBounds, if_neg (by omega), Array.getElem?_setIfInBounds, if_neg (by omega)]; exact q3
    · rw [Array.getElem?_setIfInBounds, if_neg (by omega), Array.getElem?_setIfInBounds, if_neg (by omega), Array.getElem?_setIfInBounds, if_neg (by omega), Array.getElem?_setIfInBounds, if_neg (by omega), Array.getElem?_setIfInBounds, if_neg (by omega), Array.getElem?_setIfInBounds, if_neg (by omega), Array.getElem?_setIfInBounds, if_neg (by omega)]; exact q4
    · rw [Array.getElem?_setIfInBounds, if_neg (by omega), Array.getElem?_setIfInBounds, if_neg (by omega), Array.getElem?_setIfInBounds, if_neg (by omega), Array.getElem?_setIfInBounds, if_neg (by omega), Array.getElem?_setIfInBounds, if_neg (by omega), Array.getElem?_setIfInBounds, if_neg (by omega), Array.getElem?_setIfInBounds, if_neg (by omega)]; exact q5
    · rw [Array.getElem?_setIfInBounds, if_neg (by omega), Array.getElem?_setIfInBounds, if_neg (by omega), Array.getElem?_setIfInBounds, if_neg (by omega), Array.getElem?_setIfInBounds, if_neg (by omega), Array.getElem?_setIfInBounds, if_neg (by omega), Array.getElem?_setIfInBounds, if_neg (by omega), Array.getElem?_setIfInBounds, if_neg (by omega)]; exact q6
/-- The numbers of one are turned. -/
theorem OwnExprsI.turn (h : OwnExprsI o hi n n W E N) (hk : k < n) (e : Nat → Int) : OwnExprsI o hi n n ((((((W.setCell ⟨o, k * 7, none⟩ (.int .i64 (e 0))).setCell ⟨o, k * 7 + 1, none⟩ (.int .i64 (e 1))).setCell ⟨o, k * 7 + 2, none⟩ (.int .i64 (e 2))).setCell ⟨o, k * 7 + 3, none⟩ (.int .i64 (e 3))).setCell ⟨o, k * 7 + 4, none⟩ (.int .i64 (e 4))).setCell ⟨o, k * 7 + 5, none⟩ (.int .i64 (e 5))) (fun i => if i = k then e else E i) N := by
  have h0 := h.lthi
  obtain ⟨A, x, lo, h1, h2, h3, h4, h5, h6, h7⟩ := h
  have e0 := heap_setCell_same W o (k * 7) _ _ (.int .i64 (e 0)) h1
  have e1 := heap_setCell_same _ o (k * 7 + 1) _ _ (.int .i64 (e 1)) e0
  have e2 := heap_setCell_same _ o (k * 7 + 2) _ _ (.int .i64 (e 2)) e1
  have e3 := heap_setCell_same _ o (k * 7 + 3) _ _ (.int .i64 (e 3)) e2
  have e4 := heap_setCell_same _ o (k * 7 + 4) _ _ (.int .i64 (e 4)) e3
  have e5 := heap_setCell_same _ o (k * 7 + 5) _ _ (.int .i64 (e 5)) e4
  have ww : Win o (o + 1) W ((((((W.setCell ⟨o, k * 7, none⟩ (.int .i64 (e 0))).setCell ⟨o, k * 7 + 1, none⟩ (.int .i64 (e 1))).setCell ⟨o, k * 7 + 2, none⟩ (.int .i64 (e 2))).setCell ⟨o, k * 7 + 3, none⟩ (.int .i64 (e 3))).setCell ⟨o, k * 7 + 4, none⟩ (.int .i64 (e 4))).setCell ⟨o, k * 7 + 5, none⟩ (.int .i64 (e 5))) := ((((((win_setCell _ _ _ _).trans (win_setCell _ _ _ _)).trans (win_setCell _ _ _ _)).trans (win_setCell _ _ _ _)).trans (win_setCell _ _ _ _)).trans (win_setCell _ _ _ _))
  refine ⟨_, x, lo, e5, by simpa using h2, h3, h4, h5, by simp only [size_setCell]; exact h6, fun i hi => ?_⟩
  obtain ⟨⟨q0, q1, q2, q3, q4, q5, q6⟩, qz⟩ := h7 i hi
  have m1 := lo_mono h4 (Nat.zero_le i) (Nat.le_of_lt hi)
  have qz' := qz.win ww (.inr (by omega))
  by_cases e : i = k
  · subst e
    simp only [if_true]
    refine ⟨⟨?_, ?_, ?_, ?_, ?_, ?_, ?_⟩, qz'⟩
    · rw [Array.getElem?_setIfInBounds, if_neg (by omega), Array.getElem?_setIfInBounds, if_neg (by omega), Array.getElem?_setIfInBounds, if_neg (by omega), Array.getElem?_setIfInBounds, if_neg (by omega), Array.getElem?_setIfInBounds, if_neg (by omega), Array.getElem?_setIfInBounds, if_pos rfl, if_pos (by (try simp only [Array.size_setIfInBounds]); omega)]
    · rw [Array.getElem?_setIfInBounds, if_neg (by omega), Array.getElem?_setIfInBounds, if_neg (by omega), Array.getElem?_setIfInBounds, if_neg (by omega), Array.getElem?_setIfInBounds, if_neg (by omega), Array.getElem?_setIfInBounds, if_pos rfl, if_pos (by (try simp only [Array.size_setIfInBounds]); omega)]
    · rw [Array.getElem?_setIfInBounds, if_neg (by omega), Array.getElem?_setIfInBounds, if_neg (by omega), Array.getElem?_setIfInBounds, if_neg (by omega), Array.getElem?_setIfInBounds, if_pos rfl, if_pos (by (try simp only [Array.size_setIfInBounds]); omega)]
    · rw [Array.getElem?_setIfInBounds, if_neg (by omega), Array.getElem?_setIfInBounds, if_neg (by omega), Array.getElem?_setIfInBounds, if_pos rfl, if_pos (by (try simp only [Array.size_setIfInBounds]); omega)]
    · rw [Array.getElem?_setIfInBounds, if_neg (by omega), Array.getElem?_setIfInBounds, if_pos rfl, if_pos (by (try simp only [Array.size_setIfInBounds]); omega)]
    · rw [Array.getElem?_setIfInBounds, if_pos rfl, if_pos (by (try simp only [Array.size_setIfInBounds]); omega)]
    · rw [Array.getElem?_setIfInBounds, if_neg (by omega), Array.getElem?_setIfInBounds, if_neg (by omega), Array.getElem?_setIfInBounds, if_neg (by omega), Array.getElem?_setIfInBounds, if_neg (by omega), Array.getElem?_setIfInBounds, if_neg (by omega), Array.getElem?_setIfInBounds, if_neg (by omega)]; exact q6
  · simp only [if_neg e]
    refine ⟨⟨?_, ?_, ?_, ?_, ?_, ?_, ?_⟩, qz'⟩
    · rw [Array.getElem?_setIfInBounds, if_neg (by omega), Array.getElem?_setIfInBounds, if_neg (by omega), Array.getElem?_setIfInBounds, if_neg (by omega), Array.getElem?_setIfInBounds, if_neg (by omega), Array.getElem?_setIfInBounds, if_neg (by omega), Array.getElem?_setIfInBounds, if_neg (by omega)]; exact q0
    · rw [Array.getElem?_setIfInBounds, if_neg (by omega), Array.getElem?_setIfInBounds, if_neg (by omega), Array.getElem?_setIfInBounds, if_neg (by omega), Array.getElem?_setIfInBounds, if_neg (by omega), Array.getElem?_setIfInBounds, if_neg (by omega), Array.getElem?_setIfInBounds, if_neg (by omega)]; exact q1
    · rw [Array.getElem?_setIfInBounds, if_neg (by omega), Array.getElem?_setIfInBounds, if_neg (by omega), Array.getElem?_setIfInBounds, if_neg (by omega), Array.getElem?_setIfInBounds, if_neg (by omega), Array.getElem?_setIfInBounds, if_neg (by omega), Array.getElem?_setIfInBounds, if_neg (by omega)]; exact q2
    · rw [Array.getElem?_setIfInBounds, if_neg (by omega), Array.getElem?_setIfInBounds, if_neg (by omega), Array.getElem?_setIfInBounds, if_neg (by omega), Array.getElem?_setIfInBounds, if_neg (by omega), Array.getElem?_setIfInBounds, if_neg (by omega), Array.getElem?_setIfInBounds, if_neg (by omega)]; exact q3
    · rw [Array.getElem?_setIfInBounds, if_neg (by omega), Array.getElem?_setIfInBounds, if_neg (by omega), Array.getElem?_setIfInBounds, if_neg (by omega), Array.getElem?_setIfInBounds, if_neg (by omega), Array.getElem?_setIfInBounds, if_neg (by omega), Array.getElem?_setIfInBounds, if_neg (by omega)]; exact q4
    · rw [Array.getElem?_setIfInBounds, if_neg (by omega), Array.getElem?_setIfInBounds, if_neg (by omega), Array.getElem?_setIfInBounds, if_neg (by omega), Array.getElem?_setIfInBounds, if_neg (by omega), Array.getElem?_setIfInBounds, if_neg (by omega), Array.getElem?_setIfInBounds, if_neg (by omega)]; exact q5
    · rw [Array.getElem?_setIfInBounds, if_neg (by omega), Array.getElem?_setIfInBounds, if_neg (by omega), Array.getElem?_setIfInBounds, if_neg (by omega), Array.getElem?_setIfInBounds, if_neg (by omega), Array.getElem?_setIfInBounds, if_neg (by omega), Array.getElem?_setIfInBounds, if_neg (by omega)]; exact q6
/-- Its list alone is turned. -/
theorem OwnExprsI.piece (h : OwnExprsI o hi n n W E N) (hk : k < n) : ∃ xa xc B C, W.cell? ⟨o, k * 7 + 6, none⟩ = some (.slice xa (N k).length xc) ∧ o + 1 ≤ B ∧ C ≤ hi ∧ Piece B C W (.slice xa (N k).length xc) (N k) ∧
    ∀ (W' : World) (m : List Int), Piece B C W' (.slice xa (N k).length xc) m → Win B C W W' → OwnExprsI o hi n n W' E (fun i => if i = k then m else N i) := by
  have hl := h.lt
  obtain ⟨A, x, lo, h1, h2, h3, h4, h5, h6, h7⟩ := h
  obtain ⟨⟨q0, q1, q2, q3, q4, q5, q6⟩, qz⟩ := h7 k hk
  have m1 := lo_mono h4 (Nat.zero_le k) (Nat.le_of_lt hk)
  have m2 := lo_mono h4 (show k + 1 ≤ n from hk) (Nat.le_refl n)
  obtain ⟨xa, xc, ex, _⟩ := qz.ints
  refine ⟨xa, xc, lo k, lo (k + 1), by rw [← ex]; exact cell_at h1 q6, by omega, by omega, by rw [← ex]; exact qz, fun W' m hm hw => ?_⟩
  rw [← ex] at hm
  refine ⟨A, x, lo, by rw [hw.block o hl (by omega)]; exact h1, h2, h3, h4, h5, Nat.le_trans h6 hw.size, fun i hi => ?_⟩
  by_cases e : i = k
  · subst e
    simp only [if_true]
    exact ⟨⟨q0, q1, q2, q3, q4, q5, q6⟩, hm⟩
  · obtain ⟨r1, r2⟩ := h7 i hi
    simp only [if_neg e]
    refine ⟨r1, r2.win hw ?_⟩
    by_cases e2 : i < k
    · have := lo_mono h4 (show i + 1 ≤ k from e2) (Nat.le_of_lt hk); omega
    · have := lo_mono h4 (show k + 1 ≤ i by omega) (Nat.le_of_lt hi); omega
end
end Go.Proofs.YtnebjnglcfebeaaDoor
namespace Go.Proofs.YtnebjnglcfebeaaDoor
open Go.RowKit
set_option linter.unusedVariables false
set_option linter.unusedSimpArgs false
/-- Marked from k0 on. -/
def MkdExprsI (k0 : Int) (N0 : Nat → List Int) (k : Nat) (E : Nat → Nat → Int) (N : Nat → List Int) : Prop :=
  ∀ i, i < k → (E i 0 = k0 + (totN 6 N0 i : Int) + 0 ∧ E i 1 = k0 + (totN 6 N0 i : Int) + 1 ∧ E i 2 = k0 + (totN 6 N0 i : Int) + 2 ∧ E i 3 = k0 + (totN 6 N0 i : Int) + 3 ∧ E i 4 = k0 + (totN 6 N0 i : Int) + 4 ∧ E i 5 = k0 + (totN 6 N0 i : Int) + 5) ∧ N i = upFrom (k0 + (totN 6 N0 i : Int) + 6) (N0 i).length
/-- One of them is marked. -/
theorem OwnExprsI.mark1 {W : World} {o hi n k : Nat} {E : Nat → Nat → Int} {N : Nat → List Int} (h : OwnExprsI o hi n n W E N) (hk : k < n) (e : Nat → Int) : ∃ xa xc, W.cell? ⟨o, k * 7 + 6, none⟩ = some (.slice xa (N k).length xc) ∧
    ∀ k1 : Int, (N k).length ≤ 1048576 → 0 ≤ k1 → k1 ≤ 4611686018427387904 → Calls Tryd.prog 44 #[.slice xa (N k).length xc, .int .i64 k1] ((((((W.setCell ⟨o, k * 7, none⟩ (.int .i64 (e 0))).setCell ⟨o, k * 7 + 1, none⟩ (.int .i64 (e 1))).setCell ⟨o, k * 7 + 2, none⟩ (.int .i64 (e 2))).setCell ⟨o, k * 7 + 3, none⟩ (.int .i64 (e 3))).setCell ⟨o, k * 7 + 4, none⟩ (.int .i64 (e 4))).setCell ⟨o, k * 7 + 5, none⟩ (.int .i64 (e 5))) fun r w' => r = .returned (.int .i64 (k1 + (N k).length)) ∧ OwnExprsI o hi n n w' (fun i => if i = k then e else E i) (fun i => if i = k then upFrom k1 (N k).length else N i) ∧ Win o hi W w' := by
  have hlt := h.lthi
  have ht := h.turn hk e
  obtain ⟨xa, xc, B, C, cx, hB, hC, hp, hall⟩ := ht.piece hk
  have cw : W.cell? ⟨o, k * 7 + 6, none⟩ = some (.slice xa (N k).length xc) := by
    obtain ⟨A, x, lo, h1, h2, h3, h4, h5, h6, h7⟩ := h
    have e0 := heap_setCell_same W o (k * 7) _ _ (.int .i64 (e 0)) h1
    have e1 := heap_setCell_same _ o (k * 7 + 1) _ _ (.int .i64 (e 1)) e0
    have e2 := heap_setCell_same _ o (k * 7 + 2) _ _ (.int .i64 (e 2)) e1
    have e3 := heap_setCell_same _ o (k * 7 + 3) _ _ (.int .i64 (e 3)) e2
    have e4 := heap_setCell_same _ o (k * 7 + 4) _ _ (.int .i64 (e 4)) e3
    have e5 := heap_setCell_same _ o (k * 7 + 5) _ _ (.int .i64 (e 5)) e4
    obtain ⟨⟨q0, q1, q2, q3, q4, q5, q6⟩, qz⟩ := h7 k hk
    have c1 : ((((((W.setCell ⟨o, k * 7, none⟩ (.int .i64 (e 0))).setCell ⟨o, k * 7 + 1, none⟩ (.int .i64 (e 1))).setCell ⟨o, k * 7 + 2, none⟩ (.int .i64 (e 2))).setCell ⟨o, k * 7 + 3, none⟩ (.int .i64 (e 3))).setCell ⟨o, k * 7 + 4, none⟩ (.int .i64 (e 4))).setCell ⟨o, k * 7 + 5, none⟩ (.int .i64 (e 5))).cell? ⟨o, k * 7 + 6, none⟩ = some (x k) := cell_at e5 (by rw [Array.getElem?_setIfInBounds, if_neg (by omega), Array.getElem?_setIfInBounds, if_neg (by omega), Array.getElem?_setIfInBounds, if_neg (by omega), Array.getElem?_setIfInBounds, if_neg (by omega), Array.getElem?_setIfInBounds, if_neg (by omega), Array.getElem?_setIfInBounds, if_neg (by omega)]; exact q6)
    rw [← cx, c1]
    exact cell_at h1 q6
  refine ⟨xa, xc, cw, fun k1 hl p1 p2 => (mark_pieceW hp hl k1 p1 p2).mono ?_⟩
  rintro r w' ⟨rfl, hq, ho⟩
  have hw := ho.win hp
  refine ⟨rfl, hall w' _ hq hw, Win.trans ?_ ⟨hw.os, hw.tape, hw.output, hw.size, fun j hj hd => hw.block j hj (by omega)⟩⟩
  exact ((((((Win.refl _ _ _).setCell (Nat.le_refl _) hlt.1 _ _).setCell (Nat.le_refl _) hlt.1 _ _).setCell (Nat.le_refl _) hlt.1 _ _).setCell (Nat.le_refl _) hlt.1 _ _).setCell (Nat.le_refl _) hlt.1 _ _).setCell (Nat.le_refl _) hlt.1 _ _
set_option maxRecDepth 20000 in
set_option maxHeartbeats 8000000 in
/-- A list is marked: its own cells turn, no other one. -/
theorem markExprS_at {o hi n : Nat} {w : World} {E : Nat → Nat → Int} {N : Nat → List Int} (h : OwnExprsI o hi n n w E N) (hl : ∀ i, (N i).length ≤ 1048576) (hn : n ≤ 1048576) (k0 : Int) (p1 : 0 ≤ k0) (p2 : k0 ≤ 1099511627776) :
    Calls Tryd.prog 26 #[.slice (some ⟨o, 0, none⟩) n n, .int .i64 k0] w fun e w' => e = .returned (.int .i64 (k0 + (totN 6 N n : Int))) ∧ (∃ E' N', OwnExprsI o hi n n w' E' N' ∧ MkdExprsI k0 N n E' N') ∧ Win o hi w w' := by
  have H : Hid (OwnExprsI o hi n n w E N) := h
  have HL : Hid (∀ i, (N i).length ≤ 1048576) := hl
  have HT : Hid (∀ i, i ≤ n → totN 6 N i ≤ 1099518000000) := fun i hi => totN_le hl (by omega) (by omega)
  have T0 : Hid (totN 6 N 0 = 0) := rfl
  clear h hl
  go_enter Tryd.func26, Tryd.ntmps26
  go_wp2
  go_loopw [1, 5] (fun q i w' => ∃ (k : Nat) (E' : Nat → Nat → Int) (N' : Nat → List Int), k ≤ n ∧ i = .int .i64 k ∧ q = .int .i64 (k0 + (totN 6 N k : Int)) ∧ OwnExprsI o hi n n w' E' N' ∧ MkdExprsI k0 N k E' N' ∧ (∀ i, k ≤ i → N' i = N i) ∧ Win o hi w w') (fun _ i _ => n - (intOf i).toNat)
  case atStart => exact ⟨0, E, N, by omega, rfl, by rw [T0.out]; simp, H.out, fun i hi => absurd hi (by omega), fun _ _ => rfl, Win.refl _ _ _⟩
  case round =>
    obtain ⟨k, E', N', hk, rfl, rfl, hO, hM, hN, hW⟩ := hrel
    have HO : Hid (OwnExprsI o hi n n wr E' N') := hO
    have HM : Hid (MkdExprsI k0 N k E' N') := hM
    have HN : Hid (∀ i, k ≤ i → N' i = N i) := hN
    have HW : Hid (Win o hi w wr) := hW
    clear hO hM hN hW
    by_cases hlt : (k : Int) < (n : Int)
    · have L : k < n := by omega
      have ht := HT.out k hk
      have TS : Hid (totN 6 N (k + 1) = totN 6 N k + (6 + (N k).length)) := rfl
      obtain ⟨⟨⟨u0, c0⟩, ⟨u1, c1⟩, ⟨u2, c2⟩, ⟨u3, c3⟩, ⟨u4, c4⟩, ⟨u5, c5⟩, ⟨u6, c6⟩⟩, f0, f1, f2, f3, f4, f5, f6⟩ := HO.out.cells L
      obtain ⟨xa, xc, cx, hall⟩ := HO.out.mark1 L (fun j => k0 + (totN 6 N k : Int) + (j : Int))
      rw [HN.out k (Nat.le_refl _)] at cx hall
      clear c6 u6 f6
      have NXT : Hid (∀ (E'' : Nat → Nat → Int) (N'' : Nat → List Int), E'' = (fun i => if i = k then (fun (j : Nat) => k0 + (totN 6 N k : Int) + (j : Int)) else E' i) → N'' = (fun i => if i = k then upFrom (k0 + (totN 6 N k : Int) + 6) (N k).length else N' i) → MkdExprsI k0 N (k + 1) E'' N'' ∧ ∀ i, k + 1 ≤ i → N'' i = N i) := by
        intro E'' N'' he hn
        subst he hn
        refine ⟨fun i hi => ?_, fun i hi => by simp only [if_neg (show ¬ i = k by omega)]; exact HN.out i (by omega)⟩
        by_cases e : i = k
        · subst e; simp
        · simp only [if_neg e]; exact HM.out i (by omega)
      have CM : Hid (Calls Tryd.prog 44 #[.slice xa (N k).length xc, .int .i64 (k0 + (totN 6 N k : Int) + 1 + 1 + 1 + 1 + 1 + 1)] ((((((wr.setCell ⟨o, k * 7, none⟩ (.int .i64 (k0 + (totN 6 N k : Int)))).setCell ⟨o, k * 7 + 1, none⟩ (.int .i64 (k0 + (totN 6 N k : Int) + 1))).setCell ⟨o, k * 7 + 2, none⟩ (.int .i64 (k0 + (totN 6 N k : Int) + 1 + 1))).setCell ⟨o, k * 7 + 3, none⟩ (.int .i64 (k0 + (totN 6 N k : Int) + 1 + 1 + 1))).setCell ⟨o, k * 7 + 4, none⟩ (.int .i64 (k0 + (totN 6 N k : Int) + 1 + 1 + 1 + 1))).setCell ⟨o, k * 7 + 5, none⟩ (.int .i64 (k0 + (totN 6 N k : Int) + 1 + 1 + 1 + 1 + 1))) fun r w' => r = .returned (.int .i64 (k0 + (totN 6 N (k + 1) : Int))) ∧ (∃ E'' N'', OwnExprsI o hi n n w' E'' N'' ∧ MkdExprsI k0 N (k + 1) E'' N'' ∧ ∀ i, k + 1 ≤ i → N'' i = N i) ∧ Win o hi w w') := by
        have := hall (k0 + (totN 6 N k : Int) + 6) (HL.out k) (by omega) (by omega)
        rw [show k0 + (totN 6 N k : Int) + 1 + 1 = k0 + (totN 6 N k : Int) + 2 by omega, show k0 + (totN 6 N k : Int) + 2 + 1 = k0 + (totN 6 N k : Int) + 3 by omega, show k0 + (totN 6 N k : Int) + 3 + 1 = k0 + (totN 6 N k : Int) + 4 by omega, show k0 + (totN 6 N k : Int) + 4 + 1 = k0 + (totN 6 N k : Int) + 5 by omega, show k0 + (totN 6 N k : Int) + 5 + 1 = k0 + (totN 6 N k : Int) + 6 by omega]
        simp only [Int.natCast_zero, Int.add_zero, Int.ofNat_zero] at this
        refine this.mono ?_
        rintro r w' ⟨rfl, h1, h2⟩
        refine ⟨by rw [TS.out]; congr 2; omega, ⟨_, _, h1, NXT.out _ _ rfl rfl⟩, HW.out.trans h2⟩
      clear hall TS NXT
      generalize (N k).length = nl at *
      generalize totN 6 N k = z at *
      have HZ : Hid (totN 6 N (k + 1) = totN 6 N (k + 1)) := rfl
      generalize hz' : totN 6 N (k + 1) = z' at CM
      have HZ' : Hid (totN 6 N (k + 1) = z') := hz'
      clear HZ hz'
      go_wp2_with fail
      refine CM.out.mono ?_
      rintro r w2 ⟨rfl, ⟨E2, N2, hO, hM, hN⟩, hW⟩
      have O2 : Hid (OwnExprsI o hi n n w2 E2 N2) := hO
      have X2 : Hid (MkdExprsI k0 N (k + 1) E2 N2 ∧ (∀ i, k + 1 ≤ i → N2 i = N i) ∧ Win o hi w w2) := ⟨hM, hN, hW⟩
      clear hO hM hN hW CM
      go_wp2
      go_roundw
      case rel => exact ⟨k + 1, E2, N2, by omega, by go_num, by rw [HZ'.out], O2.out, X2.out⟩
      case measure => simp [intOf]; omega
    · have e : k = n := by omega
      subst e
      go_wp2
      go_ret
      exact ⟨rfl, ⟨E', N', HO.out, HM.out⟩, HW.out⟩
set_option maxRecDepth 20000 in
set_option maxHeartbeats 8000000 in
/-- What is marked is held. -/
theorem heldExprS_at {o hi n : Nat} {w : World} {E : Nat → Nat → Int} {N N0 : Nat → List Int} (k0 : Int) (h : OwnExprsI o hi n n w E N) (hm : MkdExprsI k0 N0 n E N) (hl : ∀ i, (N0 i).length ≤ 1048576) (hn : n ≤ 1048576) (hT : totN 6 N0 n ≤ 1073741824) (p1 : 0 ≤ k0) (p2 : k0 ≤ 1073741824) :
    Calls Tryd.prog 27 #[.slice (some ⟨o, 0, none⟩) n n, .int .i64 k0] w fun e w' => e = .returned (.int .i64 (k0 + (totN 6 N0 n : Int))) ∧ w' = w := by
  have H : Hid (OwnExprsI o hi n n w E N) := h
  have HM : Hid (MkdExprsI k0 N0 n E N) := hm
  have HL : Hid (∀ i, (N0 i).length ≤ 1048576) := hl
  have HT : Hid (∀ i, i ≤ n → totN 6 N0 i ≤ 1073741824) := fun i hi => Nat.le_trans (totN_mono 6 N0 hi) hT
  have T0 : Hid (totN 6 N0 0 = 0) := rfl
  clear h hl hm hT
  go_enter Tryd.func27, Tryd.ntmps27
  go_wp2
  go_loop [1, 5] (fun q i => ∃ (k : Nat), k ≤ n ∧ i = .int .i64 k ∧ q = .int .i64 (k0 + (totN 6 N0 k : Int))) (fun _ i => n - (intOf i).toNat)
  case atStart => exact ⟨0, by omega, rfl, by rw [T0.out]; simp⟩
  case round =>
    obtain ⟨k, hk, rfl, rfl⟩ := hrel
    by_cases hlt : (k : Int) < (n : Int)
    · have L : k < n := by omega
      have ht := HT.out k hk
      have ht2 := HT.out (k + 1) (by omega)
      have TS : totN 6 N0 (k + 1) = totN 6 N0 k + (6 + (N0 k).length) := rfl
      obtain ⟨⟨m0, m1, m2, m3, m4, m5⟩, mn⟩ := HM.out k L
      obtain ⟨A, x, lo, h1, h2, h3, h4, h5, h6, h7⟩ := H.out
      obtain ⟨⟨q0, q1, q2, q3, q4, q5, q6⟩, qz⟩ := h7 k L
      rw [mn] at qz
      obtain ⟨xa, xc, ex, _⟩ := qz.ints
      rw [upFrom_length] at ex
      rw [ex] at qz q6
      have c0 : w.cell? ⟨o, k * 7, none⟩ = some (.int .i64 (k0 + (totN 6 N0 k : Int))) := by rw [cell_at h1 q0, m0, Int.add_zero]
      have c1 : w.cell? ⟨o, k * 7 + 1, none⟩ = some (.int .i64 (k0 + (totN 6 N0 k : Int) + 1)) := by rw [cell_at h1 q1, m1]
      have c2 : w.cell? ⟨o, k * 7 + 2, none⟩ = some (.int .i64 (k0 + (totN 6 N0 k : Int) + 1 + 1)) := by rw [cell_at h1 q2, m2]; congr 2; omega
      have c3 : w.cell? ⟨o, k * 7 + 3, none⟩ = some (.int .i64 (k0 + (totN 6 N0 k : Int) + 1 + 1 + 1)) := by rw [cell_at h1 q3, m3]; congr 2; omega
      have c4 : w.cell? ⟨o, k * 7 + 4, none⟩ = some (.int .i64 (k0 + (totN 6 N0 k : Int) + 1 + 1 + 1 + 1)) := by rw [cell_at h1 q4, m4]; congr 2; omega
      have c5 : w.cell? ⟨o, k * 7 + 5, none⟩ = some (.int .i64 (k0 + (totN 6 N0 k : Int) + 1 + 1 + 1 + 1 + 1)) := by rw [cell_at h1 q5, m5]; congr 2; omega
      have c6 : w.cell? ⟨o, k * 7 + 6, none⟩ = some (.slice xa (N0 k).length xc) := cell_at h1 q6
      have CH : Hid (Calls Tryd.prog 45 #[.slice xa (N0 k).length xc, .int .i64 (k0 + (totN 6 N0 k : Int) + 1 + 1 + 1 + 1 + 1 + 1)] w fun e w' => e = .returned (.int .i64 (k0 + (totN 6 N0 (k + 1) : Int))) ∧ w' = w) := by
        have := held_piece (k0 + (totN 6 N0 k : Int) + 6) qz (HL.out k) (by omega) (by omega)
        rw [show k0 + (totN 6 N0 k : Int) + 1 + 1 = k0 + (totN 6 N0 k : Int) + 2 by omega, show k0 + (totN 6 N0 k : Int) + 2 + 1 = k0 + (totN 6 N0 k : Int) + 3 by omega, show k0 + (totN 6 N0 k : Int) + 3 + 1 = k0 + (totN 6 N0 k : Int) + 4 by omega, show k0 + (totN 6 N0 k : Int) + 4 + 1 = k0 + (totN 6 N0 k : Int) + 5 by omega, show k0 + (totN 6 N0 k : Int) + 5 + 1 = k0 + (totN 6 N0 k : Int) + 6 by omega]
        refine this.mono ?_
        rintro e w' ⟨rfl, h⟩
        exact ⟨by rw [TS]; congr 2; omega, h⟩
      have PZ : 0 ≤ k0 + (totN 6 N0 (k + 1) : Int) := by omega
      clear q0 q1 q2 q3 q4 q5 q6 h1 h2 h3 h4 h5 h6 h7 qz ex mn m0 m1 m2 m3 m4 m5 TS
      generalize (N0 k).length = nl at *
      generalize totN 6 N0 k = z at *
      generalize hz' : totN 6 N0 (k + 1) = z' at CH PZ ht2
      have HZ' : Hid (totN 6 N0 (k + 1) = z') := hz'
      clear hz'
      go_wp2_with fail
      refine CH.out.mono ?_
      rintro r w' ⟨rfl, hw⟩
      subst w'
      clear CH
      go_wp2
      go_round
      case rel => exact ⟨k + 1, by omega, by go_num, by rw [HZ'.out]⟩
      case measure => simp [intOf]; omega
    · have e : k = n := by omega
      subst e
      go_wp2
      go_ret
      exact ⟨rfl, rfl⟩
end Go.Proofs.YtnebjnglcfebeaaDoor
namespace Go.Proofs.YtnebjnglcfebeaaDoor
open Go.RowKit
set_option linter.unusedVariables false
set_option linter.unusedSimpArgs false
end Go.Proofs.YtnebjnglcfebeaaDoor
namespace Go.Proofs.YtnebjnglcfebeaaDoor
open Go.RowKit Go.ChangeShapes Go.WideShapes
set_option linter.unusedVariables false
set_option linter.unusedSimpArgs false
theorem trod_field_expr {H : Type} {enc : TypeId × Value → H} {P : Program} {W : World} {base : Nat} {sp : Nat → Bool} {held : Bool} {n : Nat} {t : TypeId} {cs : List Value} {x : DataW H × List MemPlace} {fs : Array Field} (ht : P.underlying t = some (.struct fs)) (h : DataW.trod enc P W base sp held n t cs = some x) {j : Nat} {f : Field} (hj : fs[j]? = some f) :
    ∃ m y, DataW.trod enc P W base sp held m f.type ((cs.drop f.offset).take (P.cellsOf f.type)) = some y := by
  obtain ⟨xs, m, _, rfl, hl, hlen, hf⟩ := DataW.trod_struct ht h
  have hj' : j < fs.size := (Array.getElem?_eq_some_iff.1 hj).1
  exact ⟨m, xs[j]'(by omega), by rw [hf j f hj]; exact List.getElem?_eq_getElem (by omega)⟩
theorem trod_int_expr {H : Type} {enc : TypeId × Value → H} {W : World} {base : Nat} {held : Bool} {n : Nat} {v : Value} {y : DataW H × List MemPlace} (h : DataW.trod enc Tryd.prog W base (fun _ => true) held n 3 [v] = some y) : ∃ a : Int, v = .int .i64 a := by
  obtain ⟨a, ea, _, _⟩ := DataW.trod_int Tryd.underlying3 h
  simp at ea
  exact ⟨a, ea⟩
end Go.Proofs.YtnebjnglcfebeaaDoor
namespace Go.Proofs.YtnebjnglcfebeaaDoor
open Go.RowKit Go.ChangeShapes Go.WideShapes
set_option linter.unusedVariables false
set_option linter.unusedSimpArgs false
theorem tree_loaded {w : World} {g : Nat} {x : Value} (h : w.heap[g]? = some (.cells #[x] 26 (0, 0))) : (loadVar 26 ⟨g, 0, none⟩).run Tryd.prog w = .ok (.agg #[x]) w := by
  have c0 : w.cell? ⟨g, 0, none⟩ = some x := cell_at h rfl
  simp [loadVar, go_sem, c0]
theorem results_tree {fn : Func} {p : Tmp} (h : fn.results = #[.cell p 26]) (tmps : Array Value) (w : World) (g : Nat) (x : Value) (hp : tmps.getD p undef = .pointer (some ⟨g, 0, none⟩))
    (hg : w.heap[g]? = some (.cells #[x] 26 (0, 0))) : (results fn tmps).run Tryd.prog w = .ok (.agg #[x]) w := by
  have e : (asAddr (.pointer (some ⟨g, 0, none⟩))).run Tryd.prog w = .ok ⟨g, 0, none⟩ w := by simp [asAddr]
  have l := tree_loaded hg
  have hp' : tmps[p]?.getD undef = .pointer (some ⟨g, 0, none⟩) := by simpa using hp
  simp [results, h, hp', e, l, Sem.run_bind, Result.andThen]
set_option maxRecDepth 20000 in
set_option maxHeartbeats 4000000 in
theorem eqTree_same {w : World} {v u : Value} {n : Nat} {E : Nat → Nat → Int} {N : Nat → List Int} (h : ExprsI w v n E N) (k : ExprsI w u n E N) (hl : ∀ i, (N i).length ≤ 1048576) (hn : n ≤ 1048576) :
    Calls Tryd.prog 9 #[.agg #[v], .agg #[u]] w fun r w' => r = .returned (.bool true) ∧ Below w.heap.size w w' := by
  have CS : Hid (∀ W, Below w.heap.size w W → Calls Tryd.prog 24 #[v, u] W fun r w' => r = .returned (.bool true) ∧ Below W.heap.size W w') := fun W hb => eqExprS_same (h.keep hb) (k.keep hb) hl hn
  clear hl hn
  obtain ⟨a, c, rfl, _⟩ := h
  obtain ⟨a', c', rfl, _⟩ := k
  go_enter Tryd.func9, Tryd.ntmps9
  go_wp2_with fail
  refine (CS.out _ two_below).mono ?_
  rintro r w2 ⟨rfl, hb⟩
  have B2 : Hid (Below w.heap.size w w2) := bTrans two_below hb
  clear hb
  go_wp2
  go_ret
  exact ⟨rfl, B2.out⟩
theorem open_agg1 {H : Type} {enc : TypeId × Value → H} {P : Program} {w : World} {base : Nat} {spare : Nat → Bool} {held : Bool} {r : Reach} {b0 : Nat} {t : TypeId} {f0 : Field} {v : Value} {d : DataW H} {p : List MemPlace} (hs : P.underlying t = some (.struct #[f0])) (hone : Deep.oneCellFields P #[f0] = true) (hC : P.cellsOf t = 1)
    (hv : Value.okWide P w r b0 t v) (h : DataW.Trod enc P w base spare held t v d p) :
    ∃ (v0 : Value) (y0 : DataW H × List MemPlace) (n : Nat), v = .agg #[v0] ∧ d = .agg [y0.1] ∧ p = y0.2 ∧ DataW.trod enc P w base spare held n f0.type [v0] = some y0 := by
  obtain ⟨cs, rfl, hsz⟩ := okWide_struct hs hv
  obtain ⟨c0, rfl⟩ : ∃ c0, cs = #[c0] := by
    have h1 := hsz.trans hC
    obtain ⟨l⟩ := cs
    match l, h1 with
    | [c0], _ => exact ⟨c0, rfl⟩
  obtain ⟨fuel, hf⟩ := h
  obtain ⟨y0, n, hx, _, h0⟩ := trod_struct1 hs hf
  obtain ⟨o0, k0⟩ := Deep.hone_of hone 0 f0 rfl
  simp only [Prod.mk.injEq] at hx
  exact ⟨c0, y0, n, rfl, hx.1, hx.2, by simpa [Value.cells, o0, k0] using h0⟩
end Go.Proofs.YtnebjnglcfebeaaDoor
namespace Go.Proofs.YtnebjnglcfebeaaDoor
open Go.RowKit
set_option linter.unusedVariables false
set_option linter.unusedSimpArgs false
/-- A block of one cell. -/
def Box1 (w : World) (g : Nat) (x : Value) (t : TypeId) : Prop := w.heap[g]? = some (.cells #[x] t (0, 0))
section
variable {w w' : World} {g B C : Nat} {x : Value} {t : TypeId}
theorem Box1.lt (h : Box1 w g x t) : g < w.heap.size := lt_of_heapA h
theorem Box1.keep (h : Box1 w g x t) (hb : Below w.heap.size w w') : Box1 w' g x t := by unfold Box1; rw [hb.block g h.lt]; exact h
theorem Box1.win (h : Box1 w g x t) (hw : Win B C w w') (hd : g < B ∨ C ≤ g) : Box1 w' g x t := by unfold Box1; rw [hw.block g h.lt hd]; exact h
theorem Box1.c0 (h : Box1 w g x t) : w.cell? ⟨g, 0, none⟩ = some x := cell_at h rfl
theorem box1_new (w : World) (x : Value) (t : TypeId) : Box1 (w.alloc (.cells #[x] t)) w.heap.size x t := heap_alloc_new w _
end
set_option maxRecDepth 20000 in
set_option maxHeartbeats 4000000 in
/-- A tree is marked. -/
theorem markTree_at {o hi n : Nat} {w : World} {E : Nat → Nat → Int} {N : Nat → List Int} (h : OwnExprsI o hi n n w E N) (hl : ∀ i, (N i).length ≤ 1048576) (hn : n ≤ 1048576) (k0 : Int) (p1 : 0 ≤ k0) (p2 : k0 ≤ 1099511627776) :
    Calls Tryd.prog 12 #[.agg #[.slice (some ⟨o, 0, none⟩) n n], .int .i64 k0] w fun e w' => e = .returned (.int .i64 (k0 + (totN 6 N n : Int))) ∧ Win o hi w w' := by
  have CM : Hid (Calls Tryd.prog 26 #[.slice (some ⟨o, 0, none⟩) n n, .int .i64 k0] (w.alloc (.cells #[.slice (some ⟨o, 0, none⟩) n n] 26)) fun e w' => e = .returned (.int .i64 (k0 + (totN 6 N n : Int))) ∧ Win o hi w w') := by
    refine (markExprS_at (h.keep one_below) hl hn k0 p1 p2).mono ?_
    rintro e w' ⟨rfl, _, hw⟩
    exact ⟨rfl, Win.trans (Below.win one_below) hw⟩
  clear h hl
  generalize totN 6 N n = z at *
  go_enter Tryd.func12, Tryd.ntmps12
  go_wp2_with fail
  refine CM.out.mono ?_
  rintro r w2 ⟨rfl, hw⟩
  have HW : Hid (Win o hi w w2) := hw
  clear hw CM
  go_wp2
  go_ret
  exact ⟨rfl, HW.out⟩
end Go.Proofs.YtnebjnglcfebeaaDoor
namespace Go.Proofs.YtnebjnglcfebeaaDoor
open Go.RowKit
set_option linter.unusedVariables false
set_option linter.unusedSimpArgs false
set_option maxRecDepth 20000 in
set_option maxHeartbeats 4000000 in
theorem tokens_spec {w : World} {a : Option Addr} {n c : Nat} {E : Nat → Spn} (h : SsA w a n E) (hn : n ≤ 1048576) :
    Calls Tryd.prog 17 #[.slice a n c] w fun e w' => e = .returned (.bool (tokR n E)) ∧ Below w.heap.size w w' := by
  have H : Hid (SsA w a n E) := h
  have ER : Hid (tokAll E n = true → tokR n E = decide ((n : Int) ≤ 300)) := fun h => by
    unfold tokR
    rw [h, Bool.true_and]
    by_cases e : n ≤ 300
    · rw [decide_eq_true e, decide_eq_true (by omega)]
    · rw [decide_eq_false e, decide_eq_false (by omega)]
  have EF : Hid (tokAll E n = false → tokR n E = false) := fun h => by unfold tokR; rw [h]; rfl
  clear h
  go_enter Tryd.func17, Tryd.ntmps17
  go_wp2
  go_loopw [3] (fun i w' => ∃ k : Nat, k ≤ n ∧ i = .int .i64 (k : Int) ∧ tokAll E k = true ∧ Below w.heap.size w w') (fun i _ => n - (intOf i).toNat)
  case atStart => exact ⟨0, by omega, rfl, rfl, Below.refl _ _⟩
  case round =>
    obtain ⟨k, hk, rfl, ha, hb⟩ := hrel
    have HA : Hid (tokAll E k = true) := ha
    have HB : Hid (Below w.heap.size w wr) := hb
    clear ha hb
    by_cases hlt : (k : Int) < (n : Int)
    · have L : k < n := by omega
      obtain ⟨o, off, rfl, ho, p0, p1⟩ := (H.out.keep HB.out).at L
      have NO : Hid (tokB (E k).f (E k).t = false → tokR n E = false) := fun h => EF.out (tokAll_no L h)
      have YES : Hid (tokB (E k).f (E k).t = true → tokAll E (k + 1) = true) := fun h => tokAll_next HA.out h
      have CT : Hid (∀ W, Calls Tryd.prog 33 #[.agg #[.int .i64 (E k).f, .int .i64 (E k).t]] W fun e w' => e = .returned (.bool (tokB (E k).f (E k).t)) ∧ Below W.heap.size W w') := fun W => tokOk_spec _ _ W
      clear ho
      generalize (E k).f = e0 at *
      generalize (E k).t = e1 at *
      generalize tokB e0 e1 = q at *
      go_wp2_with fail
      refine (CT.out _).mono ?_
      rintro r w2 ⟨rfl, hb⟩
      have B2 : Hid (Below w.heap.size w w2) := bTrans HB.out hb
      clear hb CT p0 p1
      cases q
      · go_wp2
        go_ret
        exact ⟨by rw [NO.out (by trivial)]; rfl, B2.out⟩
      · go_wp2
        go_roundw
        case rel => exact ⟨k + 1, by omega, by go_num, YES.out (by trivial), B2.out⟩
        case measure => simp [intOf]; omega
    · obtain rfl : k = n := by omega
      go_wp2
      go_ret
      exact ⟨by rw [ER.out HA.out]; rfl, HB.out⟩
end Go.Proofs.YtnebjnglcfebeaaDoor
namespace Go.Proofs.YtnebjnglcfebeaaDoor
open Go.RowKit
set_option linter.unusedVariables false
set_option linter.unusedSimpArgs false
/-- l9Line. -/
theorem line_spec {n c : Nat} {T : Nat → Spn} {a : Option Addr} (ha : tokAll T n = true) (hn : n ≤ 300) : ∀ k, LineIH n T a c k
  | 0 => fun W g p v L _ _ _ hp hk _ => by omega
  | k + 1 => fun W g p v L hc hl ht hp hk hL => by
    by_cases e1 : tkK n T p = 2 ∧ tkK n T (p + 1) = 6
    · exact lineA (line_spec ha hn k) ha hn hc hl ht hp (by omega) hL e1.1 e1.2
    · by_cases e3 : tkK n T p = 3
      · exact lineB (line_spec ha hn k) ha hn hc hl ht hp (by omega) hL e3
      · exact lineC (line_spec ha hn k) ha hn hc hl ht hp (by omega) hL e1 e3
def ndE (l : List Nd) (i j : Nat) : Int := match j with
  | 0 => (l.getD i nb0.1).k
  | 1 => (l.getD i nb0.1).a
  | 2 => (l.getD i nb0.1).b
  | 3 => (l.getD i nb0.1).s
  | 4 => (l.getD i nb0.1).o
  | _ => (l.getD i nb0.1).h
def ndN (l : List Nd) (i : Nat) : List Int := (l.getD i nb0.1).l
theorem map_getD (L : List Nb) (i : Nat) : (L.map (fun z => z.1)).getD i nb0.1 = (L.getD i nb0).1 := by
  simp only [List.getD_eq_getElem?_getD, List.getElem?_map]
  cases L[i]? <;> rfl
theorem NL.exprs {g : Nat} {w : World} {v : Value} {L : List Nb} (h : NL g w v L) : ExprsI w v L.length (ndE (L.map (fun z => z.1))) (ndN (L.map (fun z => z.1))) := by
  obtain ⟨a, c, e⟩ := h.row.slice
  subst e
  refine ⟨a, c, rfl, ?_⟩
  by_cases h0 : L.length = 0
  · exact .inl h0
  · obtain ⟨o, e, _, ho, _⟩ := h.row.at (show 0 < L.length by omega)
    refine .inr ⟨o, 0, fun i => (L.getD i nb0).2.1, e, ho, fun i hi => ?_⟩
    obtain ⟨o', e', _, _, hc⟩ := h.row.at hi
    rw [e] at e'
    cases e'
    have hm : L.getD i nb0 ∈ L := by rw [List.getD_eq_getElem?_getD, List.getElem?_eq_getElem hi]; exact List.getElem_mem hi
    have hp := (h.nums _ hm).1
    simp only [ndE, ndN, map_getD, Nat.zero_add]
    exact ⟨⟨hc 0 _ rfl, hc 1 _ rfl, hc 2 _ rfl, hc 3 _ rfl, hc 4 _ rfl, hc 5 _ rfl, hc 6 _ rfl⟩, hp.intsI⟩
theorem results_tree_tmp {fn : Func} {p u : Tmp} (h : fn.results = #[.cell p 26, .tmp u]) (tmps : Array Value) (w : World) (g : Nat) (x : Value) (hp : tmps.getD p undef = .pointer (some ⟨g, 0, none⟩))
    (hg : w.heap[g]? = some (.cells #[x] 26 (0, 0))) : (results fn tmps).run Tryd.prog w = .ok (.tuple #[.agg #[x], tmps.getD u undef]) w := by
  rw [results_cell_tmp h, hp]
  have e : (asAddr (.pointer (some ⟨g, 0, none⟩))).run Tryd.prog w = .ok ⟨g, 0, none⟩ w := by simp [asAddr]
  have c0 : w.cell? ⟨g, 0, none⟩ = some x := cell_at hg rfl
  have l : (loadVar 26 ⟨g, 0, none⟩).run Tryd.prog w = .ok (.agg #[x]) w := by simp [loadVar, go_sem, c0]
  rw [e, Result.andThen_ok, l]
  rfl
theorem one_stored {w : World} {g : Nat} {x x' : Value} {t : TypeId} (h : w.heap[g]? = some (.cells #[x] t (0, 0))) : (w.setCell ⟨g, 0, none⟩ x').heap[g]? = some (.cells #[x'] t (0, 0)) := by
  have h1 := heap_setCell_same w g 0 _ _ x' h
  simpa using h1
theorem two_blocks (w : World) (A B : Obj) : ((w.alloc A).alloc B).heap[w.heap.size]? = some A ∧ ((w.alloc A).alloc B).heap[w.heap.size + 1]? = some B := by
  have e1 := heap_alloc_new w A
  have e2 := heap_alloc_new (w.alloc A) B
  simp only [World.size_alloc] at e2
  refine ⟨?_, e2⟩
  rw [heap_alloc_old _ _ (by simp only [World.size_alloc]; omega)]; exact e1
/-- What Parse answers, by value. -/
def ParPost (n : Nat) (T : Nat → Spn) (w : World) (e : Ending) (w' : World) : Prop :=
  ∃ (v : Value) (g : Nat) (L : List Nb), e = .returned (.tuple #[.agg #[v], .int .i64 (parC n T).1]) ∧ w.heap.size ≤ g ∧ NL g w' v L ∧ L.map (fun z => z.1) = (parC n T).2 ∧ Below w.heap.size w w'
set_option maxRecDepth 20000 in
set_option maxHeartbeats 8000000 in
/-- The specification's Parse. -/
theorem parse_spec {w : World} {a : Option Addr} {n c : Nat} {T : Nat → Spn} (h : SsA w a n T) (hn : n ≤ 1048576) :
    Calls Tryd.prog 6 #[.slice a n c] w fun e w' => ParPost n T w e w' := by
  have H : Hid (SsA w a n T) := h
  have q := two_blocks w (.cells #[.slice none 0 0] 26) (.cells #[.slice none 0 0] 26)
  have BA : Hid (Below w.heap.size w ((w.alloc (.cells #[.slice none 0 0] 26)).alloc (.cells #[.slice none 0 0] 26))) := bAlloc (bAlloc (Below.refl _ _) _) _
  have QA : Hid (((w.alloc (.cells #[.slice none 0 0] 26)).alloc (.cells #[.slice none 0 0] 26)).heap[w.heap.size]? = some (.cells #[.slice none 0 0] 26 (0, 0)) ∧ ((w.alloc (.cells #[.slice none 0 0] 26)).alloc (.cells #[.slice none 0 0] 26)).heap[w.heap.size + 1]? = some (.cells #[.slice none 0 0] 26 (0, 0))) := q
  have CT : Hid (∀ W, Below w.heap.size w W → Calls Tryd.prog 17 #[.slice a n c] W fun e w' => e = .returned (.bool (tokR n T)) ∧ Below W.heap.size W w') := fun W hb => tokens_spec (h.keep hb) hn
  clear h q
  unfold ParPost
  by_cases hr : tokR n T = true
  · have HR : Hid (tokAll T n = true ∧ n ≤ 300) := by
      unfold tokR at hr
      simp only [Bool.and_eq_true, decide_eq_true_eq] at hr
      exact hr
    have EX : Hid (parC n T = match lineP n T (n + 1) 0 with
        | none => (8, [])
        | some x => if x.2 = n then (if x.1.size ≤ 60 then (0, x.1.flat 0) else (6, [])) else (8, [])) := by show _ = _; unfold parC; rw [if_pos hr]; rfl
    rw [hr] at CT
    clear hr
    have hn3 : n ≤ 300 := HR.out.2
    have CL : Hid (∀ W, Below w.heap.size w W → Calls Tryd.prog 18 #[.pointer (some ⟨W.heap.size, 0, none⟩)] (W.alloc (.cells #[.slice a n c, .int .i64 0, .slice none 0 0] 44)) fun e w' => LinePost (.slice a n c) (W.alloc (.cells #[.slice a n c, .int .i64 0, .slice none 0 0] 44)) W.heap.size (.slice none 0 0) [] (lineP n T (n + 1) 0) e w') := fun W hb => by
      refine line_spec HR.out.1 HR.out.2 (n + 1) _ W.heap.size 0 (.slice none 0 0) [] (heap_alloc_new W _) (NL.nil _ _) ?_ (by omega) (by omega) (by simp; omega)
      have hs := H.out.keep (bTrans hb (bAlloc (Below.refl W.heap.size W) (.cells #[.slice a n c, .int .i64 0, .slice none 0 0] 44)))
      have hz := hb.size
      rcases H.out with h | ⟨o, off, e, ho, _⟩
      · exact .inl h
      · rcases hs with h | ⟨o', off', e', ho', h'⟩
        · exact .inl h
        · rw [e] at e'
          cases e'
          exact .inr ⟨o, off, e, by omega, ho', h'⟩
    cases hx : lineP n T (n + 1) 0 with
    | none =>
      rw [hx] at CL EX
      clear hx HR
      go_enter Tryd.func6, Tryd.ntmps6
      go_wp2_with fail
      refine (CT.out _ BA.out).mono ?_
      rintro r w1 ⟨rfl, hb⟩
      have B1 : Hid (Below w.heap.size w w1) := bTrans BA.out hb
      have Q1 : Hid (w1.heap[w.heap.size]? = some (.cells #[.slice none 0 0] 26 (0, 0)) ∧ w1.heap[w.heap.size + 1]? = some (.cells #[.slice none 0 0] 26 (0, 0))) := ⟨by rw [hb.block _ (lt_of_heapA QA.out.1)]; exact QA.out.1, by rw [hb.block _ (lt_of_heapA QA.out.2)]; exact QA.out.2⟩
      clear hb CT BA QA H
      have LG : Hid (w.heap.size + 1 < w1.heap.size) := lt_of_heapA Q1.out.2
      go_wp2_with fail
      refine (CL.out _ B1.out).mono ?_
      rintro r w3 ⟨rfl, hb⟩
      have B3 : Hid (Below w.heap.size w w3) := bTrans B1.out (((bAlloc (Below.refl _ _) _)).trans hb)
      have Q3 : Hid (w3.heap[w.heap.size]? = some (.cells #[.slice none 0 0] 26 (0, 0)) ∧ w3.heap[w.heap.size + 1]? = some (.cells #[.slice none 0 0] 26 (0, 0))) := by
        have hz := ((bAlloc (Below.refl w1.heap.size w1) (.cells #[.slice a n c, .int .i64 0, .slice none 0 0] 44))).trans hb
        exact ⟨by rw [hz.block _ (by have := LG.out; omega)]; exact Q1.out.1, by rw [hz.block _ LG.out]; exact Q1.out.2⟩
      clear hb CL Q1 B1
      have a0 := cell_at (k := 0) Q3.out.1 rfl
      have b0 := cell_at (k := 0) Q3.out.2 rfl
      have f0 := free_at Q3.out.1 0
      have HS : Hid _ := one_stored (x' := .slice none 0 0) Q3.out.1
      clear Q3
      go_wp2
      refine bodyPost_ret (results_tree_tmp Tryd.results6 _ _ w.heap.size _ rfl HS.out) rfl ?_
      rw [EX.out]
      exact ⟨_, w.heap.size, [], rfl, Nat.le_refl _, NL.nil _ _, rfl, below_setCell B3.out (Nat.le_refl _) _ _⟩
    | some y =>
      obtain ⟨b, q⟩ := y
      have YF : Hid (0 < q ∧ q ≤ n ∧ b.size + 0 ≤ q) := lineP_fine (n := n) (T := T) (n + 1) 0 _ hx
      rw [hx] at CL EX
      simp only at EX
      clear hx HR
      go_enter Tryd.func6, Tryd.ntmps6
      go_wp2_with fail
      refine (CT.out _ BA.out).mono ?_
      rintro r w1 ⟨rfl, hb⟩
      have B1 : Hid (Below w.heap.size w w1) := bTrans BA.out hb
      have Q1 : Hid (w1.heap[w.heap.size]? = some (.cells #[.slice none 0 0] 26 (0, 0)) ∧ w1.heap[w.heap.size + 1]? = some (.cells #[.slice none 0 0] 26 (0, 0))) := ⟨by rw [hb.block _ (lt_of_heapA QA.out.1)]; exact QA.out.1, by rw [hb.block _ (lt_of_heapA QA.out.2)]; exact QA.out.2⟩
      clear hb CT BA QA H
      have LG : Hid (w.heap.size + 1 < w1.heap.size) := lt_of_heapA Q1.out.2
      go_wp2_with fail
      refine (CL.out _ B1.out).mono ?_
      rintro r w3 ⟨rfl, v3, M, hS, hM⟩
      simp only [List.nil_append] at hS
      have hb : Below w1.heap.size (w1.alloc (.cells #[.slice a n c, .int .i64 0, .slice none 0 0] 44)) w3 := hS.vbelow (by simp) (NL.nil _ _)
      have B3 : Hid (Below w.heap.size w w3) := bTrans B1.out (((bAlloc (Below.refl _ _) _)).trans hb)
      have Q3 : Hid (w3.heap[w.heap.size]? = some (.cells #[.slice none 0 0] 26 (0, 0)) ∧ w3.heap[w.heap.size + 1]? = some (.cells #[.slice none 0 0] 26 (0, 0))) := by
        have hz := ((bAlloc (Below.refl w1.heap.size w1) (.cells #[.slice a n c, .int .i64 0, .slice none 0 0] 44))).trans hb
        exact ⟨by rw [hz.block _ (by have := LG.out; omega)]; exact Q1.out.1, by rw [hz.block _ LG.out]; exact Q1.out.2⟩
      have S3 : Hid (Cur w3 w1.heap.size (.slice a n c) q v3 ∧ NL w1.heap.size w3 v3 M) := ⟨hS.cur, hS.nl⟩
      have HM : Hid (M.map (fun z => z.1) = b.flat 0) := hM
      have MLn : Hid (M.length = b.size) := by show _ = _; rw [← List.length_map (f := fun z : Nb => z.1), hM, Br.flat_len]
      clear hS hM hb CL Q1 B1
      obtain ⟨va, vc, ev⟩ := S3.out.2.row.slice
      subst ev
      have c1 := cell_at (k := 1) S3.out.1 rfl
      have c2 := cell_at (k := 2) S3.out.1 rfl
      by_cases hq : q = n
      · rw [if_pos hq] at EX
        have hq1 : ((q : Int) != (n : Int)) = false := by simp [hq]
        clear hq
        by_cases h6 : b.size ≤ 60
        · rw [if_pos h6] at EX
          have h61 : decide ((60 : Int) < (M.length : Int)) = false := by have := MLn.out; simp; omega
          have h62 : ¬ ((60 : Int) < (M.length : Int)) := by have := MLn.out; omega
          have a0 := cell_at (k := 0) Q3.out.1 rfl
          have f0 := free_at Q3.out.1 0
          have HS : Hid _ := one_stored (x' := .slice va M.length vc) Q3.out.1
          have SN : Hid (NL w1.heap.size (w3.setCell ⟨w.heap.size, 0, none⟩ (.slice va M.length vc)) (.slice va M.length vc) M) := S3.out.2.same fun j h1 h2 => (show Win w.heap.size (w.heap.size + 1) w3 (w3.setCell ⟨w.heap.size, 0, none⟩ (.slice va M.length vc)) from win_setCell _ _ _ _).block j h2 (by have := LG.out; omega)
          clear Q3 S3
          go_wp2
          refine bodyPost_ret (results_tree_tmp Tryd.results6 _ _ w.heap.size _ rfl HS.out) rfl ?_
          rw [EX.out]
          exact ⟨_, w1.heap.size, M, rfl, by have := LG.out; omega, SN.out, HM.out, below_setCell B3.out (Nat.le_refl _) _ _⟩
        · rw [if_neg h6] at EX
          have h61 : decide ((60 : Int) < (M.length : Int)) = true := by have := MLn.out; simp; omega
          have h62 : ((60 : Int) < (M.length : Int)) := by have := MLn.out; omega
          have a0 := cell_at (k := 0) Q3.out.1 rfl
          have b0 := cell_at (k := 0) Q3.out.2 rfl
          have f0 := free_at Q3.out.1 0
          have HS : Hid _ := one_stored (x' := .slice none 0 0) Q3.out.1
          clear Q3
          go_wp2
          refine bodyPost_ret (results_tree_tmp Tryd.results6 _ _ w.heap.size _ rfl HS.out) rfl ?_
          rw [EX.out]
          exact ⟨_, w.heap.size, [], rfl, Nat.le_refl _, NL.nil _ _, rfl, below_setCell B3.out (Nat.le_refl _) _ _⟩
      · rw [if_neg hq] at EX
        have hq1 : ((q : Int) != (n : Int)) = true := by simp; omega
        have a0 := cell_at (k := 0) Q3.out.1 rfl
        have b0 := cell_at (k := 0) Q3.out.2 rfl
        have f0 := free_at Q3.out.1 0
        have HS : Hid _ := one_stored (x' := .slice none 0 0) Q3.out.1
        clear Q3
        go_wp2
        refine bodyPost_ret (results_tree_tmp Tryd.results6 _ _ w.heap.size _ rfl HS.out) rfl ?_
        rw [EX.out]
        exact ⟨_, w.heap.size, [], rfl, Nat.le_refl _, NL.nil _ _, rfl, below_setCell B3.out (Nat.le_refl _) _ _⟩
  · have EX : Hid (parC n T = (1, [])) := by show _ = _; unfold parC; rw [if_neg hr]
    have hr2 : tokR n T = false := by simpa using hr
    rw [hr2] at CT
    clear hr hr2
    go_enter Tryd.func6, Tryd.ntmps6
    go_wp2_with fail
    refine (CT.out _ BA.out).mono ?_
    rintro r w1 ⟨rfl, hb⟩
    have B1 : Hid (Below w.heap.size w w1) := bTrans BA.out hb
    have Q1 : Hid (w1.heap[w.heap.size]? = some (.cells #[.slice none 0 0] 26 (0, 0)) ∧ w1.heap[w.heap.size + 1]? = some (.cells #[.slice none 0 0] 26 (0, 0))) := ⟨by rw [hb.block _ (lt_of_heapA QA.out.1)]; exact QA.out.1, by rw [hb.block _ (lt_of_heapA QA.out.2)]; exact QA.out.2⟩
    clear hb CT BA QA H
    have Q3 := Q1
    have B3 := B1
    clear Q1 B1
    have a0 := cell_at (k := 0) Q3.out.1 rfl
    have b0 := cell_at (k := 0) Q3.out.2 rfl
    have f0 := free_at Q3.out.1 0
    have HS : Hid _ := one_stored (x' := .slice none 0 0) Q3.out.1
    clear Q3
    go_wp2
    refine bodyPost_ret (results_tree_tmp Tryd.results6 _ _ w.heap.size _ rfl HS.out) rfl ?_
    rw [EX.out]
    exact ⟨_, w.heap.size, [], rfl, Nat.le_refl _, NL.nil _ _, rfl, below_setCell B3.out (Nat.le_refl _) _ _⟩
end Go.Proofs.YtnebjnglcfebeaaDoor
namespace Go.Proofs.YtnebjnglcfebeaaDoor
open Go.RowKit
set_option linter.unusedVariables false
set_option linter.unusedSimpArgs false
def OwnT (o lo hi n : Nat) (W : World) (E : Nat → Nat → Int) (N : Nat → List Int) : Prop :=
  ∃ (A : Array Value) (x : Nat → Value) (b : Nat → Nat), W.heap[o]? = some (.cells A 67 (0, 0)) ∧ n * 7 ≤ A.size ∧ (lo ≤ o ∧ o < hi) ∧ hi ≤ W.heap.size ∧ hi ≤ W.heap.size ∧ (∀ i j, i < n → j < n → i ≠ j → N i ≠ [] → N j ≠ [] → b i ≠ b j) ∧
    ∀ i, i < n → (A[i * 7]? = some (.int .i64 (E i 0)) ∧ A[i * 7 + 1]? = some (.int .i64 (E i 1)) ∧ A[i * 7 + 2]? = some (.int .i64 (E i 2)) ∧ A[i * 7 + 3]? = some (.int .i64 (E i 3)) ∧ A[i * 7 + 4]? = some (.int .i64 (E i 4)) ∧ A[i * 7 + 5]? = some (.int .i64 (E i 5)) ∧ A[i * 7 + 6]? = some (x i)) ∧ Piece (b i) (b i + 1) W (x i) (N i) ∧ (N i ≠ [] → lo ≤ b i ∧ b i < hi ∧ b i ≠ o)
section
variable {W W' : World} {o lo hi n k : Nat} {E : Nat → Nat → Int} {N : Nat → List Int}
theorem OwnT.los (h : OwnT o lo hi n W E N) : lo ≤ o ∧ o < hi := by obtain ⟨A, x, b, h1, h2, h3, _⟩ := h; exact h3
theorem OwnT.same (h : OwnT o lo hi n W E N) (hs : W.heap.size ≤ W'.heap.size) (hb : ∀ j, lo ≤ j → j < hi → W'.heap[j]? = W.heap[j]?) : OwnT o lo hi n W' E N := by
  obtain ⟨A, x, b, h1, h2, h3, h4, h5, h6, h7⟩ := h
  exact ⟨A, x, b, by rw [hb o h3.1 h3.2]; exact h1, h2, h3, Nat.le_trans h4 hs, Nat.le_trans h4 hs, h6, fun i hi => ⟨(h7 i hi).1, piece_same (h7 i hi).2.1 fun hl => hb _ ((h7 i hi).2.2 hl).1 ((h7 i hi).2.2 hl).2.1, (h7 i hi).2.2⟩⟩
theorem OwnT.top (h : OwnT o lo hi n W E N) : hi ≤ W.heap.size := by obtain ⟨A, x, b, h1, h2, h3, h4, _⟩ := h; exact h4
theorem OwnT.keep (h : OwnT o lo hi n W E N) (hb : Below W.heap.size W W') : OwnT o lo hi n W' E N := h.same hb.size fun j _ h2 => hb.block j (by have := h.top; omega)
theorem OwnT.win {B C : Nat} (h : OwnT o lo hi n W E N) (hw : Win B C W W') (hd : hi ≤ B ∨ C ≤ lo) : OwnT o lo hi n W' E N := h.same hw.size fun j h1 h2 => hw.block j (by have := h.top; omega) (by omega)
theorem OwnT.cells (h : OwnT o lo hi n W E N) {i : Nat} (hk : i < n) : ((∃ u, W.cell? ⟨o, i * 7, none⟩ = some u) ∧ (∃ u, W.cell? ⟨o, i * 7 + 1, none⟩ = some u) ∧ (∃ u, W.cell? ⟨o, i * 7 + 2, none⟩ = some u) ∧ (∃ u, W.cell? ⟨o, i * 7 + 3, none⟩ = some u) ∧ (∃ u, W.cell? ⟨o, i * 7 + 4, none⟩ = some u) ∧ (∃ u, W.cell? ⟨o, i * 7 + 5, none⟩ = some u) ∧ (∃ u, W.cell? ⟨o, i * 7 + 6, none⟩ = some u)) ∧ W.frozen? ⟨o, i * 7, none⟩ = false ∧ W.frozen? ⟨o, i * 7 + 1, none⟩ = false ∧ W.frozen? ⟨o, i * 7 + 2, none⟩ = false ∧ W.frozen? ⟨o, i * 7 + 3, none⟩ = false ∧ W.frozen? ⟨o, i * 7 + 4, none⟩ = false ∧ W.frozen? ⟨o, i * 7 + 5, none⟩ = false ∧ W.frozen? ⟨o, i * 7 + 6, none⟩ = false := by
  obtain ⟨A, x, b, h1, h2, _⟩ := h
  have g : ∀ j, j < n * 7 → ∃ u, W.cell? ⟨o, j, none⟩ = some u := fun j hj => ⟨A[j]'(by omega), cell_at h1 (Array.getElem?_eq_getElem (by omega))⟩
  exact ⟨⟨g _ (by omega), g _ (by omega), g _ (by omega), g _ (by omega), g _ (by omega), g _ (by omega), g _ (by omega)⟩, free_at h1 _, free_at h1 _, free_at h1 _, free_at h1 _, free_at h1 _, free_at h1 _, free_at h1 _⟩
theorem OwnT.list (h : OwnT o lo hi n W E N) (c : Nat) : ExprsI W (.slice (some ⟨o, 0, none⟩) n c) n E N := by
  obtain ⟨A, x, b, h1, h2, h3, h4, h5, h6, h7⟩ := h
  refine ⟨_, _, rfl, .inr ⟨o, 0, x, rfl, lt_of_heapA h1, fun i hi => ?_⟩⟩
  obtain ⟨⟨q0, q1, q2, q3, q4, q5, q6⟩, qz, _⟩ := h7 i hi
  rw [Nat.zero_add]
  exact ⟨⟨cell_at h1 q0, cell_at h1 q1, cell_at h1 q2, cell_at h1 q3, cell_at h1 q4, cell_at h1 q5, cell_at h1 q6⟩, qz.intsI⟩
set_option maxHeartbeats 4000000 in
theorem OwnT.turn (h : OwnT o lo hi n W E N) (hk : k < n) (e : Nat → Int) : OwnT o lo hi n ((((((W.setCell ⟨o, k * 7, none⟩ (.int .i64 (e 0))).setCell ⟨o, k * 7 + 1, none⟩ (.int .i64 (e 1))).setCell ⟨o, k * 7 + 2, none⟩ (.int .i64 (e 2))).setCell ⟨o, k * 7 + 3, none⟩ (.int .i64 (e 3))).setCell ⟨o, k * 7 + 4, none⟩ (.int .i64 (e 4))).setCell ⟨o, k * 7 + 5, none⟩ (.int .i64 (e 5))) (fun i => if i = k then e else E i) N := by
  obtain ⟨A, x, b, h1, h2, h3, h4, h5, h6, h7⟩ := h
  have e0 := heap_setCell_same W o (k * 7) _ _ (.int .i64 (e 0)) h1
  have e1 := heap_setCell_same _ o (k * 7 + 1) _ _ (.int .i64 (e 1)) e0
  have e2 := heap_setCell_same _ o (k * 7 + 2) _ _ (.int .i64 (e 2)) e1
  have e3 := heap_setCell_same _ o (k * 7 + 3) _ _ (.int .i64 (e 3)) e2
  have e4 := heap_setCell_same _ o (k * 7 + 4) _ _ (.int .i64 (e 4)) e3
  have e5 := heap_setCell_same _ o (k * 7 + 5) _ _ (.int .i64 (e 5)) e4
  have ww : Win o (o + 1) W ((((((W.setCell ⟨o, k * 7, none⟩ (.int .i64 (e 0))).setCell ⟨o, k * 7 + 1, none⟩ (.int .i64 (e 1))).setCell ⟨o, k * 7 + 2, none⟩ (.int .i64 (e 2))).setCell ⟨o, k * 7 + 3, none⟩ (.int .i64 (e 3))).setCell ⟨o, k * 7 + 4, none⟩ (.int .i64 (e 4))).setCell ⟨o, k * 7 + 5, none⟩ (.int .i64 (e 5))) := ((((((win_setCell _ _ _ _).trans (win_setCell _ _ _ _)).trans (win_setCell _ _ _ _)).trans (win_setCell _ _ _ _)).trans (win_setCell _ _ _ _)).trans (win_setCell _ _ _ _))
  refine ⟨_, x, b, e5, by simpa using h2, h3, by simp only [size_setCell]; exact h4, by simp only [size_setCell]; exact h5, h6, fun i hi => ?_⟩
  obtain ⟨⟨q0, q1, q2, q3, q4, q5, q6⟩, qz, qb⟩ := h7 i hi
  have qz' := piece_same qz fun hl => ww.block _ (piece_lt qz hl) (by have := (qb hl).2.2; omega)
  by_cases e : i = k
  · subst e
    simp only [if_true]
    refine ⟨⟨?_, ?_, ?_, ?_, ?_, ?_, ?_⟩, qz', qb⟩
    · rw [Array.getElem?_setIfInBounds, if_neg (by omega), Array.getElem?_setIfInBounds, if_neg (by omega), Array.getElem?_setIfInBounds, if_neg (by omega), Array.getElem?_setIfInBounds, if_neg (by omega), Array.getElem?_setIfInBounds, if_neg (by omega), Array.getElem?_setIfInBounds, if_pos rfl, if_pos (by (try simp only [Array.size_setIfInBounds]); omega)]
    · rw [Array.getElem?_setIfInBounds, if_neg (by omega), Array.getElem?_setIfInBounds, if_neg (by omega), Array.getElem?_setIfInBounds, if_neg (by omega), Array.getElem?_setIfInBounds, if_neg (by omega), Array.getElem?_setIfInBounds, if_pos rfl, if_pos (by (try simp only [Array.size_setIfInBounds]); omega)]
    · rw [Array.getElem?_setIfInBounds, if_neg (by omega), Array.getElem?_setIfInBounds, if_neg (by omega), Array.getElem?_setIfInBounds, if_neg (by omega), Array.getElem?_setIfInBounds, if_pos rfl, if_pos (by (try simp only [Array.size_setIfInBounds]); omega)]
    · rw [Array.getElem?_setIfInBounds, if_neg (by omega), Array.getElem?_setIfInBounds, if_neg (by omega), Array.getElem?_setIfInBounds, if_pos rfl, if_pos (by (try simp only [Array.size_setIfInBounds]); omega)]
    · rw [Array.getElem?_setIfInBounds, if_neg (by omega), Array.getElem?_setIfInBounds, if_pos rfl, if_pos (by (try simp only [Array.size_setIfInBounds]); omega)]
    · rw [Array.getElem?_setIfInBounds, if_pos rfl, if_pos (by (try simp only [Array.size_setIfInBounds]); omega)]
    · rw [Array.getElem?_setIfInBounds, if_neg (by omega), Array.getElem?_setIfInBounds, if_neg (by omega), Array.getElem?_setIfInBounds, if_neg (by omega), Array.getElem?_setIfInBounds, if_neg (by omega), Array.getElem?_setIfInBounds, if_neg (by omega), Array.getElem?_setIfInBounds, if_neg (by omega)]; exact q6
  · simp only [if_neg e]
    refine ⟨⟨?_, ?_, ?_, ?_, ?_, ?_, ?_⟩, qz', qb⟩
    · rw [Array.getElem?_setIfInBounds, if_neg (by omega), Array.getElem?_setIfInBounds, if_neg (by omega), Array.getElem?_setIfInBounds, if_neg (by omega), Array.getElem?_setIfInBounds, if_neg (by omega), Array.getElem?_setIfInBounds, if_neg (by omega), Array.getElem?_setIfInBounds, if_neg (by omega)]; exact q0
    · rw [Array.getElem?_setIfInBounds, if_neg (by omega), Array.getElem?_setIfInBounds, if_neg (by omega), Array.getElem?_setIfInBounds, if_neg (by omega), Array.getElem?_setIfInBounds, if_neg (by omega), Array.getElem?_setIfInBounds, if_neg (by omega), Array.getElem?_setIfInBounds, if_neg (by omega)]; exact q1
    · rw [Array.getElem?_setIfInBounds, if_neg (by omega), Array.getElem?_setIfInBounds, if_neg (by omega), Array.getElem?_setIfInBounds, if_neg (by omega), Array.getElem?_setIfInBounds, if_neg (by omega), Array.getElem?_setIfInBounds, if_neg (by omega), Array.getElem?_setIfInBounds, if_neg (by omega)]; exact q2
    · rw [Array.getElem?_setIfInBounds, if_neg (by omega), Array.getElem?_setIfInBounds, if_neg (by omega), Array.getElem?_setIfInBounds, if_neg (by omega), Array.getElem?_setIfInBounds, if_neg (by omega), Array.getElem?_setIfInBounds, if_neg (by omega), Array.getElem?_setIfInBounds, if_neg (by omega)]; exact q3
    · rw [Array.getElem?_setIfInBounds, if_neg (by omega), Array.getElem?_setIfInBounds, if_neg (by omega), Array.getElem?_setIfInBounds, if_neg (by omega), Array.getElem?_setIfInBounds, if_neg (by omega), Array.getElem?_setIfInBounds, if_neg (by omega), Array.getElem?_setIfInBounds, if_neg (by omega)]; exact q4
    · rw [Array.getElem?_setIfInBounds, if_neg (by omega), Array.getElem?_setIfInBounds, if_neg (by omega), Array.getElem?_setIfInBounds, if_neg (by omega), Array.getElem?_setIfInBounds, if_neg (by omega), Array.getElem?_setIfInBounds, if_neg (by omega), Array.getElem?_setIfInBounds, if_neg (by omega)]; exact q5
    · rw [Array.getElem?_setIfInBounds, if_neg (by omega), Array.getElem?_setIfInBounds, if_neg (by omega), Array.getElem?_setIfInBounds, if_neg (by omega), Array.getElem?_setIfInBounds, if_neg (by omega), Array.getElem?_setIfInBounds, if_neg (by omega), Array.getElem?_setIfInBounds, if_neg (by omega)]; exact q6
theorem OwnT.piece (h : OwnT o lo hi n W E N) (hk : k < n) : ∃ xa xc B C, W.cell? ⟨o, k * 7 + 6, none⟩ = some (.slice xa (N k).length xc) ∧ (B = C ∨ (lo ≤ B ∧ C ≤ hi)) ∧ Piece B C W (.slice xa (N k).length xc) (N k) ∧
    ∀ (W' : World) (m : List Int), Piece B C W' (.slice xa (N k).length xc) m → m.length = (N k).length → Win B C W W' → OwnT o lo hi n W' E (fun i => if i = k then m else N i) := by
  have hh := h
  obtain ⟨A, x, b, h1, h2, h3, h4, h5, h6, h7⟩ := h
  obtain ⟨⟨q0, q1, q2, q3, q4, q5, q6⟩, qz, qb⟩ := h7 k hk
  obtain ⟨xa, xc, ex, hle, _⟩ := id qz
  by_cases hl : N k = []
  · refine ⟨xa, xc, 0, 0, by rw [← ex]; exact cell_at h1 q6, .inl rfl, ⟨xa, xc, rfl, hle, .inl hl⟩, fun W' m hm hml hw => ?_⟩
    have em : m = N k := by rw [hl] at hml ⊢; exact List.eq_nil_of_length_eq_zero hml
    have e2 : (fun i => if i = k then m else N i) = N := by
      funext i
      by_cases e : i = k
      · rw [if_pos e, em, e]
      · rw [if_neg e]
    rw [e2]
    exact hh.same hw.size fun j h1 h2 => hw.block j (by omega) (by omega)
  · have hq := qb hl
    refine ⟨xa, xc, b k, b k + 1, by rw [← ex]; exact cell_at h1 q6, .inr ⟨hq.1, by omega⟩, by rw [← ex]; exact qz, fun W' m hm hml hw => ?_⟩
    have nm : m ≠ [] := fun e => hl (by rw [e] at hml; exact List.eq_nil_of_length_eq_zero hml.symm)
    refine ⟨A, x, b, by rw [hw.block o (lt_of_heapA h1) (by omega)]; exact h1, h2, h3, Nat.le_trans h4 hw.size, Nat.le_trans h4 hw.size, fun i j hi hj hij ni nj => ?_, fun i hi => ?_⟩
    · have ni' : N i ≠ [] := by
        by_cases e : i = k
        · rw [e]; exact hl
        · simpa only [if_neg e] using ni
      have nj' : N j ≠ [] := by
        by_cases e : j = k
        · rw [e]; exact hl
        · simpa only [if_neg e] using nj
      exact h6 i j hi hj hij ni' nj'
    · obtain ⟨r1, r2, r3⟩ := h7 i hi
      by_cases e : i = k
      · subst e
        simp only [if_true]
        rw [← ex] at hm
        exact ⟨r1, hm, fun _ => hq⟩
      · simp only [if_neg e]
        exact ⟨r1, piece_same r2 fun hn => hw.block _ (piece_lt r2 hn) (by have := h6 i k hi hk e hn hl; omega), r3⟩
end
/-- One of them is marked. -/
theorem OwnT.mark1 {W : World} {o lo hi n k : Nat} {E : Nat → Nat → Int} {N : Nat → List Int} (h : OwnT o lo hi n W E N) (hk : k < n) (e : Nat → Int) : ∃ xa xc, W.cell? ⟨o, k * 7 + 6, none⟩ = some (.slice xa (N k).length xc) ∧
    ∀ k1 : Int, (N k).length ≤ 1048576 → 0 ≤ k1 → k1 ≤ 4611686018427387904 → Calls Tryd.prog 44 #[.slice xa (N k).length xc, .int .i64 k1] ((((((W.setCell ⟨o, k * 7, none⟩ (.int .i64 (e 0))).setCell ⟨o, k * 7 + 1, none⟩ (.int .i64 (e 1))).setCell ⟨o, k * 7 + 2, none⟩ (.int .i64 (e 2))).setCell ⟨o, k * 7 + 3, none⟩ (.int .i64 (e 3))).setCell ⟨o, k * 7 + 4, none⟩ (.int .i64 (e 4))).setCell ⟨o, k * 7 + 5, none⟩ (.int .i64 (e 5))) fun r w' => r = .returned (.int .i64 (k1 + (N k).length)) ∧ OwnT o lo hi n w' (fun i => if i = k then e else E i) (fun i => if i = k then upFrom k1 (N k).length else N i) ∧ Win lo hi W w' := by
  have hlt := h.los
  have ht := h.turn hk e
  obtain ⟨xa, xc, B, C, cx, hBC, hp, hall⟩ := ht.piece hk
  have cw : W.cell? ⟨o, k * 7 + 6, none⟩ = some (.slice xa (N k).length xc) := by
    obtain ⟨A, x, b, h1, h2, h3, h4, h5, h6, h7⟩ := h
    have e0 := heap_setCell_same W o (k * 7) _ _ (.int .i64 (e 0)) h1
    have e1 := heap_setCell_same _ o (k * 7 + 1) _ _ (.int .i64 (e 1)) e0
    have e2 := heap_setCell_same _ o (k * 7 + 2) _ _ (.int .i64 (e 2)) e1
    have e3 := heap_setCell_same _ o (k * 7 + 3) _ _ (.int .i64 (e 3)) e2
    have e4 := heap_setCell_same _ o (k * 7 + 4) _ _ (.int .i64 (e 4)) e3
    have e5 := heap_setCell_same _ o (k * 7 + 5) _ _ (.int .i64 (e 5)) e4
    obtain ⟨⟨q0, q1, q2, q3, q4, q5, q6⟩, qz, _⟩ := h7 k hk
    have c1 : ((((((W.setCell ⟨o, k * 7, none⟩ (.int .i64 (e 0))).setCell ⟨o, k * 7 + 1, none⟩ (.int .i64 (e 1))).setCell ⟨o, k * 7 + 2, none⟩ (.int .i64 (e 2))).setCell ⟨o, k * 7 + 3, none⟩ (.int .i64 (e 3))).setCell ⟨o, k * 7 + 4, none⟩ (.int .i64 (e 4))).setCell ⟨o, k * 7 + 5, none⟩ (.int .i64 (e 5))).cell? ⟨o, k * 7 + 6, none⟩ = some (x k) := cell_at e5 (by rw [Array.getElem?_setIfInBounds, if_neg (by omega), Array.getElem?_setIfInBounds, if_neg (by omega), Array.getElem?_setIfInBounds, if_neg (by omega), Array.getElem?_setIfInBounds, if_neg (by omega), Array.getElem?_setIfInBounds, if_neg (by omega), Array.getElem?_setIfInBounds, if_neg (by omega)]; exact q6)
    rw [← cx, c1]
    exact cell_at h1 q6
  refine ⟨xa, xc, cw, fun k1 hl p1 p2 => (mark_pieceW hp hl k1 p1 p2).mono ?_⟩
  rintro r w' ⟨rfl, hq, ho⟩
  have hw := ho.win hp
  refine ⟨rfl, hall w' _ hq (by rw [upFrom_length]) hw, Win.trans ?_ ⟨hw.os, hw.tape, hw.output, hw.size, fun j hj hd => hw.block j hj (by omega)⟩⟩
  exact ((((((Win.refl _ _ _).setCell hlt.1 hlt.2 _ _).setCell hlt.1 hlt.2 _ _).setCell hlt.1 hlt.2 _ _).setCell hlt.1 hlt.2 _ _).setCell hlt.1 hlt.2 _ _).setCell hlt.1 hlt.2 _ _
set_option maxRecDepth 20000 in
set_option maxHeartbeats 8000000 in
theorem markT_at {o lo hi n c : Nat} {w : World} {E : Nat → Nat → Int} {N : Nat → List Int} (h : OwnT o lo hi n w E N) (hl : ∀ i, (N i).length ≤ 1048576) (hn : n ≤ 1048576) (k0 : Int) (p1 : 0 ≤ k0) (p2 : k0 ≤ 1099511627776) :
    Calls Tryd.prog 26 #[.slice (some ⟨o, 0, none⟩) n c, .int .i64 k0] w fun e w' => e = .returned (.int .i64 (k0 + (totN 6 N n : Int))) ∧ (∃ E' N', OwnT o lo hi n w' E' N' ∧ MkdExprsI k0 N n E' N') ∧ Win lo hi w w' := by
  have H : Hid (OwnT o lo hi n w E N) := h
  have HL : Hid (∀ i, (N i).length ≤ 1048576) := hl
  have HT : Hid (∀ i, i ≤ n → totN 6 N i ≤ 1099518000000) := fun i hi => totN_le hl (by omega) (by omega)
  have T0 : Hid (totN 6 N 0 = 0) := rfl
  clear h hl
  go_enter Tryd.func26, Tryd.ntmps26
  go_wp2
  go_loopw [1, 5] (fun q i w' => ∃ (k : Nat) (E' : Nat → Nat → Int) (N' : Nat → List Int), k ≤ n ∧ i = .int .i64 k ∧ q = .int .i64 (k0 + (totN 6 N k : Int)) ∧ OwnT o lo hi n w' E' N' ∧ MkdExprsI k0 N k E' N' ∧ (∀ i, k ≤ i → N' i = N i) ∧ Win lo hi w w') (fun _ i _ => n - (intOf i).toNat)
  case atStart => exact ⟨0, E, N, by omega, rfl, by rw [T0.out]; simp, H.out, fun i hi => absurd hi (by omega), fun _ _ => rfl, Win.refl _ _ _⟩
  case round =>
    obtain ⟨k, E', N', hk, rfl, rfl, hO, hM, hN, hW⟩ := hrel
    have HO : Hid (OwnT o lo hi n wr E' N') := hO
    have HM : Hid (MkdExprsI k0 N k E' N') := hM
    have HN : Hid (∀ i, k ≤ i → N' i = N i) := hN
    have HW : Hid (Win lo hi w wr) := hW
    clear hO hM hN hW
    by_cases hlt : (k : Int) < (n : Int)
    · have L : k < n := by omega
      have ht := HT.out k hk
      have TS : Hid (totN 6 N (k + 1) = totN 6 N k + (6 + (N k).length)) := rfl
      obtain ⟨⟨⟨u0, c0⟩, ⟨u1, c1⟩, ⟨u2, c2⟩, ⟨u3, c3⟩, ⟨u4, c4⟩, ⟨u5, c5⟩, ⟨u6, c6⟩⟩, f0, f1, f2, f3, f4, f5, f6⟩ := HO.out.cells L
      obtain ⟨xa, xc, cx, hall⟩ := HO.out.mark1 L (fun j => k0 + (totN 6 N k : Int) + (j : Int))
      rw [HN.out k (Nat.le_refl _)] at cx hall
      clear c6 u6 f6
      have NXT : Hid (∀ (E'' : Nat → Nat → Int) (N'' : Nat → List Int), E'' = (fun i => if i = k then (fun (j : Nat) => k0 + (totN 6 N k : Int) + (j : Int)) else E' i) → N'' = (fun i => if i = k then upFrom (k0 + (totN 6 N k : Int) + 6) (N k).length else N' i) → MkdExprsI k0 N (k + 1) E'' N'' ∧ ∀ i, k + 1 ≤ i → N'' i = N i) := by
        intro E'' N'' he hn
        subst he hn
        refine ⟨fun i hi => ?_, fun i hi => by simp only [if_neg (show ¬ i = k by omega)]; exact HN.out i (by omega)⟩
        by_cases e : i = k
        · subst e; simp
        · simp only [if_neg e]; exact HM.out i (by omega)
      have CM : Hid (Calls Tryd.prog 44 #[.slice xa (N k).length xc, .int .i64 (k0 + (totN 6 N k : Int) + 1 + 1 + 1 + 1 + 1 + 1)] ((((((wr.setCell ⟨o, k * 7, none⟩ (.int .i64 (k0 + (totN 6 N k : Int)))).setCell ⟨o, k * 7 + 1, none⟩ (.int .i64 (k0 + (totN 6 N k : Int) + 1))).setCell ⟨o, k * 7 + 2, none⟩ (.int .i64 (k0 + (totN 6 N k : Int) + 1 + 1))).setCell ⟨o, k * 7 + 3, none⟩ (.int .i64 (k0 + (totN 6 N k : Int) + 1 + 1 + 1))).setCell ⟨o, k * 7 + 4, none⟩ (.int .i64 (k0 + (totN 6 N k : Int) + 1 + 1 + 1 + 1))).setCell ⟨o, k * 7 + 5, none⟩ (.int .i64 (k0 + (totN 6 N k : Int) + 1 + 1 + 1 + 1 + 1))) fun r w' => r = .returned (.int .i64 (k0 + (totN 6 N (k + 1) : Int))) ∧ (∃ E'' N'', OwnT o lo hi n w' E'' N'' ∧ MkdExprsI k0 N (k + 1) E'' N'' ∧ ∀ i, k + 1 ≤ i → N'' i = N i) ∧ Win lo hi w w') := by
        have := hall (k0 + (totN 6 N k : Int) + 6) (HL.out k) (by omega) (by omega)
        rw [show k0 + (totN 6 N k : Int) + 1 + 1 = k0 + (totN 6 N k : Int) + 2 by omega, show k0 + (totN 6 N k : Int) + 2 + 1 = k0 + (totN 6 N k : Int) + 3 by omega, show k0 + (totN 6 N k : Int) + 3 + 1 = k0 + (totN 6 N k : Int) + 4 by omega, show k0 + (totN 6 N k : Int) + 4 + 1 = k0 + (totN 6 N k : Int) + 5 by omega, show k0 + (totN 6 N k : Int) + 5 + 1 = k0 + (totN 6 N k : Int) + 6 by omega]
        simp only [Int.natCast_zero, Int.add_zero, Int.ofNat_zero] at this
        refine this.mono ?_
        rintro r w' ⟨rfl, h1, h2⟩
        refine ⟨by rw [TS.out]; congr 2; omega, ⟨_, _, h1, NXT.out _ _ rfl rfl⟩, HW.out.trans h2⟩
      clear hall TS NXT
      generalize (N k).length = nl at *
      generalize totN 6 N k = z at *
      have HZ : Hid (totN 6 N (k + 1) = totN 6 N (k + 1)) := rfl
      generalize hz' : totN 6 N (k + 1) = z' at CM
      have HZ' : Hid (totN 6 N (k + 1) = z') := hz'
      clear HZ hz'
      go_wp2_with fail
      refine CM.out.mono ?_
      rintro r w2 ⟨rfl, ⟨E2, N2, hO, hM, hN⟩, hW⟩
      have O2 : Hid (OwnT o lo hi n w2 E2 N2) := hO
      have X2 : Hid (MkdExprsI k0 N (k + 1) E2 N2 ∧ (∀ i, k + 1 ≤ i → N2 i = N i) ∧ Win lo hi w w2) := ⟨hM, hN, hW⟩
      clear hO hM hN hW CM
      go_wp2
      go_roundw
      case rel => exact ⟨k + 1, E2, N2, by omega, by go_num, by rw [HZ'.out], O2.out, X2.out⟩
      case measure => simp [intOf]; omega
    · have e : k = n := by omega
      subst e
      go_wp2
      go_ret
      exact ⟨rfl, ⟨E', N', HO.out, HM.out⟩, HW.out⟩
set_option maxRecDepth 20000 in
set_option maxHeartbeats 8000000 in
theorem heldT_at {o lo hi n c : Nat} {w : World} {E : Nat → Nat → Int} {N N0 : Nat → List Int} (k0 : Int) (h : OwnT o lo hi n w E N) (hm : MkdExprsI k0 N0 n E N) (hl : ∀ i, (N0 i).length ≤ 1048576) (hn : n ≤ 1048576) (hT : totN 6 N0 n ≤ 1073741824) (p1 : 0 ≤ k0) (p2 : k0 ≤ 1073741824) :
    Calls Tryd.prog 27 #[.slice (some ⟨o, 0, none⟩) n c, .int .i64 k0] w fun e w' => e = .returned (.int .i64 (k0 + (totN 6 N0 n : Int))) ∧ w' = w := by
  have H : Hid (OwnT o lo hi n w E N) := h
  have HM : Hid (MkdExprsI k0 N0 n E N) := hm
  have HL : Hid (∀ i, (N0 i).length ≤ 1048576) := hl
  have HT : Hid (∀ i, i ≤ n → totN 6 N0 i ≤ 1073741824) := fun i hi => Nat.le_trans (totN_mono 6 N0 hi) hT
  have T0 : Hid (totN 6 N0 0 = 0) := rfl
  clear h hl hm hT
  go_enter Tryd.func27, Tryd.ntmps27
  go_wp2
  go_loop [1, 5] (fun q i => ∃ (k : Nat), k ≤ n ∧ i = .int .i64 k ∧ q = .int .i64 (k0 + (totN 6 N0 k : Int))) (fun _ i => n - (intOf i).toNat)
  case atStart => exact ⟨0, by omega, rfl, by rw [T0.out]; simp⟩
  case round =>
    obtain ⟨k, hk, rfl, rfl⟩ := hrel
    by_cases hlt : (k : Int) < (n : Int)
    · have L : k < n := by omega
      have ht := HT.out k hk
      have ht2 := HT.out (k + 1) (by omega)
      have TS : totN 6 N0 (k + 1) = totN 6 N0 k + (6 + (N0 k).length) := rfl
      obtain ⟨⟨m0, m1, m2, m3, m4, m5⟩, mn⟩ := HM.out k L
      obtain ⟨A, x, bb, h1, h2, h3, h4, h5, h6, h7⟩ := H.out
      obtain ⟨⟨q0, q1, q2, q3, q4, q5, q6⟩, qz, _⟩ := h7 k L
      rw [mn] at qz
      obtain ⟨xa, xc, ex, _⟩ := qz.ints
      rw [upFrom_length] at ex
      rw [ex] at qz q6
      have c0 : w.cell? ⟨o, k * 7, none⟩ = some (.int .i64 (k0 + (totN 6 N0 k : Int))) := by rw [cell_at h1 q0, m0, Int.add_zero]
      have c1 : w.cell? ⟨o, k * 7 + 1, none⟩ = some (.int .i64 (k0 + (totN 6 N0 k : Int) + 1)) := by rw [cell_at h1 q1, m1]
      have c2 : w.cell? ⟨o, k * 7 + 2, none⟩ = some (.int .i64 (k0 + (totN 6 N0 k : Int) + 1 + 1)) := by rw [cell_at h1 q2, m2]; congr 2; omega
      have c3 : w.cell? ⟨o, k * 7 + 3, none⟩ = some (.int .i64 (k0 + (totN 6 N0 k : Int) + 1 + 1 + 1)) := by rw [cell_at h1 q3, m3]; congr 2; omega
      have c4 : w.cell? ⟨o, k * 7 + 4, none⟩ = some (.int .i64 (k0 + (totN 6 N0 k : Int) + 1 + 1 + 1 + 1)) := by rw [cell_at h1 q4, m4]; congr 2; omega
      have c5 : w.cell? ⟨o, k * 7 + 5, none⟩ = some (.int .i64 (k0 + (totN 6 N0 k : Int) + 1 + 1 + 1 + 1 + 1)) := by rw [cell_at h1 q5, m5]; congr 2; omega
      have c6 : w.cell? ⟨o, k * 7 + 6, none⟩ = some (.slice xa (N0 k).length xc) := cell_at h1 q6
      have CH : Hid (Calls Tryd.prog 45 #[.slice xa (N0 k).length xc, .int .i64 (k0 + (totN 6 N0 k : Int) + 1 + 1 + 1 + 1 + 1 + 1)] w fun e w' => e = .returned (.int .i64 (k0 + (totN 6 N0 (k + 1) : Int))) ∧ w' = w) := by
        have := held_piece (k0 + (totN 6 N0 k : Int) + 6) qz (HL.out k) (by omega) (by omega)
        rw [show k0 + (totN 6 N0 k : Int) + 1 + 1 = k0 + (totN 6 N0 k : Int) + 2 by omega, show k0 + (totN 6 N0 k : Int) + 2 + 1 = k0 + (totN 6 N0 k : Int) + 3 by omega, show k0 + (totN 6 N0 k : Int) + 3 + 1 = k0 + (totN 6 N0 k : Int) + 4 by omega, show k0 + (totN 6 N0 k : Int) + 4 + 1 = k0 + (totN 6 N0 k : Int) + 5 by omega, show k0 + (totN 6 N0 k : Int) + 5 + 1 = k0 + (totN 6 N0 k : Int) + 6 by omega]
        refine this.mono ?_
        rintro e w' ⟨rfl, h⟩
        exact ⟨by rw [TS]; congr 2; omega, h⟩
      have PZ : 0 ≤ k0 + (totN 6 N0 (k + 1) : Int) := by omega
      clear q0 q1 q2 q3 q4 q5 q6 h1 h2 h3 h4 h5 h6 h7 qz ex mn m0 m1 m2 m3 m4 m5 TS
      generalize (N0 k).length = nl at *
      generalize totN 6 N0 k = z at *
      generalize hz' : totN 6 N0 (k + 1) = z' at CH PZ ht2
      have HZ' : Hid (totN 6 N0 (k + 1) = z') := hz'
      clear hz'
      go_wp2_with fail
      refine CH.out.mono ?_
      rintro r w' ⟨rfl, hw⟩
      subst w'
      clear CH
      go_wp2
      go_round
      case rel => exact ⟨k + 1, by omega, by go_num, by rw [HZ'.out]⟩
      case measure => simp [intOf]; omega
    · have e : k = n := by omega
      subst e
      go_wp2
      go_ret
      exact ⟨rfl, rfl⟩

theorem markExprS_nil (a : Option Addr) (c : Nat) (k0 : Int) (w : World) :
    Calls Tryd.prog 26 #[.slice a 0 c, .int .i64 k0] w fun e w' => e = .returned (.int .i64 k0) ∧ w' = w := by
  go_enter Tryd.func26, Tryd.ntmps26
  go_wp2
  refine wp_loop_rounds 1 ?_
  rw [rounds_succ]
  go_wp2
  go_ret
  exact ⟨rfl, rfl⟩
theorem heldExprS_nil (a : Option Addr) (c : Nat) (k0 : Int) (w : World) :
    Calls Tryd.prog 27 #[.slice a 0 c, .int .i64 k0] w fun e w' => e = .returned (.int .i64 k0) ∧ w' = w := by
  go_enter Tryd.func27, Tryd.ntmps27
  go_wp2
  refine wp_loop_rounds 1 ?_
  rw [rounds_succ]
  go_wp2
  go_ret
  exact ⟨rfl, rfl⟩
/-- A tree's list of one's own, or none. -/
def OwnVT (lo hi : Nat) (w : World) (v : Value) (n : Nat) (E : Nat → Nat → Int) (N : Nat → List Int) : Prop := (n = 0 ∧ ∃ a c, v = .slice a 0 c) ∨ ∃ o c, v = .slice (some ⟨o, 0, none⟩) n c ∧ OwnT o lo hi n w E N
section
variable {lo hi n : Nat} {w w' : World} {v : Value} {E : Nat → Nat → Int} {N : Nat → List Int}
theorem OwnVT.slice (h : OwnVT lo hi w v n E N) : ∃ a c, v = .slice a n c := by
  rcases h with ⟨rfl, a, c, e⟩ | ⟨o, c, e, _⟩
  · exact ⟨a, c, e⟩
  · exact ⟨_, c, e⟩
theorem OwnVT.list (h : OwnVT lo hi w v n E N) : ExprsI w v n E N := by
  rcases h with ⟨rfl, a, c, e⟩ | ⟨o, c, e, h⟩
  · exact ⟨a, c, e, .inl rfl⟩
  · rw [e]; exact h.list c
theorem OwnVT.keep (h : OwnVT lo hi w v n E N) (hb : Below w.heap.size w w') : OwnVT lo hi w' v n E N := by
  rcases h with h | ⟨o, c, e, h⟩
  · exact .inl h
  · exact .inr ⟨o, c, e, h.keep hb⟩
theorem OwnVT.win {B C : Nat} (h : OwnVT lo hi w v n E N) (hw : Win B C w w') (hd : hi ≤ B ∨ C ≤ lo) : OwnVT lo hi w' v n E N := by
  rcases h with h | ⟨o, c, e, h⟩
  · exact .inl h
  · exact .inr ⟨o, c, e, h.win hw hd⟩
theorem OwnVT.mark (h : OwnVT lo hi w v n E N) (hl : ∀ i, (N i).length ≤ 1048576) (hn : n ≤ 1048576) (k0 : Int) (p1 : 0 ≤ k0) (p2 : k0 ≤ 1099511627776) :
    Calls Tryd.prog 26 #[v, .int .i64 k0] w fun e w' => e = .returned (.int .i64 (k0 + (totN 6 N n : Int))) ∧ (∃ E' N', OwnVT lo hi w' v n E' N' ∧ MkdExprsI k0 N n E' N') ∧ Win lo hi w w' := by
  rcases h with ⟨rfl, a, c, rfl⟩ | ⟨o, c, rfl, h⟩
  · refine (markExprS_nil a c k0 w).mono ?_
    rintro e w' ⟨rfl, rfl⟩
    exact ⟨by simp [totN], ⟨E, N, .inl ⟨rfl, a, c, rfl⟩, fun i hi => absurd hi (by omega)⟩, Win.refl _ _ _⟩
  · refine (markT_at h hl hn k0 p1 p2).mono ?_
    rintro e w' ⟨rfl, ⟨E', N', h1, h2⟩, hw⟩
    exact ⟨rfl, ⟨E', N', .inr ⟨o, c, rfl, h1⟩, h2⟩, hw⟩
theorem OwnVT.held {N0 : Nat → List Int} (h : OwnVT lo hi w v n E N) (k0 : Int) (hm : MkdExprsI k0 N0 n E N) (hl : ∀ i, (N0 i).length ≤ 1048576) (hn : n ≤ 1048576) (hT : totN 6 N0 n ≤ 1073741824) (p1 : 0 ≤ k0) (p2 : k0 ≤ 1073741824) :
    Calls Tryd.prog 27 #[v, .int .i64 k0] w fun e w' => e = .returned (.int .i64 (k0 + (totN 6 N0 n : Int))) ∧ w' = w := by
  rcases h with ⟨rfl, a, c, rfl⟩ | ⟨o, c, rfl, h⟩
  · refine (heldExprS_nil a c k0 w).mono ?_
    rintro e w' ⟨rfl, rfl⟩
    exact ⟨by simp [totN], rfl⟩
  · exact heldT_at k0 h hm hl hn hT p1 p2
end
set_option maxRecDepth 20000 in
set_option maxHeartbeats 4000000 in
/-- A tree is marked. -/
theorem markTreeV {lo hi n : Nat} {w : World} {v : Value} {E : Nat → Nat → Int} {N : Nat → List Int} (h : OwnVT lo hi w v n E N) (hl : ∀ i, (N i).length ≤ 1048576) (hn : n ≤ 1048576) (k0 : Int) (p1 : 0 ≤ k0) (p2 : k0 ≤ 1099511627776) (hh : hi ≤ w.heap.size) :
    Calls Tryd.prog 12 #[.agg #[v], .int .i64 k0] w fun e w' => e = .returned (.int .i64 (k0 + (totN 6 N n : Int))) ∧ (∃ E' N', OwnVT lo hi w' v n E' N' ∧ MkdExprsI k0 N n E' N') ∧ Win lo hi w w' := by
  have CM : Hid (Calls Tryd.prog 26 #[v, .int .i64 k0] (w.alloc (.cells #[v] 26)) fun e w' => e = .returned (.int .i64 (k0 + (totN 6 N n : Int))) ∧ (∃ E' N', OwnVT lo hi w' v n E' N' ∧ MkdExprsI k0 N n E' N') ∧ Win lo hi w w') := by
    refine ((h.keep one_below).mark hl hn k0 p1 p2).mono ?_
    rintro e w' ⟨rfl, hE, hw⟩
    exact ⟨rfl, hE, Win.trans (Below.win one_below) hw⟩
  obtain ⟨a, c, rfl⟩ := h.slice
  clear h hl
  generalize totN 6 N n = z at *
  go_enter Tryd.func12, Tryd.ntmps12
  go_wp2_with fail
  refine CM.out.mono ?_
  rintro r w2 ⟨rfl, hE, hw⟩
  have HW : Hid ((∃ E' N', OwnVT lo hi w2 (.slice a n c) n E' N' ∧ MkdExprsI k0 N n E' N') ∧ Win lo hi w w2) := ⟨hE, hw⟩
  clear hw CM hE
  go_wp2
  go_ret
  exact ⟨rfl, HW.out⟩
set_option maxRecDepth 20000 in
set_option maxHeartbeats 4000000 in
/-- What is marked is held. -/
theorem heldTreeV {lo hi n : Nat} {w : World} {v : Value} {E : Nat → Nat → Int} {N N0 : Nat → List Int} (h : OwnVT lo hi w v n E N) (k0 : Int) (hm : MkdExprsI k0 N0 n E N) (hl : ∀ i, (N0 i).length ≤ 1048576) (hn : n ≤ 1048576) (hT : totN 6 N0 n ≤ 1073741824) (p1 : 0 ≤ k0) (p2 : k0 ≤ 1073741824) :
    Calls Tryd.prog 13 #[.agg #[v], .int .i64 k0] w fun e w' => e = .returned (.int .i64 (k0 + (totN 6 N0 n : Int))) ∧ Below w.heap.size w w' := by
  have CM : Hid (Calls Tryd.prog 27 #[v, .int .i64 k0] (w.alloc (.cells #[v] 26)) fun e w' => e = .returned (.int .i64 (k0 + (totN 6 N0 n : Int))) ∧ w' = w.alloc (.cells #[v] 26)) := (h.keep one_below).held k0 hm hl hn hT p1 p2
  obtain ⟨a, c, rfl⟩ := h.slice
  have HZ : 0 ≤ k0 + (totN 6 N0 n : Int) := by omega
  clear h hl hT hm
  generalize totN 6 N0 n = z at *
  go_enter Tryd.func13, Tryd.ntmps13
  go_wp2_with fail
  refine CM.out.mono ?_
  rintro r w2 ⟨rfl, hw⟩
  subst w2
  clear CM
  go_wp2
  go_ret
  exact ⟨rfl, one_below⟩
/-- What Parse answers is its own. -/
theorem NxB.ownVT {lo0 lo : Nat} {w : World} {v : Value} {L : List Nb} (h : NxB lo w v L) (hL : LbOk w lo0 lo L) (h0 : lo0 ≤ lo) (h1 : lo ≤ w.heap.size) : OwnVT lo0 w.heap.size w v L.length (ndE (L.map (fun z => z.1))) (ndN (L.map (fun z => z.1))) := by
  obtain ⟨q0, q⟩ := id h
  rcases q with ⟨e, hz⟩ | ⟨g, cap, cur, e, hB, hg, hc, hm, hs, ht⟩
  · exact .inl ⟨hz, none, 0, e⟩
  · refine .inr ⟨g, cap, e, cur, fun i => (L.getD i nb0).2.1, fun i => (L.getD i nb0).2.2, hg, by omega, ⟨by omega, lt_of_heapA hg⟩, Nat.le_refl _, Nat.le_refl _, fun i j hi hj hij ni nj => ?_, fun i hi => ?_⟩
    · simp only [ndN, map_getD] at ni nj
      have gi : L.getD i nb0 = L[i] := by rw [List.getD_eq_getElem?_getD, List.getElem?_eq_getElem hi]; rfl
      have gj : L.getD j nb0 = L[j] := by rw [List.getD_eq_getElem?_getD, List.getElem?_eq_getElem hj]; rfl
      have pw := List.pairwise_iff_getElem.1 hL.2
      rw [gi] at ni
      rw [gj] at nj
      show (L.getD i nb0).2.2 ≠ (L.getD j nb0).2.2
      rw [gi, gj]
      rcases Nat.lt_or_gt_of_ne hij with l | l
      · exact pw i j hi hj l ni nj
      · exact fun e => pw j i hj hi l nj ni e.symm
    · have hmem : L.getD i nb0 ∈ L := by rw [List.getD_eq_getElem?_getD, List.getElem?_eq_getElem hi]; exact List.getElem_mem hi
      have hp := hL.1 _ hmem
      have at7 : ∀ j x, j < 7 → (nd1 (L.getD i nb0))[j]? = some x → cur[i * 7 + j]? = some x := fun j x hj hx => by
        have h6 : (cur.toList.take (L.length * 7))[i * 7 + j]? = (ndv L)[i * 7 + j]? := by rw [ht]
        rw [List.getElem?_take_of_lt (by omega), ndv_at L i j hi hj, hx] at h6
        simpa using h6
      simp only [ndE, ndN, map_getD]
      exact ⟨⟨at7 0 _ (by omega) rfl, at7 1 _ (by omega) rfl, at7 2 _ (by omega) rfl, at7 3 _ (by omega) rfl, at7 4 _ (by omega) rfl, at7 5 _ (by omega) rfl, at7 6 _ (by omega) rfl⟩, hp.1, fun hl => ⟨(hp.2 hl).1, by have := (hp.2 hl).2; omega, by have := (hp.2 hl).2; omega⟩⟩
end Go.Proofs.YtnebjnglcfebeaaDoor
namespace Go.Proofs.YtnebjnglcfebeaaDoor
open Go.RowKit
set_option linter.unusedVariables false
set_option linter.unusedSimpArgs false
set_option maxRecDepth 20000 in
set_option maxHeartbeats 4000000 in
theorem tokensK_impl {w : World} {a : Option Addr} {n c : Nat} {E : Nat → Spn} (h : SsA w a n E) (hn : n ≤ 1048576) :
    Calls Tryd.prog 20 #[.slice a n c] w fun e w' => e = .returned (.bool (tokR n E)) ∧ Below w.heap.size w w' := by
  have H : Hid (SsA w a n E) := h
  clear h
  by_cases hbig : (n : Int) > 300
  · have ER : Hid (tokR n E = false) := by
      show _ = _
      unfold tokR
      rw [decide_eq_false (by omega), Bool.and_false]
    go_enter Tryd.func20, Tryd.ntmps20
    go_wp2
    go_ret
    exact ⟨by rw [ER.out]; rfl, Below.refl _ _⟩
  have ER : Hid (tokAll E n = true → tokR n E = true) := fun h => by
    unfold tokR
    rw [h, decide_eq_true (by omega)]; rfl
  have EF : Hid (tokAll E n = false → tokR n E = false) := fun h => by unfold tokR; rw [h]; rfl
  go_enter Tryd.func20, Tryd.ntmps20
  go_wp2
  go_loopw [10] (fun i w' => ∃ k : Nat, k ≤ n ∧ i = .int .i64 (k : Int) ∧ tokAll E k = true ∧ Below w.heap.size w w') (fun i _ => n - (intOf i).toNat)
  case atStart => exact ⟨0, by omega, rfl, rfl, Below.refl _ _⟩
  case round =>
    obtain ⟨k, hk, rfl, ha, hb⟩ := hrel
    have HA : Hid (tokAll E k = true) := ha
    have HB : Hid (Below w.heap.size w wr) := hb
    clear ha hb
    by_cases hlt : (k : Int) < (n : Int)
    · have L : k < n := by omega
      obtain ⟨o, off, rfl, ho, p0, p1⟩ := (H.out.keep HB.out).at L
      have NO : Hid (tokB (E k).f (E k).t = false → tokR n E = false) := fun h => EF.out (tokAll_no L h)
      have YES : Hid (tokB (E k).f (E k).t = true → tokAll E (k + 1) = true) := fun h => tokAll_next HA.out h
      have CT : Hid (∀ W, Calls Tryd.prog 40 #[.agg #[.int .i64 (E k).f, .int .i64 (E k).t]] W fun e w' => e = .returned (.bool (tokB (E k).f (E k).t)) ∧ Below W.heap.size W w') := fun W => tokOk_impl _ _ W
      clear ho
      generalize (E k).f = e0 at *
      generalize (E k).t = e1 at *
      generalize tokB e0 e1 = q at *
      go_wp2_with fail
      refine (CT.out _).mono ?_
      rintro r w2 ⟨rfl, hb⟩
      have B2 : Hid (Below w.heap.size w w2) := bTrans (bAlloc HB.out _) hb
      clear hb CT p0 p1
      cases q
      · go_wp2
        go_ret
        exact ⟨by rw [NO.out (by trivial)]; rfl, B2.out⟩
      · go_wp2
        go_roundw
        case rel => exact ⟨k + 1, by omega, by go_num, YES.out (by trivial), B2.out⟩
        case measure => simp [intOf]; omega
    · obtain rfl : k = n := by omega
      go_wp2
      go_ret
      exact ⟨by rw [ER.out HA.out]; rfl, HB.out⟩
end Go.Proofs.YtnebjnglcfebeaaDoor
namespace Go.Proofs.YtnebjnglcfebeaaDoor
open Go.RowKit
set_option linter.unusedVariables false
set_option linter.unusedSimpArgs false
/-- What whole comes to. -/
def wholeP (n : Nat) (T : Nat → Spn) : Option Br := match lineP n T (n + 1) 0 with
  | none => none
  | some x => if x.2 = n then some x.1 else none
def WhoP (te : TypeId) (pe : Value) (w : World) (ga : Nat) (x : Option Br) (e : Ending) (w' : World) : Prop :=
  match x with
  | none => e = Pan te pe ∧ Below ga w w'
  | some b => ∃ g, e = .returned (.pointer (some ⟨g, 0, none⟩)) ∧ BrAt w' b w.heap.size w'.heap.size g ∧ Chg ga (.slice none 0 0) w w'
set_option maxRecDepth 20000 in
set_option maxHeartbeats 8000000 in
/-- whole. -/
theorem whole_impl {a : Option Addr} {n c : Nat} {T : Nat → Spn} {te : TypeId} {pe : Value} (hn : n ≤ 300) {w : World} {ga : Nat} (h : Rs a n T te pe w ga 0) :
    Calls Tryd.prog 22 #[.agg #[.slice a n c, .pointer (some ⟨ga, 0, none⟩)]] w fun e w' => WhoP te pe w ga (wholeP n T) e w' := by
  have LG : Hid (ga < w.heap.size) := h.lts
  have Q0 : Hid (QR a n c T te pe w ga 0 (w.alloc (.cells #[.slice a n c, .pointer (some ⟨ga, 0, none⟩)] 51))) := QR.start h
  have CL : Hid (∀ W, Rs a n T te pe W ga 0 → Calls Tryd.prog 41 #[.agg #[.slice a n c, .pointer (some ⟨ga, 0, none⟩)]] W fun e w' => OutP a n T te pe W ga (lineP n T (n + 1) 0) e w') := fun W hW => line_impl hn (n + 1) W ga 0 hW (by omega) (by omega)
  have EX : Hid (wholeP n T = match lineP n T (n + 1) 0 with
      | none => none
      | some x => if x.2 = n then some x.1 else none) := rfl
  clear h
  cases hx : lineP n T (n + 1) 0 with
  | none =>
    rw [hx] at EX CL
    rw [EX.out]
    clear EX hx
    go_enter Tryd.func22, Tryd.ntmps22
    have x0 := Q0.out.x0
    have x1 := Q0.out.x1
    go_wp2_with fail
    refine (CL.out _ Q0.out.rs).mono ?_
    rintro r w1 ⟨rfl, hb⟩
    have B1 : Hid (Below ga w w1) := (Q0.out.chg.lo LG.out).trans hb
    clear hb Q0 CL x0 x1
    unfold Pan
    go_wp2
    exact ⟨rfl, rfl, B1.out⟩
  | some y =>
    obtain ⟨b, q⟩ := y
    rw [hx] at EX CL
    simp only at EX
    clear hx
    by_cases hq : q = n
    · rw [EX.out, if_pos hq]
      subst hq
      clear EX
      go_enter Tryd.func22, Tryd.ntmps22
      have x0 := Q0.out.x0
      have x1 := Q0.out.x1
      go_wp2_with fail
      refine (CL.out _ Q0.out.rs).mono ?_
      rintro r w1 ⟨g, rfl, hB, hR, hC⟩
      have Q1 : Hid (QR a q c T te pe w ga q w1) := Q0.out.go LG.out hR hC
      have B1 : Hid (BrAt w1 b w.heap.size w1.heap.size g) := hB.mono (by simp) (Nat.le_refl _)
      clear hB hR hC Q0 CL x0 x1
      have x0 := Q1.out.x0
      have x1 := Q1.out.x1
      have d0 := Q1.out.rs.c0
      go_wp2_with fail
      go_region_law (go_simp; go_at_call 42; refine (must_true _).mono ?_; rintro r w2 ⟨rfl, hw2⟩; subst w2; go_simp)
      all_goals
        go_wp2
        go_ret
        exact ⟨g, rfl, by first | exact B1.out | exact B1.out.same fun _ _ _ => rfl, by first | exact Q1.out.chg | exact Q1.out.chg.on (Chg.of ((Below.refl _ _).drew))⟩
    · rw [EX.out, if_neg hq]
      clear EX
      have ne : ((q : Int) == (n : Int)) = false := by simp; omega
      go_enter Tryd.func22, Tryd.ntmps22
      have x0 := Q0.out.x0
      have x1 := Q0.out.x1
      go_wp2_with fail
      refine (CL.out _ Q0.out.rs).mono ?_
      rintro r w1 ⟨g, rfl, hB, hR, hC⟩
      have Q1 : Hid (QR a n c T te pe w ga q w1) := Q0.out.go LG.out hR hC
      clear hB hR hC Q0 CL x0 x1
      have x0 := Q1.out.x0
      have x1 := Q1.out.x1
      have d0 := Q1.out.rs.c0
      go_wp2_with fail
      go_region_dies
      all_goals
        refine (must_false (by first | exact Q1.out.rs.err | exact (Q1.out.rs.keep ((Below.refl _ _).drew)).err)).mono ?_
        rintro r w2 ⟨rfl, hw2⟩
        have B2 : Below ga w w2 := by rw [hw2]; first | exact Q1.out.chg.lo LG.out | exact (Q1.out.chg.lo LG.out).trans ((Below.refl _ _).drew)
        unfold Pan
        exact And.intro rfl (And.intro rfl B2)
set_option maxRecDepth 20000 in
set_option maxHeartbeats 8000000 in
/-- The deferred function, of a frame that panics. -/
theorem catch_pan (p q : Addr) (x y : Value) (u : TypeId) (pv : Value) (older : List PanicEntry) (w : World) (hc : w.cell? p = some x) (hz : w.frozen? p = false) (hd : ∀ v, (w.setCell p v).cell? q = some y) (hy : ∀ v, (w.setCell p v).frozen? q = false) :
    CallsD Tryd.prog 21 #[.pointer (some p), .pointer (some q)] (.panicking ({ v := .iface u pv, recovered := false } :: older)) w fun e u' w' =>
      e = .returned (.tuple #[]) ∧ u' = .panicking ({ v := .iface u pv, recovered := true } :: older) ∧ w' = (w.setCell p (.slice none 0 0)).setCell q (.int .i64 8) := by
  refine callsD_of_wpS Tryd.func21 rfl fun c₀ cs hu => ?_
  apply wpS_seq
  apply wpS_region
  simp [wpOpsS, go_sem, recoverD, hu, Tryd.ntmps21, Exit.thenS]
  refine wpS_cond (t := true) (by simp [Act.eval, Array.replicate]) ?_
  simp only [if_true]
  apply wpS_region
  simp [wpOpsS, go_sem, hc, hz, hd, hy, bodyPostS, results, Tryd.results21]
set_option maxRecDepth 20000 in
set_option maxHeartbeats 8000000 in
/-- The deferred function, of a frame that returns. -/
theorem catch_idle (p q : Addr) (w : World) :
    CallsD Tryd.prog 21 #[.pointer (some p), .pointer (some q)] .returning w fun e u' w' => e = .returned (.tuple #[]) ∧ u' = .returning ∧ w' = w := by
  refine callsD_of_wpS Tryd.func21 rfl fun c₀ cs hu => ?_
  apply wpS_seq
  apply wpS_region
  simp [wpOpsS, go_sem, recoverD, hu, Tryd.ntmps21, Exit.thenS]
  refine wpS_cond (t := false) (by simp [Act.eval, Array.replicate]) ?_
  simp only [Bool.false_eq_true, if_false]
  refine wpS_of_wp (wp_skip ?_)
  cases c₀
  simp_all [bodyPostS, results, Tryd.results21]
end Go.Proofs.YtnebjnglcfebeaaDoor
namespace Go.Proofs.YtnebjnglcfebeaaDoor
open Go.RowKit
set_option linter.unusedVariables false
set_option linter.unusedSimpArgs false
theorem one_set {w : World} {g : Nat} {x x' : Value} {t : TypeId} (h : w.heap[g]? = some (.cells #[x] t (0, 0))) : (w.setCell ⟨g, 0, none⟩ x').heap[g]? = some (.cells #[x'] t (0, 0)) := by
  have h1 := heap_setCell_same w g 0 _ _ x' h
  simpa using h1
/-- What the program's Parse answers. -/
def ParOut (n : Nat) (T : Nat → Spn) (w : World) (e : Ending) (w' : World) : Prop :=
  ∃ (v : Value) (L : List Nb) (lo : Nat), e = .returned (.tuple #[.agg #[v], .int .i64 (parC n T).1]) ∧ w.heap.size ≤ lo ∧ lo ≤ w'.heap.size ∧ NxB lo w' v L ∧ LbOk w' w.heap.size lo L ∧ L.map (fun z => z.1) = (parC n T).2 ∧ Below w.heap.size w w'
/-- The boxes of Parse's two results. -/
structure PR (w V : World) (x : Value) (y : Int) : Prop where
  t : V.heap[w.heap.size]? = some (.cells #[x] 26 (0, 0))
  c : V.heap[w.heap.size + 1]? = some (.cells #[.int .i64 y] 3 (0, 0))
  b : Below w.heap.size w V
section
variable {w V V' : World} {x : Value} {y : Int}
theorem PR.lt (h : PR w V x y) : w.heap.size + 1 < V.heap.size := lt_of_heapA h.c
theorem PR.keep (h : PR w V x y) (hb : Below V.heap.size V V') : PR w V' x y := ⟨by rw [hb.block _ (lt_of_heapA h.t)]; exact h.t, by rw [hb.block _ h.lt]; exact h.c, bTrans h.b hb⟩
theorem PR.below (h : PR w V x y) {g : Nat} (hg : w.heap.size + 1 < g) (hb : Below g V V') : PR w V' x y :=
  ⟨by rw [hb.block _ (by omega)]; exact h.t, by rw [hb.block _ hg]; exact h.c, h.b.trans (hb.mono (by omega))⟩
theorem PR.set (h : PR w V x y) (x' : Value) (y' : Int) : PR w ((V.setCell ⟨w.heap.size, 0, none⟩ x').setCell ⟨w.heap.size + 1, 0, none⟩ (.int .i64 y')) x' y' := by
  have w1 : Win w.heap.size (w.heap.size + 1) V (V.setCell ⟨w.heap.size, 0, none⟩ x') := win_setCell _ _ _ _
  have w2 : Win (w.heap.size + 1) (w.heap.size + 1 + 1) (V.setCell ⟨w.heap.size, 0, none⟩ x') ((V.setCell ⟨w.heap.size, 0, none⟩ x').setCell ⟨w.heap.size + 1, 0, none⟩ (.int .i64 y')) := win_setCell _ _ _ _
  have l := h.lt
  have e1 := one_set (x' := x') h.t
  have e2 : (V.setCell ⟨w.heap.size, 0, none⟩ x').heap[w.heap.size + 1]? = some (.cells #[.int .i64 y] 3 (0, 0)) := by rw [w1.block _ l (by omega)]; exact h.c
  exact ⟨by rw [w2.block _ (lt_of_heapA e1) (by omega)]; exact e1, one_set (x' := .int .i64 y') e2, below_setCell (below_setCell h.b (Nat.le_refl _) _ _) (by omega) _ _⟩
theorem PR.win (h : PR w V x y) (x' : Value) (y' : Int) : Win w.heap.size (w.heap.size + 1 + 1) V ((V.setCell ⟨w.heap.size, 0, none⟩ x').setCell ⟨w.heap.size + 1, 0, none⟩ (.int .i64 y')) :=
  ((Win.refl _ _ _).setCell (Nat.le_refl _) (by omega) _ _).setCell (by omega) (by omega) _ _
theorem PR.t0 (h : PR w V x y) : V.cell? ⟨w.heap.size, 0, none⟩ = some x := cell_at h.t rfl
theorem PR.c0 (h : PR w V x y) : V.cell? ⟨w.heap.size + 1, 0, none⟩ = some (.int .i64 y) := cell_at h.c rfl
theorem PR.tf (h : PR w V x y) : V.frozen? ⟨w.heap.size, 0, none⟩ = false := free_at h.t 0
theorem PR.cf (h : PR w V x y) : V.frozen? ⟨w.heap.size + 1, 0, none⟩ = false := free_at h.c 0
end
set_option maxRecDepth 20000 in
set_option maxHeartbeats 8000000 in
/-- The program's Parse. -/
theorem parse_impl {w : World} {a : Option Addr} {n c : Nat} {T : Nat → Spn} {te : TypeId} {pe : Value} (h : SsA w a n T) (hn : n ≤ 1048576) (he : ErrN w te pe) :
    Calls Tryd.prog 8 #[.slice a n c] w fun e w' => ParOut n T w e w' := by
  have hmf : ∀ (fn : Fn) (first cap : Array Value) (w : World), (Instr.makeFunc fn first cap).run Tryd.prog w = .ok (.func fn first cap) w := fun _ _ _ _ => rfl
  have H : Hid (SsA w a n T) := h
  have HE : Hid (ErrN w te pe) := he
  have q := two_blocksR w (.cells #[.slice none 0 0] 26) (.cells #[.int .i64 0] 3)
  have P0 : Hid (PR w ((w.alloc (.cells #[.slice none 0 0] 26)).alloc (.cells #[.int .i64 0] 3)) (.slice none 0 0) 0) := ⟨q.1, q.2, bAlloc (bAlloc (Below.refl _ _) _) _⟩
  have CT : Hid (∀ W, Below w.heap.size w W → Calls Tryd.prog 20 #[.slice a n c] W fun e w' => e = .returned (.bool (tokR n T)) ∧ Below W.heap.size W w') := fun W hb => tokensK_impl (h.keep hb) hn
  clear h he q
  by_cases hr : tokR n T = true
  · have HR : Hid (tokAll T n = true ∧ n ≤ 300) := by
      unfold tokR at hr
      simp only [Bool.and_eq_true, decide_eq_true_eq] at hr
      exact hr
    have EX : Hid (parC n T = match wholeP n T with
        | none => (8, [])
        | some b => if b.size ≤ 60 then (0, b.flat 0) else (6, [])) := by
      show _ = _
      unfold parC wholeP
      rw [if_pos hr]
      cases lineP n T (n + 1) 0 with
      | none => rfl
      | some x =>
        by_cases e : x.2 = n
        · simp only [if_pos e]
        · simp only [if_neg e]
    rw [hr] at CT
    clear hr
    have hn3 : n ≤ 300 := HR.out.2
    have CW : Hid (∀ W, Below w.heap.size w W → Calls Tryd.prog 22 #[.agg #[.slice a n c, .pointer (some ⟨W.heap.size, 0, none⟩)]] (W.alloc (.cells #[.int .i64 0] 3)) fun e w' => WhoP te pe (W.alloc (.cells #[.int .i64 0] 3)) W.heap.size (wholeP n T) e w') := fun W hb => by
      refine whole_impl HR.out.2 ⟨heap_alloc_new W _, ?_, ?_, ?_⟩
      · have hs := H.out.keep (bTrans hb (bAlloc (Below.refl W.heap.size W) (.cells #[.int .i64 0] 3)))
        have hz := hb.size
        rcases H.out with h | ⟨o, off, e, ho, _⟩
        · exact .inl h
        · rcases hs with h | ⟨o', off', e', ho', h'⟩
          · exact .inl h
          · rw [e] at e'
            cases e'
            exact .inr ⟨o, off, e, by omega, ho', h'⟩
      · exact ((bTrans hb (bAlloc (Below.refl W.heap.size W) (.cells #[.int .i64 0] 3))).cell (p := ⟨0, 0, none⟩) (World.block_lt_of_cell? w _ HE.out)).trans HE.out
      · have : 0 < w.heap.size := World.block_lt_of_cell? w _ HE.out
        have := hb.size
        omega
    cases hx : wholeP n T with
    | none =>
      rw [hx] at CW EX
      clear hx
      go_enter_defers Tryd.func8, Tryd.ntmps8
      go_wp2_with fail
      refine (CT.out _ P0.out.b).mono ?_
      rintro r w1 ⟨rfl, hb⟩
      have P1 : Hid (PR w w1 (.slice none 0 0) 0) := P0.out.keep hb
      clear hb CT P0 H
      have LG := P1.out.lt
      go_wp2_with fail
      refine (CW.out _ P1.out.b).mono ?_
      rintro r w2 ⟨rfl, hb⟩
      have hz : Below w1.heap.size w1 w2 := ((bAlloc (Below.refl _ _) _)).trans hb
      have P2 : Hid (PR w w2 (.slice none 0 0) 0) := P1.out.keep hz
      clear hb hz CW P1
      unfold Pan
      go_wp2
      refine leaves_cons (f := 21) (args := #[.pointer (some ⟨w.heap.size, 0, none⟩), .pointer (some ⟨w.heap.size + 1, 0, none⟩)]) (by simp) (by simp [go_sem]) ?_
      have y0 := P2.out.t0
      have y1 := P2.out.tf
      have P9 : Hid _ := P2.out.set (.slice none 0 0) 8
      refine (catch_pan ⟨w.heap.size, 0, none⟩ ⟨w.heap.size + 1, 0, none⟩ (.slice none 0 0) (.int .i64 0) te pe [] _ y0 y1 (fun v => ?_) (fun v => ?_)).mono ?_
      · have w9 : Win w.heap.size (w.heap.size + 1) w2 (w2.setCell ⟨w.heap.size, 0, none⟩ v) := win_setCell _ _ _ _
        exact cell_at (k := 0) (by rw [w9.block _ P2.out.lt (by omega)]; exact P2.out.c) rfl
      · have w9 : Win w.heap.size (w.heap.size + 1) w2 (w2.setCell ⟨w.heap.size, 0, none⟩ v) := win_setCell _ _ _ _
        exact free_at (by rw [w9.block _ P2.out.lt (by omega)]; exact P2.out.c) 0
      rintro e u' w9 ⟨rfl, rfl, hw9⟩
      rw [← hw9] at P9
      have e0 := P9.out.t0
      have e1 := P9.out.c0
      clear hw9
      simp [Leaves, settle, results, Tryd.results8, go_sem, e0, e1]
      exact ⟨_, [], w.heap.size, by rw [EX.out], Nat.le_refl _, P9.out.b.size, NxB.nil _ _, ⟨fun x hx => absurd hx (by simp), List.Pairwise.nil⟩, by rw [EX.out]; rfl, P9.out.b⟩
    | some b =>
      rw [hx] at CW EX
      simp only at EX
      have BS := b.size_pos
      have BH : Hid (b.size ≤ 300) := by
        show _ ≤ _
        unfold wholeP at hx
        cases hl : lineP n T (n + 1) 0 with
        | none => rw [hl] at hx; cases hx
        | some y =>
          rw [hl] at hx
          simp only at hx
          have := lineP_fine (n := n) (T := T) (n + 1) 0 _ hl
          split at hx
          · cases hx; omega
          · cases hx
      clear hx
      by_cases h6 : b.size ≤ 60
      · rw [if_pos h6] at EX
        go_enter_defers Tryd.func8, Tryd.ntmps8
        go_wp2_with fail
        refine (CT.out _ P0.out.b).mono ?_
        rintro r w1 ⟨rfl, hb⟩
        have P1 : Hid (PR w w1 (.slice none 0 0) 0) := P0.out.keep hb
        clear hb CT P0 H
        have LG := P1.out.lt
        go_wp2_with fail
        refine (CW.out _ P1.out.b).mono ?_
        rintro r w2 ⟨g, rfl, hB, hC⟩
        have hz : Below w1.heap.size w1 w2 := ((bAlloc (Below.refl _ _) _)).trans (hC.lo (by simp))
        have P2 : Hid (PR w w2 (.slice none 0 0) 0) := P1.out.keep hz
        have LD : Hid (Calls Tryd.prog 23 #[.pointer (some ⟨g, 0, none⟩), .slice none 0 0] w2 fun e w' => ∃ v' M, e = .returned v' ∧ NxB w2.heap.size w' v' ([] ++ M) ∧ M.map (fun z => z.1) = b.flat 0 ∧ LbOk w' (w1.alloc (.cells #[.int .i64 0] 3)).heap.size w2.heap.size M ∧ Gro (.slice none 0 0) w2 w' ∧ ∀ k, v'.ownBlock = some k → (Value.slice none 0 0).ownBlock = some k ∨ w2.heap.size ≤ k) := laid_impl b w2 _ _ g w2.heap.size (.slice none 0 0) [] hB (NxB.nil _ _) (Nat.le_refl _) (Nat.le_refl _) (by have := BH.out; simp; omega)
        clear hB hC hz CW P1
        go_wp2_with fail
        refine LD.out.mono ?_
        rintro r w3 ⟨v3, M, rfl, hN, hM, hL, hG, ho⟩
        rw [List.nil_append] at hN
        obtain ⟨a3, c3, ev3⟩ := hN.slice
        subst ev3
        have MLn : Hid (M.length = b.size) := by show _ = _; rw [← List.length_map (f := fun z : Nb => z.1), hM, Br.flat_len]
        have HM : Hid (M.map (fun z => z.1) = b.flat 0) := hM
        have P3 : Hid (PR w w3 (.slice none 0 0) 0) := P2.out.keep (hG.below (Nat.le_refl _) (fun k hk => by simp [Value.ownBlock] at hk))
        have N3 : Hid (NxB w2.heap.size w3 (.slice a3 M.length c3) M ∧ w.heap.size + 1 < w2.heap.size ∧ w2.heap.size ≤ w3.heap.size) := ⟨hN, P2.out.lt, hG.size⟩
        have L3 : Hid (LbOk w3 (w.heap.size + 1 + 1) w2.heap.size M) := ⟨fun x hx => ⟨(hL.1 x hx).1, fun hl => by have := (hL.1 x hx).2 hl; simp at this; omega⟩, hL.2⟩
        clear hN hM hL hG ho LD P2
        have y0 := P3.out.t0
        have y1 := P3.out.tf
        have y2 := P3.out.c0
        have y3 := P3.out.cf
        have h61 : ¬ ((60 : Int) < (M.length : Int)) := by have := MLn.out; omega
        have P9 : Hid _ := P3.out.set (.slice a3 M.length c3) 0
        have WN := P3.out.win (.slice a3 M.length c3) 0
        have N9 : Hid (NxB w2.heap.size ((w3.setCell ⟨w.heap.size, 0, none⟩ (.slice a3 M.length c3)).setCell ⟨w.heap.size + 1, 0, none⟩ (.int .i64 0)) (.slice a3 M.length c3) M) := N3.out.1.same fun k hk => WN.block k (N3.out.1.own k hk).2 (by have := (N3.out.1.own k hk).1; have := N3.out.2.1; omega)
        have L9 : Hid (LbOk ((w3.setCell ⟨w.heap.size, 0, none⟩ (.slice a3 M.length c3)).setCell ⟨w.heap.size + 1, 0, none⟩ (.int .i64 0)) (w.heap.size + 1 + 1) w2.heap.size M) := L3.out.same fun k h1 h2 => WN.block k (by have := N3.out.2.2; omega) (by omega)
        have Z9 : Hid (w.heap.size + 1 < w2.heap.size ∧ w2.heap.size ≤ ((w3.setCell ⟨w.heap.size, 0, none⟩ (.slice a3 M.length c3)).setCell ⟨w.heap.size + 1, 0, none⟩ (.int .i64 0)).heap.size) := ⟨N3.out.2.1, by simp only [size_setCell]; exact N3.out.2.2⟩
        clear WN P3 N3 L3
        go_wp2
        refine leaves_cons (f := 21) (args := #[.pointer (some ⟨w.heap.size, 0, none⟩), .pointer (some ⟨w.heap.size + 1, 0, none⟩)]) (by simp) (by simp [go_sem]) ?_
        obtain ⟨W9, hW9⟩ : ∃ W9, W9 = (w3.setCell ⟨w.heap.size, 0, none⟩ (.slice a3 M.length c3)).setCell ⟨w.heap.size + 1, 0, none⟩ (.int .i64 0) := ⟨_, rfl⟩
        rw [← hW9] at P9 N9 L9 Z9 ⊢
        clear hW9 y0 y1 y2 y3
        refine (catch_idle _ _ _).mono ?_
        rintro e u' w9 ⟨rfl, rfl, hw9⟩
        subst w9
        have e0 := P9.out.t0
        have e1 := P9.out.c0
        simp [Leaves, settle, results, Tryd.results8, go_sem, e0, e1]
        exact ⟨_, M, w2.heap.size, by rw [EX.out], by have := Z9.out.1; omega, Z9.out.2, N9.out, ⟨fun x hx => ⟨(L9.out.1 x hx).1, fun hl => by have := (L9.out.1 x hx).2 hl; omega⟩, L9.out.2⟩, by rw [EX.out]; exact HM.out, P9.out.b⟩
      · rw [if_neg h6] at EX
        go_enter_defers Tryd.func8, Tryd.ntmps8
        go_wp2_with fail
        refine (CT.out _ P0.out.b).mono ?_
        rintro r w1 ⟨rfl, hb⟩
        have P1 : Hid (PR w w1 (.slice none 0 0) 0) := P0.out.keep hb
        clear hb CT P0 H
        have LG := P1.out.lt
        go_wp2_with fail
        refine (CW.out _ P1.out.b).mono ?_
        rintro r w2 ⟨g, rfl, hB, hC⟩
        have hz : Below w1.heap.size w1 w2 := ((bAlloc (Below.refl _ _) _)).trans (hC.lo (by simp))
        have P2 : Hid (PR w w2 (.slice none 0 0) 0) := P1.out.keep hz
        have LD : Hid (Calls Tryd.prog 23 #[.pointer (some ⟨g, 0, none⟩), .slice none 0 0] w2 fun e w' => ∃ v' M, e = .returned v' ∧ NxB w2.heap.size w' v' ([] ++ M) ∧ M.map (fun z => z.1) = b.flat 0 ∧ LbOk w' (w1.alloc (.cells #[.int .i64 0] 3)).heap.size w2.heap.size M ∧ Gro (.slice none 0 0) w2 w' ∧ ∀ k, v'.ownBlock = some k → (Value.slice none 0 0).ownBlock = some k ∨ w2.heap.size ≤ k) := laid_impl b w2 _ _ g w2.heap.size (.slice none 0 0) [] hB (NxB.nil _ _) (Nat.le_refl _) (Nat.le_refl _) (by have := BH.out; simp; omega)
        clear hB hC hz CW P1
        go_wp2_with fail
        refine LD.out.mono ?_
        rintro r w3 ⟨v3, M, rfl, hN, hM, hL, hG, ho⟩
        rw [List.nil_append] at hN
        obtain ⟨a3, c3, ev3⟩ := hN.slice
        subst ev3
        have MLn : Hid (M.length = b.size) := by show _ = _; rw [← List.length_map (f := fun z : Nb => z.1), hM, Br.flat_len]
        have HM : Hid (M.map (fun z => z.1) = b.flat 0) := hM
        have P3 : Hid (PR w w3 (.slice none 0 0) 0) := P2.out.keep (hG.below (Nat.le_refl _) (fun k hk => by simp [Value.ownBlock] at hk))
        have N3 : Hid (NxB w2.heap.size w3 (.slice a3 M.length c3) M ∧ w.heap.size + 1 < w2.heap.size ∧ w2.heap.size ≤ w3.heap.size) := ⟨hN, P2.out.lt, hG.size⟩
        have L3 : Hid (LbOk w3 (w.heap.size + 1 + 1) w2.heap.size M) := ⟨fun x hx => ⟨(hL.1 x hx).1, fun hl => by have := (hL.1 x hx).2 hl; simp at this; omega⟩, hL.2⟩
        clear hN hM hL hG ho LD P2
        have y0 := P3.out.t0
        have y1 := P3.out.tf
        have y2 := P3.out.c0
        have y3 := P3.out.cf
        have h61 : ((60 : Int) < (M.length : Int)) := by have := MLn.out; omega
        have P9 : Hid _ := P3.out.set (.slice none 0 0) 6
        clear P3 N3 L3
        go_wp2
        refine leaves_cons (f := 21) (args := #[.pointer (some ⟨w.heap.size, 0, none⟩), .pointer (some ⟨w.heap.size + 1, 0, none⟩)]) (by simp) (by simp [go_sem]) ?_
        obtain ⟨W9, hW9⟩ : ∃ W9, W9 = (w3.setCell ⟨w.heap.size, 0, none⟩ (.slice none 0 0)).setCell ⟨w.heap.size + 1, 0, none⟩ (.int .i64 6) := ⟨_, rfl⟩
        rw [← hW9] at P9 ⊢
        clear hW9 y0 y1 y2 y3
        refine (catch_idle _ _ _).mono ?_
        rintro e u' w9 ⟨rfl, rfl, hw9⟩
        subst w9
        have e0 := P9.out.t0
        have e1 := P9.out.c0
        simp [Leaves, settle, results, Tryd.results8, go_sem, e0, e1]
        exact ⟨_, [], w.heap.size, by rw [EX.out], Nat.le_refl _, P9.out.b.size, NxB.nil _ _, ⟨fun x hx => absurd hx (by simp), List.Pairwise.nil⟩, by rw [EX.out]; rfl, P9.out.b⟩
  · have EX : Hid (parC n T = (1, [])) := by show _ = _; unfold parC; rw [if_neg hr]
    have hr2 : tokR n T = false := by simpa using hr
    rw [hr2] at CT
    clear hr hr2
    go_enter_defers Tryd.func8, Tryd.ntmps8
    go_wp2_with fail
    refine (CT.out _ P0.out.b).mono ?_
    rintro r w1 ⟨rfl, hb⟩
    have P1 : Hid (PR w w1 (.slice none 0 0) 0) := P0.out.keep hb
    clear hb CT P0 H
    have y0 := P1.out.t0
    have y1 := P1.out.tf
    have y2 := P1.out.c0
    have y3 := P1.out.cf
    have P9 : Hid _ := P1.out.set (.slice none 0 0) 1
    clear P1
    go_wp2
    obtain ⟨W9, hW9⟩ : ∃ W9, W9 = (w1.setCell ⟨w.heap.size, 0, none⟩ (.slice none 0 0)).setCell ⟨w.heap.size + 1, 0, none⟩ (.int .i64 1) := ⟨_, rfl⟩
    rw [← hW9] at P9 ⊢
    clear hW9 y0 y1 y2 y3
    have e0 := P9.out.t0
    have e1 := P9.out.c0
    simp [bodyPostD, Leaves, settle, results, Tryd.results8, go_sem, e0, e1]
    exact ⟨_, [], w.heap.size, by rw [EX.out], Nat.le_refl _, P9.out.b.size, NxB.nil _ _, ⟨fun x hx => absurd hx (by simp), List.Pairwise.nil⟩, by rw [EX.out]; rfl, P9.out.b⟩
end Go.Proofs.YtnebjnglcfebeaaDoor
namespace Go.Proofs.YtnebjnglcfebeaaDoor
open Go.RowKit
set_option linter.unusedVariables false
set_option linter.unusedSimpArgs false
def Br.small (K : Nat) : Br → Prop
  | .num l => l.length ≤ K
  | .name _ => True
  | .set _ r => r.small K
  | .one _ _ _ r => r.small K
  | .two _ _ _ l r => l.small K ∧ r.small K
theorem flat_small {K : Nat} : ∀ (b : Br) (m : Nat), b.small K → ∀ d, d ∈ b.flat m → d.l.length ≤ K
  | .num l, m, h, d, hd => by simp [Br.flat] at hd; subst hd; exact h
  | .name l, m, h, d, hd => by simp [Br.flat] at hd; subst hd; simp
  | .set a r, m, h, d, hd => by
    simp only [Br.flat, List.mem_append, List.mem_singleton] at hd
    rcases hd with hd | rfl
    · exact flat_small r m h d hd
    · simp
  | .one s o h' r, m, h, d, hd => by
    simp only [Br.flat, List.mem_append, List.mem_singleton] at hd
    rcases hd with hd | rfl
    · exact flat_small r m h d hd
    · simp
  | .two s o h' l r, m, h, d, hd => by
    simp only [Br.flat, List.mem_append, List.mem_singleton] at hd
    rcases hd with (hd | hd) | rfl
    · exact flat_small r m h.2 d hd
    · exact flat_small l (m + r.size) h.1 d hd
    · simp
def Sm (K : Nat) (x : Option (Br × Nat)) : Prop := ∀ y, x = some y → y.1.small K
theorem operP_small {n : Nat} {T : Nat → Spn} {line : Nat → Option (Br × Nat)} {p : Nat} (h : Sm n (line (p + 1))) : Sm n (operP n T line p) := by
  intro y hy
  unfold operP at hy
  split at hy
  · rename_i e
    have hp := tkK_in (n := n) (T := T) (p := p) (by omega)
    have := runN_le (n := n) (T := T) p (by omega)
    cases hy
    simp only [Br.small, numsP, List.length_map, List.length_range]
    omega
  · split at hy
    · cases hy; trivial
    · split at hy
      · cases hl : line (p + 1) with
        | none => rw [hl] at hy; cases hy
        | some x =>
          rw [hl] at hy
          simp only at hy
          split at hy
          · cases hy; exact h x hl
          · cases hy
      · cases hy
theorem lineP_small {n : Nat} {T : Nat → Spn} : ∀ (k p : Nat), Sm n (lineP n T k p)
  | 0, p => fun y hy => by cases hy
  | k + 1, p => by
    intro y hy
    unfold lineP at hy
    split at hy
    · cases hl : lineP n T k (p + 2) with
      | none => rw [hl] at hy; cases hy
      | some x =>
        rw [hl] at hy
        cases hy
        exact lineP_small k (p + 2) x hl
    · split at hy
      · split at hy
        · cases hl : lineP n T k (funP n T p).2 with
          | none => rw [hl] at hy; cases hy
          | some x =>
            rw [hl] at hy
            cases hy
            exact lineP_small k _ x hl
        · cases hy
      · have hop := operP_small (n := n) (T := T) (line := fun q => lineP n T k q) (p := p) (lineP_small k (p + 1))
        cases ho : operP n T (fun q => lineP n T k q) p with
        | none => rw [ho] at hy; cases hy
        | some x =>
          rw [ho] at hy
          simp only at hy
          split at hy
          · split at hy
            · cases hl : lineP n T k (funP n T x.2).2 with
              | none => rw [hl] at hy; cases hy
              | some z =>
                rw [hl] at hy
                cases hy
                exact ⟨hop x ho, lineP_small k _ z hl⟩
            · cases hy
          · cases hy
            exact hop _ ho
theorem parC_small (n : Nat) (T : Nat → Spn) : (parC n T).2.length ≤ 60 ∧ ∀ d, d ∈ (parC n T).2 → d.l.length ≤ 300 := by
  unfold parC
  by_cases hr : tokR n T = true
  · rw [if_pos hr]
    have hn : n ≤ 300 := by unfold tokR at hr; simp only [Bool.and_eq_true, decide_eq_true_eq] at hr; exact hr.2
    cases hl : lineP n T (n + 1) 0 with
    | none => simp
    | some x =>
      simp only
      split
      · split
        · rename_i h6
          simp only
          refine ⟨by rw [Br.flat_len]; exact h6, fun d hd => Nat.le_trans (flat_small x.1 0 (lineP_small (n := n) (T := T) (n + 1) 0 x hl) d hd) hn⟩
        · simp
      · simp
  · rw [if_neg hr]; simp
theorem ndN_small {l : List Nd} {K : Nat} (h : ∀ d, d ∈ l → d.l.length ≤ K) (i : Nat) : (ndN l i).length ≤ K := by
  unfold ndN
  rw [List.getD_eq_getElem?_getD]
  cases hx : l[i]? with
  | none => simp [nb0]
  | some d => exact h d (List.mem_of_getElem? hx)
theorem totN_small {N : Nat → List Int} (h : ∀ i, (N i).length ≤ 300) : ∀ j, totN 6 N j ≤ j * 306
  | 0 => by simp [totN]
  | j + 1 => by
    have := totN_small h j
    have := h j
    rw [totN]
    omega
/-- A list of nodes, told by what lies from lo to hi. -/
def ExW (lo hi : Nat) (w : World) (v : Value) (n : Nat) (E : Nat → Nat → Int) (N : Nat → List Int) : Prop := hi ≤ w.heap.size ∧ ∀ w', (∀ k, lo ≤ k → k < hi → w'.heap[k]? = w.heap[k]?) → ExprsI w' v n E N
section
variable {lo hi n : Nat} {w w' : World} {v : Value} {E : Nat → Nat → Int} {N : Nat → List Int}
theorem ExW.list (h : ExW lo hi w v n E N) : ExprsI w v n E N := h.2 w fun _ _ _ => rfl
theorem ExW.same (h : ExW lo hi w v n E N) (hs : w.heap.size ≤ w'.heap.size) (hb : ∀ k, lo ≤ k → k < hi → w'.heap[k]? = w.heap[k]?) : ExW lo hi w' v n E N :=
  ⟨Nat.le_trans h.1 hs, fun w2 h2 => h.2 w2 fun k h3 h4 => (h2 k h3 h4).trans (hb k h3 h4)⟩
theorem ExW.keep (h : ExW lo hi w v n E N) (hb : Below w.heap.size w w') : ExW lo hi w' v n E N := h.same hb.size fun k _ h2 => hb.block k (by have := h.1; omega)
theorem ExW.win {B C : Nat} (h : ExW lo hi w v n E N) (hw : Win B C w w') (hd : hi ≤ B ∨ C ≤ lo) : ExW lo hi w' v n E N := h.same hw.size fun k h1 h2 => hw.block k (by have := h.1; omega) (by omega)
end
theorem NL.exW {g : Nat} {w : World} {v : Value} {L : List Nb} (h : NL g w v L) : ExW (g + 1) w.heap.size w v L.length (ndE (L.map (fun z => z.1))) (ndN (L.map (fun z => z.1))) :=
  ⟨Nat.le_refl _, fun w' hb => (h.same fun k h1 h2 => hb k h1 h2).exprs⟩
/-- Both sides, in the same words. -/
theorem parse_specW {w : World} {a : Option Addr} {n c : Nat} {T : Nat → Spn} (h : SsA w a n T) (hn : n ≤ 1048576) :
    Calls Tryd.prog 6 #[.slice a n c] w fun e w' => ∃ u, e = .returned (.tuple #[.agg #[u], .int .i64 (parC n T).1]) ∧ ExW w.heap.size w'.heap.size w' u (parC n T).2.length (ndE (parC n T).2) (ndN (parC n T).2) ∧ Below w.heap.size w w' := by
  refine (parse_spec h hn).mono ?_
  rintro e w' ⟨v, g, L, rfl, hg, hN, hL, hb⟩
  have hx := hN.exW
  rw [hL] at hx
  have hl : L.length = (parC n T).2.length := by rw [← hL, List.length_map]
  rw [hl] at hx
  exact ⟨v, rfl, ⟨hx.1, fun w2 h2 => hx.2 w2 fun k h3 h4 => h2 k (by omega) h4⟩, hb⟩
theorem parse_implW {w : World} {a : Option Addr} {n c : Nat} {T : Nat → Spn} {te : TypeId} {pe : Value} (h : SsA w a n T) (hn : n ≤ 1048576) (he : ErrN w te pe) :
    Calls Tryd.prog 8 #[.slice a n c] w fun e w' => ∃ u, e = .returned (.tuple #[.agg #[u], .int .i64 (parC n T).1]) ∧ OwnVT w.heap.size w'.heap.size w' u (parC n T).2.length (ndE (parC n T).2) (ndN (parC n T).2) ∧ Below w.heap.size w w' := by
  refine (parse_impl h hn he).mono ?_
  rintro e w' ⟨v, L, lo, rfl, h0, h1, hN, hO, hL, hb⟩
  have hx := hN.ownVT hO h0 h1
  rw [hL] at hx
  have hl : L.length = (parC n T).2.length := by rw [← hL, List.length_map]
  rw [hl] at hx
  exact ⟨v, rfl, hx, hb⟩
/-- What a wrong line is told by is there. -/
def ErrX (w : World) : Prop := ∃ te pe, ErrN w te pe
theorem ErrX.on {w w' : World} (h : ErrX w) (hb : Below w.heap.size w w') : ErrX w' := by
  obtain ⟨te, pe, h⟩ := h
  exact ⟨te, pe, (hb.cell (p := ⟨0, 0, none⟩) (World.block_lt_of_cell? w _ h)).trans h⟩
theorem parse_implX {w : World} {a : Option Addr} {n c : Nat} {T : Nat → Spn} (h : SsA w a n T) (hn : n ≤ 1048576) (he : ErrX w) :
    Calls Tryd.prog 8 #[.slice a n c] w fun e w' => ∃ u, e = .returned (.tuple #[.agg #[u], .int .i64 (parC n T).1]) ∧ OwnVT w.heap.size w'.heap.size w' u (parC n T).2.length (ndE (parC n T).2) (ndN (parC n T).2) ∧ Below w.heap.size w w' := by
  obtain ⟨te, pe, h2⟩ := he
  exact parse_implW h hn h2
end Go.Proofs.YtnebjnglcfebeaaDoor
namespace Go.Proofs.YtnebjnglcfebeaaDoor
open Go.RowKit
set_option linter.unusedVariables false
set_option linter.unusedSimpArgs false
theorem Strs.but {g gl : Nat} {l : List ByteArray} {w w' : World} (h : Strs gl l w) (hb : But g w w') (hgl : gl < w.heap.size) (hne : gl ≠ g) : Strs gl l w' := fun k hk => by
  rw [hb.cell (p := ⟨gl, k, none⟩) hgl hne]; exact h k hk
theorem Strs.heap {gl : Nat} {l : List ByteArray} {w w' : World} (h : Strs gl l w) (e : w'.heap = w.heap) : Strs gl l w' := fun k hk => by
  have := h k hk
  unfold World.cell? at this ⊢
  rw [e]
  exact this
theorem dmin_spec (a b : Int) (w : World) : Calls Tryd.prog 70 #[.int .i64 a, .int .i64 b] w fun e w' => e = .returned (.int .i64 (if a < b then a else b)) ∧ w' = w := by
  by_cases h : a < b
  · rw [if_pos h]
    go_enter Tryd.func70, Tryd.ntmps70
    go_wp2
    go_ret
    exact ⟨rfl, rfl⟩
  · rw [if_neg h]
    go_enter Tryd.func70, Tryd.ntmps70
    go_wp2
    go_ret
    exact ⟨rfl, rfl⟩
set_option maxRecDepth 20000 in
set_option maxHeartbeats 4000000 in
theorem dent_spec {B g gl : Nat} {w : World} {l : List ByteArray} (hd : DrawOk B g w) (s : ByteArray) (hs : s.size ≤ 1000000) (K : Nat) (hK : ∀ x ∈ l, x.size ≤ K) (hK2 : K ≤ 100) (n : Nat) (n0 : 0 < n) (n1 : n ≤ 256) (hne : gl ≠ g) (hgl : gl < w.heap.size) (hl : Strs gl l w) (hn : l.length = n) :
    Calls Tryd.prog 52 #[.pointer (some ⟨g, 0, none⟩), .string s, .slice (some ⟨gl, 0, none⟩) n n] w fun e w' => TxP B g (s.size + K) w e w' := by
  have HD0 : Hid (DrawOk B g w) := hd
  have HL : Hid (Strs gl l w) := hl
  have HN : Hid (l.length = n) := hn
  have HK : Hid (∀ x ∈ l, x.size ≤ K) := hK
  have ex : ∀ b : Nat, b ≤ s.size → (s.extract 0 b).size = b ∧ (s.extract b s.size).size = s.size - b := fun b hb => ⟨by rw [ByteArray.size_extract]; omega, by rw [ByteArray.size_extract]; omega⟩
  have EX : Hid (∀ b : Nat, b ≤ s.size → (s.extract 0 b).size = b ∧ (s.extract b s.size).size = s.size - b) := ex
  clear hd hl hn hK ex
  go_enter Tryd.func52, Tryd.ntmps52
  go_wp2_with fail
  refine (below_any HD0.out ((s.size : Int) + 1) (by omega)).mono ?_
  rintro e w1 ⟨x, x1, x2, rfl, hb, hd⟩
  have HB1 : Hid (But g w w1) := hb
  have HD1 : Hid (DrawOk B g w1) := hd
  clear hb hd
  obtain ⟨q, rfl⟩ := Int.eq_ofNat_of_zero_le x1
  have hq : q ≤ s.size := by omega
  go_wp2_with fail
  refine (below_small HD1.out 3 (by decide) (by decide)).mono ?_
  rintro e w2 ⟨y, y1, y2, rfl, hb, hd⟩
  have HB2 : Hid (But g w w2) := HB1.out.trans hb
  have HD2 : Hid (DrawOk B g w2) := hd
  clear hb hd
  have hwr : IntKind.i64.wrap ((q : Int) + 1) = (q : Int) + 1 := by rw [IntKind.wrap_i64]; omega
  have PK : Hid (∀ W : World, W.heap = w2.heap → Calls Tryd.prog 72 #[.pointer (some ⟨g, 0, none⟩), .slice (some ⟨gl, 0, none⟩) n n] W fun e w' => TxP B g K W e w') := fun W hW => by
    have h1 : Strs gl l W := (HL.out.but HB2.out hgl hne).heap hW
    have h2 : DrawOk B g W := by
      have := HD2.out
      unfold DrawOk Src World.cell? at this ⊢
      rw [hW]
      exact this
    exact pickS_spec K HK.out h2 n n n0 n1 hne (by rw [hW]; exact Nat.lt_of_lt_of_le hgl HB2.out.size) h1 HN.out
  by_cases q0 : y = 0
  · subst q0
    go_wp2
    go_ret
    exact ⟨_, rfl, by have := EX.out q hq; omega, HB2.out, HD2.out⟩
  by_cases q1 : y = 1
  · subst q1
    obtain ⟨m, hm, hm2⟩ : ∃ m : Nat, (if (q : Int) + 1 < (s.size : Int) then (q : Int) + 1 else (s.size : Int)) = (m : Int) ∧ (m ≤ s.size ∧ q ≤ m) := by
      by_cases h : (q : Int) + 1 < (s.size : Int)
      · exact ⟨q + 1, by rw [if_pos h]; omega, by omega, by omega⟩
      · exact ⟨s.size, by rw [if_neg h], by omega, by omega⟩
    obtain ⟨m1, m2⟩ := hm2
    have CM : Hid (∀ W, Calls Tryd.prog 70 #[.int .i64 ((q : Int) + 1), .int .i64 (s.size : Int)] W fun e w' => e = .returned (.int .i64 (m : Int)) ∧ w' = W) := fun W => by
      have := dmin_spec ((q : Int) + 1) (s.size : Int) W
      rw [hm] at this
      exact this
    clear hm
    go_wp2
    go_region_held3 (fun w' => True) (exact trivial) (first
      | (go_at_call 72; refine (PK.out w2.drew rfl).mono ?_; rintro r w3 ⟨t, rfl, ht, hb, hd⟩; have HB3 : Hid (But g w w3) := (HB2.out.trans (⟨rfl, rfl, rfl, Nat.le_refl _, fun _ _ _ => rfl⟩ : But g w2 w2.drew)).trans hb; have HD3 : Hid (DrawOk B g w3) := hd; have c1 : ¬ 9223372036854775807 < (s.extract 0 q).size + t.size := (by have := EX.out q hq; omega); have d1 : ¬ 9223372036854775807 < min q s.size - 0 + t.size := (by omega); have d2 : ¬ 9223372036854775807 < min q s.size + t.size := (by omega); have d3 : ¬ 9223372036854775807 < q + t.size := (by omega); have f1 : ¬ 9223372036854775807 < (s.extract 0 q).size + t.size + (s.extract m s.size).size := (by have := EX.out q hq; have := EX.out m m1; omega); have f2 : ¬ 9223372036854775807 < (s.extract 0 q).size + t.size + (s.size - m) := (by have := EX.out q hq; have := EX.out m m1; omega); have f3 : ¬ 9223372036854775807 < min q s.size + t.size + (s.extract m s.size).size := (by have := EX.out q hq; have := EX.out m m1; omega); have f4 : ¬ 9223372036854775807 < min q s.size + t.size + (s.size - m) := (by have := EX.out q hq; have := EX.out m m1; omega); have f5 : ¬ 9223372036854775807 < q + t.size + (s.extract m s.size).size := (by have := EX.out q hq; have := EX.out m m1; omega); have f6 : ¬ 9223372036854775807 < q + t.size + (s.size - m) := (by have := EX.out q hq; have := EX.out m m1; omega); have c3 : ¬ 9223372036854775807 < (s.extract 0 q).size + t.size + (s.extract m s.size).size := (by have := EX.out q hq; have := EX.out m m1; omega); have c2 : ¬ 9223372036854775807 < (s.extract 0 q ++ t).size + (s.extract m s.size).size := (by have := EX.out q hq; have := EX.out m m1; rw [str_len]; omega); clear hb hd)
      | (go_at_call 70; refine (CM.out _).mono ?_; rintro r w4 ⟨rfl, hw4⟩; subst hw4))
    all_goals
      go_wp2
      go_ret
      exact ⟨_, rfl, by have := EX.out q hq; have := EX.out m m1; rw [str_len, str_len]; omega, HB3.out, HD3.out⟩
  · obtain rfl : y = 2 := by omega
    go_wp2
    go_region_held3 (fun w' => True) (exact trivial) ((go_at_call 72; refine (PK.out w2.drew rfl).mono ?_; rintro r w3 ⟨t, rfl, ht, hb, hd⟩; have HB3 : Hid (But g w w3) := (HB2.out.trans (⟨rfl, rfl, rfl, Nat.le_refl _, fun _ _ _ => rfl⟩ : But g w2 w2.drew)).trans hb; have HD3 : Hid (DrawOk B g w3) := hd; have c1 : ¬ 9223372036854775807 < (s.extract 0 q).size + t.size := (by have := EX.out q hq; omega); have d1 : ¬ 9223372036854775807 < min q s.size - 0 + t.size := (by omega); have d2 : ¬ 9223372036854775807 < min q s.size + t.size := (by omega); have d3 : ¬ 9223372036854775807 < q + t.size := (by omega); have f1 : ¬ 9223372036854775807 < (s.extract 0 q).size + t.size + (s.extract q s.size).size := (by have := EX.out q hq; have := EX.out q hq; omega); have f2 : ¬ 9223372036854775807 < (s.extract 0 q).size + t.size + (s.size - q) := (by have := EX.out q hq; have := EX.out q hq; omega); have f3 : ¬ 9223372036854775807 < min q s.size + t.size + (s.extract q s.size).size := (by have := EX.out q hq; have := EX.out q hq; omega); have f4 : ¬ 9223372036854775807 < min q s.size + t.size + (s.size - q) := (by have := EX.out q hq; have := EX.out q hq; omega); have f5 : ¬ 9223372036854775807 < q + t.size + (s.extract q s.size).size := (by have := EX.out q hq; have := EX.out q hq; omega); have f6 : ¬ 9223372036854775807 < q + t.size + (s.size - q) := (by have := EX.out q hq; have := EX.out q hq; omega); have c3 : ¬ 9223372036854775807 < (s.extract 0 q).size + t.size + (s.extract q s.size).size := (by have := EX.out q hq; have := EX.out q hq; omega); have c2 : ¬ 9223372036854775807 < (s.extract 0 q ++ t).size + (s.extract q s.size).size := (by have := EX.out q hq; have := EX.out q hq; rw [str_len]; omega); clear hb hd))
    all_goals
      go_wp2
      go_ret
      exact ⟨_, rfl, by have := EX.out q hq; have := EX.out q hq; rw [str_len, str_len]; omega, HB3.out, HD3.out⟩
-- TEXT
set_option maxRecDepth 20000 in
set_option maxHeartbeats 4000000 in
/-- l8DrawText. -/
theorem text_draw {B g : Nat} {w : World} (hd : DrawOk B g w) :
    Calls Tryd.prog 30 #[.pointer (some ⟨g, 0, none⟩)] w fun e w' => TxP B g 25613 w e w' := by
  have HB0 : Hid (But g w w) := But.refl g w
  have HD0 : Hid (DrawOk B g w) := hd
  clear hd
  have LN : Hid (∀ W, DrawOk B g W → Calls Tryd.prog 50 #[.pointer (some ⟨g, 0, none⟩), .int .i64 4] W fun e w' => TxP B g 25600 W e w') := fun W h => (deep_spec 4 (by decide)).1 W h
  go_enter Tryd.func30, Tryd.ntmps30
  go_wp2_with fail
  refine (LN.out _ HD0.out).mono ?_
  rintro e w1 ⟨s, rfl, hs, hb, hd⟩
  have HB1 : Hid (But g w w1) := HB0.out.trans hb
  have HD1 : Hid (DrawOk B g w1) := hd
  clear hb hd
  go_wp2_with fail
  refine (once_spec HD1.out 3 (by decide) (by decide)).mono ?_
  rintro e w2 ⟨b, rfl, hb, hd⟩
  have HB2 : Hid (But g w w2) := HB1.out.trans hb
  have HD2 : Hid (DrawOk B g w2) := hd
  clear hb hd
  cases b
  · skip
    go_wp2
    go_ret
    exact ⟨_, rfl, by (try simp only [str_len, lit1, lit2, lit3]); omega, HB2.out, HD2.out⟩
  · skip
    go_wp2_with fail
    refine (dent_spec (gl := w2.heap.size) (HD2.out.alloc _) s (by omega) 13 (by decide) (by decide) 15 (by decide) (by decide) (Nat.ne_of_gt HD2.out.lt) (by simp) (strs_alloc w2 [(⟨#[43]⟩ : ByteArray), (⟨#[45]⟩ : ByteArray), (⟨#[47]⟩ : ByteArray), (⟨#[40]⟩ : ByteArray), (⟨#[41]⟩ : ByteArray), (⟨#[58]⟩ : ByteArray), (⟨#[65]⟩ : ByteArray), (⟨#[53]⟩ : ByteArray), (⟨#[32]⟩ : ByteArray), (⟨#[95]⟩ : ByteArray), (⟨#[111]⟩ : ByteArray), (⟨#[46]⟩ : ByteArray), (⟨#[120]⟩ : ByteArray), (⟨#[35]⟩ : ByteArray), (⟨#[49, 48, 48, 48, 48, 48, 48, 48, 48, 48, 48, 48, 49]⟩ : ByteArray)] _) rfl).mono ?_
    rintro e w3 ⟨t, rfl, ht, hb, hd⟩
    have HB3 : Hid (But g w w3) := (HB2.out.alloc _).trans hb
    have HD3 : Hid (DrawOk B g w3) := hd
    clear hb hd
    go_wp2
    go_ret
    exact ⟨_, rfl, by (try simp only [str_len, lit1, lit2, lit3]); omega, HB3.out, HD3.out⟩
def strSz : Value → Nat
  | .string s => s.size
  | _ => 0
end Go.Proofs.YtnebjnglcfebeaaDoor
namespace Go.Proofs.YtnebjnglcfebeaaDoor
open Go.RowKit
set_option linter.unusedVariables false
set_option linter.unusedSimpArgs false
/-- Growing by a list, which lies anywhere. -/
theorem growSL {B : Nat} {w : World} {a b : Option Addr} {c c2 : Nat} {l : List Spn} (m : List Spn) (h : NewSp B w (.slice a l.length c) l) (hm : SsA w b m.length (fun i => m.getD i spn0)) (hB : B ≤ w.heap.size) (hl : l.length + m.length ≤ 1048576) :
    ∃ a' c' w', (∀ ty, (Builtin.append_ #[29, 29] ty #[.slice a l.length c, .slice b m.length c2]).run Tryd.prog w = .ok (.slice a' (l ++ m).length c') w') ∧ NewSp B w' (.slice a' (l ++ m).length c') (l ++ m) ∧ Below B w w' := by
  obtain ⟨i, hq, z1, z2, z3⟩ : ∃ i, Tryd.prog.info? 40 = some i ∧ i.zero = some (.agg #[.int .i64 0, .int .i64 0]) ∧ i.size = 2 ∧ i.bytes = 16 := by
    have hi := info_tok
    cases hq : Tryd.prog.info? 40 with
    | none => rw [hq] at hi; cases hi
    | some i => rw [hq] at hi; simp at hi; exact ⟨i, rfl, hi.1, hi.2.1, hi.2.2⟩
  cases b with
  | none =>
    obtain rfl : m = [] := by
      rcases hm with h | ⟨o, off, e, _⟩
      · exact List.eq_nil_of_length_eq_zero h
      · cases e
    have hle : l.length ≤ c := by
      rcases h.2 with ⟨e, h0⟩ | ⟨g, cap, cur, e, _, _, hle, _⟩
      · simp only [Value.slice.injEq] at e; omega
      · simp only [Value.slice.injEq] at e; omega
    refine ⟨a, c, w, fun ty => ?_, by simpa using h, Below.refl _ _⟩
    have := run_append_nothing (P := Tryd.prog) w 29 29 ty 40 i Tryd.underlying29 hq a l.length c hle (.slice none 0 c2) (by rw [z2]; exact Src.ofNil w Tryd.underlying29 c2)
    simpa using this
  | some ad =>
    have hn : ∀ (j : Nat) (u : Value), (svs m)[j]? = some u → w.cell? (ad.add j) = some u := by
      rcases hm with h | ⟨o, off, e, _, hc⟩
      · obtain rfl := List.eq_nil_of_length_eq_zero h
        intro j u hu; simp [svs] at hu
      · cases e
        intro j u hu
        have hj : j < m.length * 2 := by have := (List.getElem?_eq_some_iff.1 hu).1; rw [svs_len] at this; exact this
        have e : (⟨o, off, none⟩ : Addr).add j = ⟨o, off + j, none⟩ := by unfold Addr.add; simp
        rw [e]
        obtain ⟨q1, q2⟩ := hc (j / 2) (by omega)
        obtain ⟨p1, p2⟩ := svs_at m (j / 2) (by omega)
        have : j = j / 2 * 2 ∨ j = j / 2 * 2 + 1 := by omega
        rcases this with e | e
        · have hu2 : (svs m)[j / 2 * 2]? = some u := by rw [← e]; exact hu
          rw [p1] at hu2
          rw [← hu2, show off + j = off + j / 2 * 2 by omega]
          exact q1
        · have hu2 : (svs m)[j / 2 * 2 + 1]? = some u := by rw [← e]; exact hu
          rw [p2] at hu2
          rw [← hu2, show off + j = off + j / 2 * 2 + 1 by omega]
          exact q2
    obtain ⟨v', w', hr, h2, h3, _, _⟩ := run_append_own_at (P := Tryd.prog) w B 29 29 40 i _ 2 16 Tryd.underlying29 hq z1 z2 z3 rfl (by decide) _ l.length (svs l) h ad m.length c2 (svs m) (svs_len m) hn (svs_one m) (by unfold maxLen; omega) (by omega) hB
    have h2' : NewSp B w' v' (l ++ m) := by
      show World.ownsRow _ _ _ _ _ _ _
      rw [svs_app]
      simpa using h2
    have hrow : ∀ k, (Value.slice a l.length c).ownBlock = some k → B ≤ k := by
      obtain ⟨_, hh⟩ := h
      intro k hk
      rcases hh with ⟨e, _⟩ | ⟨g, cap, cur, e, hB', _⟩
      · rw [e] at hk; simp [Value.ownBlock] at hk
      · rw [e] at hk; simp [Value.ownBlock] at hk; omega
    obtain ⟨a', c', rfl⟩ : ∃ a' c', v' = .slice a' (l ++ m).length c' := h2'.piece.slice
    exact ⟨a', c', w', fun ty => hr, h2', grown_below h3 hrow hB⟩
/-- A list that is written down. -/
theorem NewSp.lit {B g : Nat} {w : World} {A : Array Value} {l : List Spn} (h : w.heap[g]? = some (.cells A 40 (0, 0))) (hA : A.toList = svs l) (hB : B ≤ g) (hl : l.length ≤ 1048576) : NewSp B w (.slice (some ⟨g, 0, none⟩) l.length l.length) l := by
  have hs : A.size = l.length * 2 := by rw [← svs_len l, ← hA]; simp
  refine ⟨by rw [svs_len], .inr ⟨g, l.length, A, rfl, hB, h, Nat.le_refl _, by unfold maxLen; omega, by omega, ?_⟩⟩
  rw [hA, List.take_of_length_le (by rw [svs_len]; exact Nat.le_refl _)]
theorem ssA_lit {g : Nat} {w : World} {A : Array Value} {t : TypeId} {q : Nat × Nat} {l : List Spn} (h : w.heap[g]? = some (.cells A t q)) (hA : A.toList = svs l) : SsA w (some ⟨g, 0, none⟩) l.length (fun i => l.getD i spn0) := by
  refine .inr ⟨g, 0, rfl, lt_of_heapA h, fun i hi => ?_⟩
  obtain ⟨q1, q2⟩ := svs_at l i hi
  have e : ∀ j, A[j]? = (svs l)[j]? := fun j => by rw [← hA, Array.getElem?_toList]
  rw [Nat.zero_add]
  exact ⟨cell_at h (by rw [e]; exact q1), cell_at h (by rw [e]; exact q2)⟩
end Go.Proofs.YtnebjnglcfebeaaDoor
namespace Go.Proofs.YtnebjnglcfebeaaDoor
open Go.RowKit
set_option linter.unusedVariables false
set_option linter.unusedSimpArgs false
theorem lexF_le (s : ByteArray) : ∀ (f p : Nat) (acc : List Spn), acc.length ≤ p → p ≤ s.size → (lexF s f p acc).1.length ≤ s.size
  | 0, p, acc, h, hp => by simp only [lexF]; omega
  | f + 1, p, acc, h, hp => by
    simp only [lexF]
    by_cases h1 : p < s.size
    · rw [if_pos h1]
      by_cases h2 : bt s p = 32
      · rw [if_pos h2]; exact lexF_le s f _ _ (by omega) (by omega)
      · rw [if_neg h2]
        by_cases h3 : (tkAt s p).2.2.2 = 0
        · have := tkAt_next s h1 h3
          rw [if_pos h3]
          exact lexF_le s f _ _ (by simp; omega) (by omega)
        · rw [if_neg h3]; simp
    · rw [if_neg h1]; show acc.length ≤ s.size; omega
theorem lexV_le (s : ByteArray) : (lexV s).1.length ≤ s.size := by
  unfold lexV
  split
  · simp
  · exact lexF_le s _ 0 [] (by simp) (by omega)
theorem NewSp.but2 {B g : Nat} {w w' : World} {v : Value} {l : List Spn} (h : NewSp B w v l) (hb : But g w w') (hg : g < B) : NewSp B w' v l := by
  obtain ⟨h1, h2⟩ := h
  refine ⟨h1, ?_⟩
  rcases h2 with h2 | ⟨k, cap, cur, e', hk, hh, r⟩
  · exact .inl h2
  · exact .inr ⟨k, cap, cur, e', hk, by rw [hb.block k (lt_of_heapA hh) (by omega)]; exact hh, r⟩
def slen : Value → Nat
  | .slice _ n _ => n
  | _ => 0
theorem spn_list {w : World} {x : Option Addr} {n : Nat} {E : Nat → Spn} (h : SsA w x n E) : ∃ m : List Spn, m.length = n ∧ SsA w x m.length (fun i => m.getD i spn0) := by
  refine ⟨(List.range n).map E, by simp, ?_⟩
  rw [show ((List.range n).map E).length = n by simp]
  exact h.congr fun i hi => by rw [List.getD_eq_getElem?_getD]; simp [hi]
/-- One token ahead of a list. -/
theorem aheadS {w : World} {x : Option Addr} {n c : Nat} {E : Nat → Spn} (t : Spn) (h : SsA w x n E) (hn : n ≤ 100000) :
    ∃ a' c' w', (∀ ty, (Builtin.append_ #[29, 29] ty #[.slice (some ⟨w.heap.size, 0, none⟩) 1 1, .slice x n c]).run Tryd.prog (w.alloc (.cells #[.int .i64 t.f, .int .i64 t.t] 40)) = .ok (.slice a' (n + 1) c') w') ∧ SsA w' a' (n + 1) (fun i => if i = 0 then t else E (i - 1)) ∧ Below w.heap.size w w' := by
  have hb : Below w.heap.size w (w.alloc (.cells #[.int .i64 t.f, .int .i64 t.t] 40)) := bAlloc (Below.refl _ _) _
  have h1 : SsA (w.alloc (.cells #[.int .i64 t.f, .int .i64 t.t] 40)) x n E := h.keep hb
  have L := NewSp.lit (B := w.heap.size) (l := [t]) (heap_alloc_new w (.cells #[.int .i64 t.f, .int .i64 t.t] 40)) rfl (Nat.le_refl _) (by simp)
  have e : ∀ i, i < n → (((List.range n).map E).getD i spn0) = E i := fun i hi => by rw [List.getD_eq_getElem?_getD]; simp [hi]
  have hl : ((List.range n).map E).length = n := by simp
  obtain ⟨a', c', w', r, hN, hB⟩ := growSL (c2 := c) (b := x) ((List.range n).map E) L (by rw [hl]; exact h1.congr fun i hi => (e i hi)) hb.size (by rw [hl]; simp; omega)
  have hl2 : ([t] ++ (List.range n).map E).length = n + 1 := by simp <;> omega
  rw [hl2] at hN
  refine ⟨a', c', w', fun ty => ?_, ?_, hb.trans hB⟩
  · have := r ty
    rw [hl2, hl] at this
    exact this
  · have hp := hN.piece
    rw [hl2] at hp
    refine hp.ssA.congr fun i hi => ?_
    by_cases e0 : i = 0
    · subst e0; rfl
    · obtain ⟨j, rfl⟩ : ∃ j, i = j + 1 := ⟨i - 1, by omega⟩
      rw [if_neg e0]
      simp only [List.singleton_append, List.getD_cons_succ, Nat.add_sub_cancel]
      exact (e j (by omega)).symm
set_option maxRecDepth 20000 in
set_option maxHeartbeats 8000000 in
/-- DrawParse. -/
theorem drawPar_spec {w : World} {a : Option Addr} {len cap : Nat} (hs : Src w.heap.size w a len) (hb20 : len ≤ 1048576) :
    Calls Tryd.prog 15 #[.slice a len cap] w fun e w' => ∃ (x : Option Addr) (n c : Nat) (E : Nat → Spn), e = .returned (.slice x n c) ∧ n ≤ 30000 ∧ SsA w' x n E ∧ Below w.heap.size w w' := by
  have HS : Hid (Src w.heap.size w a len) := hs
  clear hs
  go_enter Tryd.func15, Tryd.ntmps15
  go_wp2_with fail
  refine (new_spec HS.out hb20).mono ?_
  rintro e w1 ⟨g, rfl, hb, hd⟩
  have HW : Hid (Below w.heap.size w w1) := hb
  have HD1 : Hid (DrawOk w.heap.size g w1) := hd
  have EN : Hid (∀ W, But g w1 W → Below w.heap.size w W) := fun W h => HW.out.trans (h.below HD1.out.1 HW.out.size)
  clear hb hd
  go_wp2_with fail
  refine (text_draw HD1.out).mono ?_
  rintro e w2 ⟨s, rfl, hs0, hb, hd⟩
  have HB2 : Hid (But g w1 w2) := hb
  have HD2 : Hid (DrawOk w.heap.size g w2) := hd
  clear hb hd
  go_wp2_with fail
  refine (lex_spec s (by omega) w2).mono ?_
  rintro e w3 ⟨v, rfl, hn, hb⟩
  have HLn := lexV_le s
  obtain ⟨x3, c3, hv⟩ := hn.piece.slice
  subst hv
  have N3 : Hid (NewSp w2.heap.size w3 (.slice x3 (lexV s).1.length c3) (lexV s).1) := hn
  have HB3 : Hid (But g w1 w3) := HB2.out.trans (But.ofB hb)
  have HD3 : Hid (DrawOk w.heap.size g w3) := HD2.out.keep (hb.mono HD2.out.2.1) (hb.block g HD2.out.lt)
  have G2 : Hid (g < w2.heap.size) := HD2.out.lt
  have S23 : Hid (w2.heap.size ≤ w3.heap.size) := hb.size
  generalize (lexV s).1 = l at *
  generalize (lexV s).2.1 = cc at *
  generalize ((lexV s).2.2 : Int) = pl at *
  clear hb hn
  go_wp2_with fail
  refine (below_small HD3.out 25 (by decide) (by decide)).mono ?_
  rintro e w4 ⟨y, y1, y2, rfl, hb, hd⟩
  have HB4 : Hid (But g w1 w4) := HB3.out.trans hb
  have HD4 : Hid (DrawOk w.heap.size g w4) := hd
  have N4 : Hid (NewSp w2.heap.size w4 (.slice x3 l.length c3) l) := N3.out.but2 hb G2.out
  have S24 : Hid (w2.heap.size ≤ w4.heap.size) := Nat.le_trans S23.out hb.size
  clear hb hd N3
  by_cases q0 : y = 0
  · subst q0
    go_wp2_with fail
    refine (below_small HD4.out 8 (by decide) (by decide)).mono ?_
    rintro e w5 ⟨k, k1, k2, rfl, hb, hd⟩
    have HB5 : Hid (But g w1 w5) := HB4.out.trans hb
    have HD5 : Hid (DrawOk w.heap.size g w5) := hd
    have N5 : Hid (NewSp w2.heap.size w5 (.slice x3 l.length c3) l) := N4.out.but2 hb G2.out
    have S25 : Hid (w2.heap.size ≤ w5.heap.size) := Nat.le_trans S24.out hb.size
    clear hb hd N4
    go_wp2_with fail
    refine (below_small HD5.out 40 (by decide) (by decide)).mono ?_
    rintro e w6 ⟨z, z1, z2, rfl, hb, hd⟩
    have HB6 : Hid (But g w1 w6) := HB5.out.trans hb
    have N6 : Hid (NewSp w2.heap.size w6 (.slice x3 l.length c3) l) := N5.out.but2 hb G2.out
    have S26 : Hid (w2.heap.size ≤ w6.heap.size) := Nat.le_trans S25.out hb.size
    clear hb hd N5
    obtain ⟨a7, c7, w7, r7, n7, b7⟩ := growS (⟨k, z⟩ : Spn) N6.out S26.out (by omega)
    have R7 : Hid (∀ ty, (Builtin.append_ #[29, 29] ty #[.slice x3 l.length c3, .slice (some ⟨w6.heap.size, 0, none⟩) 1 1]).run Tryd.prog (w6.alloc (.cells #[.int .i64 k, .int .i64 z] 40)) = .ok (.slice a7 (l.length + 1) c7) w7) := r7
    have N7 : Hid (NewSp w2.heap.size w7 (.slice a7 (l.length + 1) c7) (l ++ [⟨k, z⟩])) := n7
    have B7 : Hid (Below w.heap.size w w7) := (EN.out _ HB6.out).trans (b7.mono (Nat.le_trans HW.out.size HB2.out.size))
    have NP : Hid (SsA w7 a7 (l.length + 1) (fun i => (l ++ [(⟨k, z⟩ : Spn)]).getD i spn0)) := by
      have hp := n7.piece
      rw [show (l ++ [(⟨k, z⟩ : Spn)]).length = l.length + 1 by simp] at hp
      exact hp.ssA
    clear r7 n7 b7
    go_wp2_with (at_builtin; refine wpList_append_ty rfl _ _ 29 29 rfl _ _ _ rfl rfl (R7.out _) ?_)
    go_ret
    exact ⟨_, _, _, _, rfl, by omega, NP.out, B7.out⟩
  · have q0' : (y == 0) = false := by simp [q0]
    by_cases q1 : y = 1
    · subst q1
      have S4 : Hid (SsA w4 x3 l.length (fun i => l.getD i spn0)) := N4.out.piece.ssA
      have T4 : Hid (Below w.heap.size w w4) := EN.out _ HB4.out
      have NL : l.length ≤ 30000 := by omega
      clear N4 HB4 HD4 HB3 HD3 HB2 HD2 HW HD1 EN HS G2 S23 S24 q0 q0'
      generalize (fun i => l.getD i spn0) = E4 at *
      generalize l.length = n4 at *
      go_wp2
      go_loopw [4] (fun v wr => ∃ (x : Option Addr) (n c : Nat) (E : Nat → Spn), v = .slice x n c ∧ n ≤ 30000 ∧ SsA wr x n E ∧ Below w.heap.size w wr) (fun v _ => 70 - slen v)
      case atStart => exact ⟨_, _, _, _, rfl, NL, S4.out, T4.out⟩
      case round =>
        obtain ⟨x, n, c, E, rfl, hn, hS, hB⟩ := hrel
        have SR : Hid (SsA wr x n E) := hS
        have TR : Hid (Below w.heap.size w wr) := hB
        clear hS hB S4 T4
        by_cases hlt : (n : Int) < 70
        · obtain ⟨a7, c7, w7, r7, n7, b7⟩ := aheadS (c := c) (⟨3, 45⟩ : Spn) SR.out (by omega)
          have R7 : Hid (∀ ty, (Builtin.append_ #[29, 29] ty #[.slice (some ⟨wr.heap.size, 0, none⟩) 1 1, .slice x n c]).run Tryd.prog (wr.alloc (.cells #[.int .i64 3, .int .i64 45] 40)) = .ok (.slice a7 (n + 1) c7) w7) := r7
          have S7 : Hid (SsA w7 a7 (n + 1) (fun i => if i = 0 then (⟨3, 45⟩ : Spn) else E (i - 1))) := n7
          have B7 : Hid (Below w.heap.size w w7) := bTrans TR.out b7
          clear r7 n7 b7
          go_wp2_with (at_builtin; refine wpList_append_ty rfl _ _ 29 29 rfl _ _ _ rfl rfl (R7.out _) ?_)
          go_roundw
          case rel => exact ⟨_, _, _, _, rfl, by omega, S7.out, B7.out⟩
          case measure => simp [slen]; omega
        · have FIN : Hid (∃ (y : Option Addr) (m d : Nat) (F : Nat → Spn), Ending.returned (Value.slice x n c) = .returned (.slice y m d) ∧ m ≤ 30000 ∧ SsA wr y m F ∧ Below w.heap.size w wr) := ⟨_, _, _, _, rfl, hn, SR.out, TR.out⟩
          go_wp2
          go_ret
          first
            | exact FIN.out
            | simpa using FIN.out
    · have q1' : (y == 1) = false := by simp [q1]
      go_wp2
      go_ret
      exact ⟨_, _, _, _, rfl, by omega, N4.out.piece.ssA, EN.out _ HB4.out⟩
end Go.Proofs.YtnebjnglcfebeaaDoor
namespace Go.Proofs.YtnebjnglcfebeaaDoor
set_option linter.unusedVariables false
set_option linter.unusedSimpArgs false
/-- One list of tokens stands one behind in the other; behind it there is nothing, or what closes a bracket. -/
structure Shft (n n' : Nat) (T T' : Nat → Spn) : Prop where
  len : n < n'
  same : ∀ p, p < n → T' (p + 1) = T p
  out : ∀ p, n ≤ p → tkK n' T' (p + 1) = 0 ∨ tkK n' T' (p + 1) = 5
section
variable {n n' : Nat} {T T' : Nat → Spn}
theorem Shft.kin (h : Shft n n' T T') {p : Nat} (hp : p < n) : tkK n' T' (p + 1) = tkK n T p := by
  rw [tkK_at hp, tkK_at (by have := h.len; omega), h.same p hp]
theorem Shft.nin (h : Shft n n' T T') {p : Nat} (hp : p < n) : tkN n' T' (p + 1) = tkN n T p := by
  rw [tkN_at hp, tkN_at (by have := h.len; omega), h.same p hp]
theorem Shft.iff (h : Shft n n' T T') {c : Int} (h0 : c ≠ 0) (h5 : c ≠ 5) (p : Nat) : tkK n' T' (p + 1) = c ↔ tkK n T p = c := by
  by_cases hp : p < n
  · rw [h.kin hp]
  · rw [tkK_out (n := n) (T := T) (by omega)]
    rcases h.out p (by omega) with e | e
    · rw [e]
    · rw [e]; constructor
      · intro q; exact absurd q.symm h5
      · intro q; exact absurd q.symm h0
theorem Shft.five (h : Shft n n' T T') {p : Nat} (hp : tkK n T p = 5) : tkK n' T' (p + 1) = 5 := by
  rw [h.kin (tkK_in (n := n) (T := T) (by omega))]; exact hp
theorem Shft.fn (h : Shft n n' T T') {p : Nat} (hp : tkK n T p = 3) : funP n' T' (p + 1) = ((funP n T p).1, (funP n T p).2 + 1) := by
  have e0 := h.nin (tkK_in (n := n) (T := T) (p := p) (by omega))
  have k1 := h.iff (c := 3) (by decide) (by decide) (p + 1)
  have k2 := h.iff (c := 3) (by decide) (by decide) (p + 2)
  have s1 : p + 1 + 1 = p + 2 := rfl
  have s2 : p + 1 + 2 = p + 2 + 1 := rfl
  unfold funP
  rw [e0, s2]
  by_cases h1 : tkK n T (p + 1) = 3
  · have e1 := h.nin (tkK_in (n := n) (T := T) (p := p + 1) (by omega))
    rw [if_neg (show ¬ tkK n T (p + 1) ≠ 3 by simpa using h1), if_neg (show ¬ tkK n' T' (p + 1 + 1) ≠ 3 by simpa using k1.2 h1), e1]
    by_cases h2 : tkN n T p = 111
    · rw [if_pos h2, if_pos h2]
    · rw [if_neg h2, if_neg h2]
      by_cases h3 : tkN n T (p + 1) = 47 ∨ tkN n T (p + 1) = 92
      · rw [if_pos h3, if_pos h3]
      · rw [if_neg h3, if_neg h3]
        by_cases h4 : tkN n T (p + 1) = 46 ∧ tkK n T (p + 2) = 3
        · have e2 := h.nin (tkK_in (n := n) (T := T) (p := p + 2) (by omega))
          rw [if_pos h4, if_pos (show tkN n T (p + 1) = 46 ∧ tkK n' T' (p + 2 + 1) = 3 from ⟨h4.1, k2.2 h4.2⟩), e2]
        · rw [if_neg h4, if_neg (show ¬ (tkN n T (p + 1) = 46 ∧ tkK n' T' (p + 2 + 1) = 3) from fun q => h4 ⟨q.1, k2.1 q.2⟩)]
  · rw [if_pos (show tkK n T (p + 1) ≠ 3 from h1), if_pos (show tkK n' T' (p + 1 + 1) ≠ 3 from fun q => h1 (k1.1 q))]
theorem Shft.run (h : Shft n n' T T') (p : Nat) : runN n' T' (n' - (p + 1)) (p + 1) = runN n T (n - p) p := by
  obtain ⟨q1, q2⟩ := runN_facts (n := n) (T := T) (n - p) p (by omega)
  refine runN_is (fun j hj => ?_) ?_
  · rw [show p + 1 + j = p + j + 1 by omega]
    exact (h.iff (by decide) (by decide) _).2 (q1 j hj)
  · rw [show p + 1 + runN n T (n - p) p = p + runN n T (n - p) p + 1 by omega]
    exact fun q => q2 ((h.iff (by decide) (by decide) _).1 q)
theorem Shft.nums (h : Shft n n' T T') (p : Nat) : numsP n' T' (p + 1) (runN n T (n - p) p) = numsP n T p (runN n T (n - p) p) := by
  obtain ⟨q1, q2⟩ := runN_facts (n := n) (T := T) (n - p) p (by omega)
  unfold numsP
  refine List.map_congr_left fun j hj => ?_
  rw [show p + 1 + j = p + j + 1 by omega]
  exact h.nin (tkK_in (n := n) (T := T) (by rw [q1 j (List.mem_range.1 hj)]; decide))
theorem Shft.oper (h : Shft n n' T T') {f f' : Nat → Option (Br × Nat)} {p : Nat} (hf : ∀ x, f (p + 1) = some x → f' (p + 2) = some (x.1, x.2 + 1)) {x : Br × Nat} (hx : operP n T f p = some x) : operP n' T' f' (p + 1) = some (x.1, x.2 + 1) := by
  unfold operP at hx ⊢
  by_cases h1 : tkK n T p = 1
  · rw [if_pos h1] at hx
    rw [if_pos ((h.iff (by decide) (by decide) p).2 h1), h.run p, h.nums p]
    cases hx
    simp only [Option.some.injEq, Prod.mk.injEq, true_and]
    omega
  · rw [if_neg h1] at hx
    rw [if_neg (fun q => h1 ((h.iff (by decide) (by decide) p).1 q))]
    by_cases h2 : tkK n T p = 2
    · rw [if_pos h2] at hx
      rw [if_pos ((h.iff (by decide) (by decide) p).2 h2), h.nin (tkK_in (n := n) (T := T) (by omega))]
      cases hx
      rfl
    · rw [if_neg h2] at hx
      rw [if_neg (fun q => h2 ((h.iff (by decide) (by decide) p).1 q))]
      by_cases h4 : tkK n T p = 4
      · rw [if_pos h4] at hx
        rw [if_pos ((h.iff (by decide) (by decide) p).2 h4)]
        cases hl : f (p + 1) with
        | none => rw [hl] at hx; cases hx
        | some y =>
          rw [hl] at hx
          simp only at hx
          rw [show p + 1 + 1 = p + 2 by omega, hf y hl]
          simp only
          by_cases h5 : tkK n T y.2 = 5
          · rw [if_pos h5] at hx
            rw [if_pos (h.five h5)]
            cases hx
            rfl
          · rw [if_neg h5] at hx; cases hx
      · rw [if_neg h4] at hx; cases hx
theorem Shft.line (h : Shft n n' T T') : ∀ (k k' p : Nat) (x : Br × Nat), k ≤ k' → lineP n T k p = some x → lineP n' T' k' (p + 1) = some (x.1, x.2 + 1)
  | 0, k', p, x, hk, hx => by cases hx
  | k + 1, 0, p, x, hk, hx => absurd hk (by omega)
  | k + 1, k' + 1, p, x, hk, hx => by
    have IH := fun q y => Shft.line h k k' q y (by omega)
    unfold lineP at hx ⊢
    by_cases h1 : tkK n T p = 2 ∧ tkK n T (p + 1) = 6
    · rw [if_pos h1] at hx
      rw [if_pos (show tkK n' T' (p + 1) = 2 ∧ tkK n' T' (p + 1 + 1) = 6 from ⟨(h.iff (by decide) (by decide) p).2 h1.1, (h.iff (by decide) (by decide) (p + 1)).2 h1.2⟩)]
      cases hl : lineP n T k (p + 2) with
      | none => rw [hl] at hx; cases hx
      | some y =>
        rw [hl] at hx
        rw [show p + 1 + 2 = p + 2 + 1 by omega, IH _ _ hl, h.nin (tkK_in (n := n) (T := T) (by omega))]
        cases hx
        rfl
    · rw [if_neg h1] at hx
      rw [if_neg (show ¬ (tkK n' T' (p + 1) = 2 ∧ tkK n' T' (p + 1 + 1) = 6) from fun q => h1 ⟨(h.iff (by decide) (by decide) p).1 q.1, (h.iff (by decide) (by decide) (p + 1)).1 q.2⟩)]
      by_cases h3 : tkK n T p = 3
      · rw [if_pos h3] at hx
        rw [if_pos ((h.iff (by decide) (by decide) p).2 h3), h.fn h3]
        simp only
        split at hx
        · rename_i hq
          rw [if_pos hq]
          cases hl : lineP n T k (funP n T p).2 with
          | none => rw [hl] at hx; cases hx
          | some y =>
            rw [hl] at hx
            rw [IH _ _ hl]
            cases hx
            rfl
        · cases hx
      · rw [if_neg h3] at hx
        rw [if_neg (fun q => h3 ((h.iff (by decide) (by decide) p).1 q))]
        cases ho : operP n T (fun q => lineP n T k q) p with
        | none => rw [ho] at hx; cases hx
        | some y =>
          rw [ho] at hx
          rw [h.oper (f' := fun q => lineP n' T' k' q) (fun z hz => IH (p + 1) z hz) ho]
          simp only at hx ⊢
          by_cases h6 : tkK n T y.2 = 3
          · rw [if_pos h6] at hx
            rw [if_pos ((h.iff (by decide) (by decide) y.2).2 h6), h.fn h6]
            simp only
            split at hx
            · rename_i hq
              rw [if_pos hq]
              cases hl : lineP n T k (funP n T y.2).2 with
              | none => rw [hl] at hx; cases hx
              | some z =>
                rw [hl] at hx
                rw [IH _ _ hl]
                cases hx
                rfl
            · cases hx
          · rw [if_neg h6] at hx
            rw [if_neg (fun q => h6 ((h.iff (by decide) (by decide) y.2).1 q))]
            cases hx
            rfl
end
theorem tokAll_of {E : Nat → Spn} : ∀ {n : Nat}, (∀ i, i < n → tokB (E i).f (E i).t = true) → tokAll E n = true
  | 0, _ => rfl
  | n + 1, h => by
    simp only [tokAll, Bool.and_eq_true]
    exact ⟨tokAll_of fun i hi => h i (by omega), h n (by omega)⟩
/-- A list in brackets; a list behind an open one. -/
def brIn (n : Nat) (T : Nat → Spn) (i : Nat) : Spn := if i = 0 then ⟨4, 0⟩ else if i ≤ n then T (i - 1) else ⟨5, 0⟩
theorem parC_fine {n : Nat} {T : Nat → Spn} (h : (parC n T).1 = 0) : tokR n T = true ∧ ∃ x : Br, lineP n T (n + 1) 0 = some (x, n) ∧ x.size ≤ 60 ∧ parC n T = (0, x.flat 0) := by
  unfold parC at h ⊢
  by_cases hr : tokR n T = true
  · rw [if_pos hr] at h ⊢
    cases hl : lineP n T (n + 1) 0 with
    | none => rw [hl] at h; exact absurd (show (8 : Int) = 0 from h) (by decide)
    | some x =>
      rw [hl] at h
      simp only at h ⊢
      by_cases h1 : x.2 = n
      · rw [if_pos h1] at h ⊢
        by_cases h2 : x.1.size ≤ 60
        · rw [if_pos h2]
          exact ⟨hr, x.1, by rw [← h1], h2, rfl⟩
        · rw [if_neg h2] at h; exact absurd (show (6 : Int) = 0 from h) (by decide)
      · rw [if_neg h1] at h; exact absurd (show (8 : Int) = 0 from h) (by decide)
  · rw [if_neg hr] at h; exact absurd (show (1 : Int) = 0 from h) (by decide)
theorem tokR_parts {n : Nat} {T : Nat → Spn} (h : tokR n T = true) : tokAll T n = true ∧ n ≤ 300 := by
  unfold tokR at h
  simpa only [Bool.and_eq_true, decide_eq_true_eq] using h
theorem shft_in {n m : Nat} {T : Nat → Spn} (hm : m = n + 1 ∨ m = n + 2) : Shft n m T (brIn n T) where
  len := by omega
  same p hp := by unfold brIn; rw [if_neg (by omega), if_pos (by omega), Nat.add_sub_cancel]
  out p hp := by
    by_cases e : p + 1 < m
    · rw [tkK_at e]
      right
      unfold brIn
      rw [if_neg (by omega), if_neg (by omega)]
    · left
      exact tkK_out (by omega)
theorem brIn_ok {n : Nat} {T : Nat → Spn} (h : tokAll T n = true) (m : Nat) : tokAll (brIn n T) m = true := by
  refine tokAll_of fun i hi => ?_
  unfold brIn
  by_cases e0 : i = 0
  · rw [if_pos e0]; rfl
  · rw [if_neg e0]
    by_cases e1 : i ≤ n
    · rw [if_pos e1]; exact tokAll_at h (by omega)
    · rw [if_neg e1]; rfl
theorem line_in {n m : Nat} {T : Nat → Spn} {x : Br} (hm : m = n + 1 ∨ m = n + 2) (hl : lineP n T (n + 1) 0 = some (x, n)) : lineP m (brIn n T) (m + 1) 0 = if m = n + 2 then some (x, n + 2) else none := by
  have L := (shft_in (T := T) hm).line (n + 1) m 0 (x, n) (by omega) hl
  have k0 : tkK m (brIn n T) 0 = 4 := by rw [tkK_at (by omega)]; rfl
  have O : operP m (brIn n T) (fun q => lineP m (brIn n T) m q) 0 = if m = n + 2 then some (x, n + 2) else none := by
    unfold operP
    rw [k0, if_neg (by decide), if_neg (by decide), if_pos rfl]
    simp only [Nat.zero_add] at L ⊢
    rw [L]
    simp only
    rcases hm with rfl | rfl
    · rw [tkK_out (by omega), if_neg (by decide), if_neg (by omega)]
    · rw [tkK_at (by omega), if_pos rfl]
      have e : (brIn n T (n + 1)).f = 5 := by unfold brIn; rw [if_neg (by omega), if_neg (by omega)]
      rw [if_pos e]
  unfold lineP
  rw [k0, if_neg (show ¬ ((4 : Int) = 2 ∧ tkK m (brIn n T) (0 + 1) = 6) from fun q => absurd q.1 (by decide)), if_neg (by decide), O]
  rcases hm with rfl | rfl
  · rw [if_neg (by omega)]
  · rw [if_pos rfl]
    simp only
    rw [tkK_out (Nat.le_refl _), if_neg (by decide)]
/-- In brackets it is the same tree. -/
theorem parC_in {n : Nat} {T : Nat → Spn} (h : (parC n T).1 = 0) (hn : n ≤ 298) : parC (n + 2) (brIn n T) = (0, (parC n T).2) := by
  obtain ⟨hr, x, hl, hs, he⟩ := parC_fine h
  obtain ⟨ha, hb⟩ := tokR_parts hr
  rw [he]
  unfold parC
  rw [if_pos (show tokR (n + 2) (brIn n T) = true by unfold tokR; rw [brIn_ok ha]; simp; omega), line_in (.inr rfl) hl, if_pos rfl]
  simp only
  rw [if_pos trivial, if_pos hs]
/-- Never closed it is none. -/
theorem parC_open {n : Nat} {T : Nat → Spn} (h : (parC n T).1 = 0) (hn : n ≤ 298) : parC (n + 1) (brIn n T) = (8, []) := by
  obtain ⟨hr, x, hl, hs, he⟩ := parC_fine h
  obtain ⟨ha, hb⟩ := tokR_parts hr
  unfold parC
  rw [if_pos (show tokR (n + 1) (brIn n T) = true by unfold tokR; rw [brIn_ok ha]; simp; omega), line_in (.inl rfl) hl, if_neg (by omega)]
end Go.Proofs.YtnebjnglcfebeaaDoor
namespace Go.Proofs.YtnebjnglcfebeaaDoor
open Go.RowKit
set_option linter.unusedVariables false
set_option linter.unusedSimpArgs false
theorem behindS {w : World} {x : Option Addr} {n c : Nat} {E : Nat → Spn} (t : Spn) (h : SsA w x n E) (hn : n ≤ 100000) :
    ∃ a1 c1 w1, (∀ ty, (Builtin.append_ #[29, 29] ty #[.slice (some ⟨w.heap.size, 0, none⟩) 0 0, .slice x n c]).run Tryd.prog (w.alloc (.cells #[] 40)) = .ok (.slice a1 n c1) w1) ∧ Below w.heap.size w w1 ∧
    ∃ a2 c2 w2, (∀ ty, (Builtin.append_ #[29, 29] ty #[.slice a1 n c1, .slice (some ⟨w1.heap.size, 0, none⟩) 1 1]).run Tryd.prog (w1.alloc (.cells #[.int .i64 t.f, .int .i64 t.t] 40)) = .ok (.slice a2 (n + 1) c2) w2) ∧ SsA w2 a2 (n + 1) (fun i => if i < n then E i else t) ∧ Below w.heap.size w w2 := by
  have hb : Below w.heap.size w (w.alloc (.cells #[] 40)) := bAlloc (Below.refl _ _) _
  have h1 : SsA (w.alloc (.cells #[] 40)) x n E := h.keep hb
  have L := NewSp.lit (B := w.heap.size) (l := []) (heap_alloc_new w (.cells #[] 40)) rfl (Nat.le_refl _) (by simp)
  have e : ∀ i, i < n → (((List.range n).map E).getD i spn0) = E i := fun i hi => by rw [List.getD_eq_getElem?_getD]; simp [hi]
  obtain ⟨l, hl⟩ : ∃ l, l = (List.range n).map E := ⟨_, rfl⟩
  have hn2 : l.length = n := by rw [hl]; simp
  obtain ⟨a1, c1, w1, r, hN, hB⟩ := growSL (c2 := c) (b := x) l L (by rw [hn2, hl]; exact h1.congr fun i hi => (e i hi)) hb.size (by rw [hn2]; simp; omega)
  rw [List.nil_append, hn2] at hN
  rw [List.nil_append] at r
  have B1 : Below w.heap.size w w1 := hb.trans hB
  refine ⟨a1, c1, w1, fun ty => ?_, B1, ?_⟩
  · have := r ty
    rw [hn2] at this
    exact this
  · rw [← hn2] at hN
    obtain ⟨a2, c2, w2, r2, hN2, hB2⟩ := growS t hN B1.size (by omega)
    refine ⟨a2, c2, w2, fun ty => ?_, ?_, B1.trans hB2⟩
    · have := r2 ty
      rw [hn2] at this
      exact this
    · have hp := hN2.piece
      rw [show (l ++ [t]).length = n + 1 by rw [List.length_append, hn2]; rfl, hn2] at hp
      refine hp.ssA.congr fun i hi => ?_
      rw [List.getD_eq_getElem?_getD]
      by_cases e0 : i < n
      · rw [if_pos e0, List.getElem?_append_left (by omega), ← List.getD_eq_getElem?_getD, hl]
        exact (e i e0).symm
      · obtain rfl : i = n := by omega
        rw [if_neg e0, List.getElem?_append_right (by omega), hn2]
        simp
end Go.Proofs.YtnebjnglcfebeaaDoor
namespace Go.Proofs.YtnebjnglcfebeaaDoor
open Go.RowKit
set_option linter.unusedVariables false
set_option linter.unusedSimpArgs false
theorem sameIntsI {V : World} {a b : Option Addr} {c d : Nat} {l : List Int} (h : IntsI V (.slice a l.length c) l) (k : IntsI V (.slice b l.length d) l) (hl : l.length ≤ 1048576) :
    Calls Tryd.prog 32 #[.slice a l.length c, .slice b l.length d] V fun e w' => e = .returned (.bool true) ∧ Below V.heap.size V w' := by
  obtain ⟨_, _, e, _, i1⟩ := h
  cases e
  obtain ⟨_, _, e, _, i2⟩ := k
  cases e
  refine (same_ints _ _ (by omega) i1 i2).mono ?_
  rintro e w' ⟨rfl, j, rfl⟩
  exact ⟨by simp, ⟨rfl, rfl, rfl, Nat.le_refl _, fun _ _ => rfl⟩⟩
set_option maxRecDepth 20000 in
set_option maxHeartbeats 8000000 in
theorem sameTree_true {w : World} {v u : Value} {n : Nat} {E : Nat → Nat → Int} {N : Nat → List Int} (h : ExprsI w v n E N) (k : ExprsI w u n E N) (hl : ∀ i, (N i).length ≤ 1048576) (hn : n ≤ 1048576) :
    Calls Tryd.prog 16 #[.agg #[v], .agg #[u]] w fun r w' => r = .returned (.bool true) ∧ Below w.heap.size w w' := by
  have H : Hid (ExprsI w v n E N) := h
  have K : Hid (ExprsI w u n E N) := k
  have HL : Hid (∀ i, (N i).length ≤ 1048576) := hl
  obtain ⟨a, c, rfl, _⟩ := h
  obtain ⟨a', c', rfl, _⟩ := k
  have nn : ((n : Int) != (n : Int)) = false := by simp
  clear hl
  go_enter Tryd.func16, Tryd.ntmps16
  have q := two_blocks9 w (.cells #[.slice a n c] 26) (.cells #[.slice a' n c'] 26)
  have X : Hid (∀ W, Below (w.heap.size + 2) ((w.alloc (.cells #[.slice a n c] 26)).alloc (.cells #[.slice a' n c'] 26)) W → W.cell? ⟨w.heap.size, 0, none⟩ = some (.slice a n c) ∧ W.cell? ⟨w.heap.size + 1, 0, none⟩ = some (.slice a' n c') ∧ Below w.heap.size w W) := fun W hW =>
    ⟨(hW.cell (p := ⟨w.heap.size, 0, none⟩) (by simp)).trans (cell_at q.1 rfl), (hW.cell (p := ⟨w.heap.size + 1, 0, none⟩) (by simp)).trans (cell_at q.2 rfl), two_below.trans (hW.mono (by omega))⟩
  go_wp2_with fail
  have Z : ((w.alloc (.cells #[.slice a n c] 26)).alloc (.cells #[.slice a' n c'] 26)).heap.size = w.heap.size + 2 := by simp
  generalize (w.alloc (.cells #[.slice a n c] 26)).alloc (.cells #[.slice a' n c'] 26) = W0 at *
  go_loopw [5] (fun i w' => ∃ k : Nat, k ≤ n ∧ i = .int .i64 (k : Int) ∧ Below (w.heap.size + 2) W0 w') (fun i _ => n - (intOf i).toNat)
  case atStart => exact ⟨0, by omega, rfl, Below.refl _ _⟩
  case round =>
    obtain ⟨k, hk, rfl, hb⟩ := hrel
    have HB : Hid (Below (w.heap.size + 2) W0 wr) := hb
    have ZR : Hid (w.heap.size + 2 ≤ wr.heap.size) := by show _ ≤ _; have := hb.size; omega
    obtain ⟨t0, t1, tb⟩ := X.out wr hb
    have TB : Hid (Below w.heap.size w wr) := tb
    clear hb q tb Z
    by_cases hlt : (k : Int) < (n : Int)
    · have L : k < n := by omega
      obtain ⟨o, off, xa, xc, rfl, ho, ⟨p0, p1, p2, p3, p4, p5, p6⟩, ar⟩ := (H.out.keep TB.out).at L
      obtain ⟨o', off', xa', xc', rfl, ho', ⟨q0, q1, q2, q3, q4, q5, q6⟩, ar'⟩ := (K.out.keep TB.out).at L
      have AR : Hid (IntsI wr (.slice xa (N k).length xc) (N k)) := ar
      have AK : Hid (IntsI wr (.slice xa' (N k).length xc') (N k)) := ar'
      have LL : Hid ((N k).length ≤ 1048576) := HL.out k
      have HO : Hid (o < wr.heap.size ∧ o' < wr.heap.size) := ⟨ho, ho'⟩
      clear ar ar' ho ho'
      generalize N k = l at *
      generalize E k = e at *
      have b0 : ∀ x : Int, (x != x) = false := fun x => by simp
      have b1 : ∀ x : Int, (x == x) = true := fun x => by simp
      have SK : ∀ W, Below wr.heap.size wr W → (W.cell? ⟨o, off + k * 7, none⟩ = some (.int .i64 (e 0)) ∧ W.cell? ⟨o, off + k * 7 + 1, none⟩ = some (.int .i64 (e 1)) ∧ W.cell? ⟨o, off + k * 7 + 2, none⟩ = some (.int .i64 (e 2)) ∧ W.cell? ⟨o, off + k * 7 + 3, none⟩ = some (.int .i64 (e 3)) ∧ W.cell? ⟨o, off + k * 7 + 4, none⟩ = some (.int .i64 (e 4)) ∧ W.cell? ⟨o, off + k * 7 + 5, none⟩ = some (.int .i64 (e 5)) ∧ W.cell? ⟨o, off + k * 7 + 6, none⟩ = some (.slice xa l.length xc)) ∧ (W.cell? ⟨o', off' + k * 7, none⟩ = some (.int .i64 (e 0)) ∧ W.cell? ⟨o', off' + k * 7 + 1, none⟩ = some (.int .i64 (e 1)) ∧ W.cell? ⟨o', off' + k * 7 + 2, none⟩ = some (.int .i64 (e 2)) ∧ W.cell? ⟨o', off' + k * 7 + 3, none⟩ = some (.int .i64 (e 3)) ∧ W.cell? ⟨o', off' + k * 7 + 4, none⟩ = some (.int .i64 (e 4)) ∧ W.cell? ⟨o', off' + k * 7 + 5, none⟩ = some (.int .i64 (e 5)) ∧ W.cell? ⟨o', off' + k * 7 + 6, none⟩ = some (.slice xa' l.length xc')) ∧ W.cell? ⟨w.heap.size, 0, none⟩ = some (.slice (some ⟨o, off, none⟩) n c) ∧ W.cell? ⟨w.heap.size + 1, 0, none⟩ = some (.slice (some ⟨o', off', none⟩) n c') := fun W hb =>
        have e1 : ∀ j, W.cell? ⟨o, j, none⟩ = wr.cell? ⟨o, j, none⟩ := fun j => hb.cell (p := ⟨o, j, none⟩) HO.out.1
        have e2 : ∀ j, W.cell? ⟨o', j, none⟩ = wr.cell? ⟨o', j, none⟩ := fun j => hb.cell (p := ⟨o', j, none⟩) HO.out.2
        ⟨⟨(e1 _).trans p0, (e1 _).trans p1, (e1 _).trans p2, (e1 _).trans p3, (e1 _).trans p4, (e1 _).trans p5, (e1 _).trans p6⟩, ⟨(e2 _).trans q0, (e2 _).trans q1, (e2 _).trans q2, (e2 _).trans q3, (e2 _).trans q4, (e2 _).trans q5, (e2 _).trans q6⟩, (hb.cell (p := ⟨w.heap.size, 0, none⟩) (by have := ZR.out; show _ < _; dsimp only; omega)).trans t0, (hb.cell (p := ⟨w.heap.size + 1, 0, none⟩) (by have := ZR.out; show _ < _; dsimp only; omega)).trans t1⟩
      have SKH : Hid (∀ W, Below wr.heap.size wr W → _) := SK
      clear SK
      go_wp2_with fail
      go_region_held3 (fun w' => (w'.cell? ⟨o, off + k * 7, none⟩ = some (.int .i64 (e 0)) ∧ w'.cell? ⟨o, off + k * 7 + 1, none⟩ = some (.int .i64 (e 1)) ∧ w'.cell? ⟨o, off + k * 7 + 2, none⟩ = some (.int .i64 (e 2)) ∧ w'.cell? ⟨o, off + k * 7 + 3, none⟩ = some (.int .i64 (e 3)) ∧ w'.cell? ⟨o, off + k * 7 + 4, none⟩ = some (.int .i64 (e 4)) ∧ w'.cell? ⟨o, off + k * 7 + 5, none⟩ = some (.int .i64 (e 5)) ∧ w'.cell? ⟨o, off + k * 7 + 6, none⟩ = some (.slice xa l.length xc)) ∧ (w'.cell? ⟨o', off' + k * 7, none⟩ = some (.int .i64 (e 0)) ∧ w'.cell? ⟨o', off' + k * 7 + 1, none⟩ = some (.int .i64 (e 1)) ∧ w'.cell? ⟨o', off' + k * 7 + 2, none⟩ = some (.int .i64 (e 2)) ∧ w'.cell? ⟨o', off' + k * 7 + 3, none⟩ = some (.int .i64 (e 3)) ∧ w'.cell? ⟨o', off' + k * 7 + 4, none⟩ = some (.int .i64 (e 4)) ∧ w'.cell? ⟨o', off' + k * 7 + 5, none⟩ = some (.int .i64 (e 5)) ∧ w'.cell? ⟨o', off' + k * 7 + 6, none⟩ = some (.slice xa' l.length xc')) ∧ w'.cell? ⟨w.heap.size, 0, none⟩ = some (.slice (some ⟨o, off, none⟩) n c) ∧ w'.cell? ⟨w.heap.size + 1, 0, none⟩ = some (.slice (some ⟨o', off', none⟩) n c'))
        ((refine SKH.out _ ?_; (repeat first | with_reducible exact Below.refl _ _ | with_reducible refine Below.drew ?_ | with_reducible refine bAlloc ?_ _)))
        (fail)
      · have q2 := two_blocks9 wr (.cells #[.int .i64 (e 0), .int .i64 (e 1), .int .i64 (e 2), .int .i64 (e 3), .int .i64 (e 4), .int .i64 (e 5), .slice xa l.length xc] 67) (.cells #[.int .i64 (e 0), .int .i64 (e 1), .int .i64 (e 2), .int .i64 (e 3), .int .i64 (e 4), .int .i64 (e 5), .slice xa' l.length xc'] 67)
        have BB : Hid (Below wr.heap.size wr ((wr.alloc (.cells #[.int .i64 (e 0), .int .i64 (e 1), .int .i64 (e 2), .int .i64 (e 3), .int .i64 (e 4), .int .i64 (e 5), .slice xa l.length xc] 67)).alloc (.cells #[.int .i64 (e 0), .int .i64 (e 1), .int .i64 (e 2), .int .i64 (e 3), .int .i64 (e 4), .int .i64 (e 5), .slice xa' l.length xc'] 67)).drew) := (bAlloc (bAlloc (Below.refl _ _) _) _).drew
        have x0 : ((wr.alloc (.cells #[.int .i64 (e 0), .int .i64 (e 1), .int .i64 (e 2), .int .i64 (e 3), .int .i64 (e 4), .int .i64 (e 5), .slice xa l.length xc] 67)).alloc (.cells #[.int .i64 (e 0), .int .i64 (e 1), .int .i64 (e 2), .int .i64 (e 3), .int .i64 (e 4), .int .i64 (e 5), .slice xa' l.length xc'] 67)).drew.cell? ⟨wr.heap.size, 0, none⟩ = some (.int .i64 (e 0)) := cell_at (w := ((wr.alloc (.cells #[.int .i64 (e 0), .int .i64 (e 1), .int .i64 (e 2), .int .i64 (e 3), .int .i64 (e 4), .int .i64 (e 5), .slice xa l.length xc] 67)).alloc (.cells #[.int .i64 (e 0), .int .i64 (e 1), .int .i64 (e 2), .int .i64 (e 3), .int .i64 (e 4), .int .i64 (e 5), .slice xa' l.length xc'] 67)).drew) q2.1 rfl
        have y0 : ((wr.alloc (.cells #[.int .i64 (e 0), .int .i64 (e 1), .int .i64 (e 2), .int .i64 (e 3), .int .i64 (e 4), .int .i64 (e 5), .slice xa l.length xc] 67)).alloc (.cells #[.int .i64 (e 0), .int .i64 (e 1), .int .i64 (e 2), .int .i64 (e 3), .int .i64 (e 4), .int .i64 (e 5), .slice xa' l.length xc'] 67)).drew.cell? ⟨wr.heap.size + 1, 0, none⟩ = some (.int .i64 (e 0)) := cell_at (w := ((wr.alloc (.cells #[.int .i64 (e 0), .int .i64 (e 1), .int .i64 (e 2), .int .i64 (e 3), .int .i64 (e 4), .int .i64 (e 5), .slice xa l.length xc] 67)).alloc (.cells #[.int .i64 (e 0), .int .i64 (e 1), .int .i64 (e 2), .int .i64 (e 3), .int .i64 (e 4), .int .i64 (e 5), .slice xa' l.length xc'] 67)).drew) q2.2 rfl
        have x1 : ((wr.alloc (.cells #[.int .i64 (e 0), .int .i64 (e 1), .int .i64 (e 2), .int .i64 (e 3), .int .i64 (e 4), .int .i64 (e 5), .slice xa l.length xc] 67)).alloc (.cells #[.int .i64 (e 0), .int .i64 (e 1), .int .i64 (e 2), .int .i64 (e 3), .int .i64 (e 4), .int .i64 (e 5), .slice xa' l.length xc'] 67)).drew.cell? ⟨wr.heap.size, 1, none⟩ = some (.int .i64 (e 1)) := cell_at (w := ((wr.alloc (.cells #[.int .i64 (e 0), .int .i64 (e 1), .int .i64 (e 2), .int .i64 (e 3), .int .i64 (e 4), .int .i64 (e 5), .slice xa l.length xc] 67)).alloc (.cells #[.int .i64 (e 0), .int .i64 (e 1), .int .i64 (e 2), .int .i64 (e 3), .int .i64 (e 4), .int .i64 (e 5), .slice xa' l.length xc'] 67)).drew) q2.1 rfl
        have y1 : ((wr.alloc (.cells #[.int .i64 (e 0), .int .i64 (e 1), .int .i64 (e 2), .int .i64 (e 3), .int .i64 (e 4), .int .i64 (e 5), .slice xa l.length xc] 67)).alloc (.cells #[.int .i64 (e 0), .int .i64 (e 1), .int .i64 (e 2), .int .i64 (e 3), .int .i64 (e 4), .int .i64 (e 5), .slice xa' l.length xc'] 67)).drew.cell? ⟨wr.heap.size + 1, 1, none⟩ = some (.int .i64 (e 1)) := cell_at (w := ((wr.alloc (.cells #[.int .i64 (e 0), .int .i64 (e 1), .int .i64 (e 2), .int .i64 (e 3), .int .i64 (e 4), .int .i64 (e 5), .slice xa l.length xc] 67)).alloc (.cells #[.int .i64 (e 0), .int .i64 (e 1), .int .i64 (e 2), .int .i64 (e 3), .int .i64 (e 4), .int .i64 (e 5), .slice xa' l.length xc'] 67)).drew) q2.2 rfl
        have x2 : ((wr.alloc (.cells #[.int .i64 (e 0), .int .i64 (e 1), .int .i64 (e 2), .int .i64 (e 3), .int .i64 (e 4), .int .i64 (e 5), .slice xa l.length xc] 67)).alloc (.cells #[.int .i64 (e 0), .int .i64 (e 1), .int .i64 (e 2), .int .i64 (e 3), .int .i64 (e 4), .int .i64 (e 5), .slice xa' l.length xc'] 67)).drew.cell? ⟨wr.heap.size, 2, none⟩ = some (.int .i64 (e 2)) := cell_at (w := ((wr.alloc (.cells #[.int .i64 (e 0), .int .i64 (e 1), .int .i64 (e 2), .int .i64 (e 3), .int .i64 (e 4), .int .i64 (e 5), .slice xa l.length xc] 67)).alloc (.cells #[.int .i64 (e 0), .int .i64 (e 1), .int .i64 (e 2), .int .i64 (e 3), .int .i64 (e 4), .int .i64 (e 5), .slice xa' l.length xc'] 67)).drew) q2.1 rfl
        have y2 : ((wr.alloc (.cells #[.int .i64 (e 0), .int .i64 (e 1), .int .i64 (e 2), .int .i64 (e 3), .int .i64 (e 4), .int .i64 (e 5), .slice xa l.length xc] 67)).alloc (.cells #[.int .i64 (e 0), .int .i64 (e 1), .int .i64 (e 2), .int .i64 (e 3), .int .i64 (e 4), .int .i64 (e 5), .slice xa' l.length xc'] 67)).drew.cell? ⟨wr.heap.size + 1, 2, none⟩ = some (.int .i64 (e 2)) := cell_at (w := ((wr.alloc (.cells #[.int .i64 (e 0), .int .i64 (e 1), .int .i64 (e 2), .int .i64 (e 3), .int .i64 (e 4), .int .i64 (e 5), .slice xa l.length xc] 67)).alloc (.cells #[.int .i64 (e 0), .int .i64 (e 1), .int .i64 (e 2), .int .i64 (e 3), .int .i64 (e 4), .int .i64 (e 5), .slice xa' l.length xc'] 67)).drew) q2.2 rfl
        have x3 : ((wr.alloc (.cells #[.int .i64 (e 0), .int .i64 (e 1), .int .i64 (e 2), .int .i64 (e 3), .int .i64 (e 4), .int .i64 (e 5), .slice xa l.length xc] 67)).alloc (.cells #[.int .i64 (e 0), .int .i64 (e 1), .int .i64 (e 2), .int .i64 (e 3), .int .i64 (e 4), .int .i64 (e 5), .slice xa' l.length xc'] 67)).drew.cell? ⟨wr.heap.size, 3, none⟩ = some (.int .i64 (e 3)) := cell_at (w := ((wr.alloc (.cells #[.int .i64 (e 0), .int .i64 (e 1), .int .i64 (e 2), .int .i64 (e 3), .int .i64 (e 4), .int .i64 (e 5), .slice xa l.length xc] 67)).alloc (.cells #[.int .i64 (e 0), .int .i64 (e 1), .int .i64 (e 2), .int .i64 (e 3), .int .i64 (e 4), .int .i64 (e 5), .slice xa' l.length xc'] 67)).drew) q2.1 rfl
        have y3 : ((wr.alloc (.cells #[.int .i64 (e 0), .int .i64 (e 1), .int .i64 (e 2), .int .i64 (e 3), .int .i64 (e 4), .int .i64 (e 5), .slice xa l.length xc] 67)).alloc (.cells #[.int .i64 (e 0), .int .i64 (e 1), .int .i64 (e 2), .int .i64 (e 3), .int .i64 (e 4), .int .i64 (e 5), .slice xa' l.length xc'] 67)).drew.cell? ⟨wr.heap.size + 1, 3, none⟩ = some (.int .i64 (e 3)) := cell_at (w := ((wr.alloc (.cells #[.int .i64 (e 0), .int .i64 (e 1), .int .i64 (e 2), .int .i64 (e 3), .int .i64 (e 4), .int .i64 (e 5), .slice xa l.length xc] 67)).alloc (.cells #[.int .i64 (e 0), .int .i64 (e 1), .int .i64 (e 2), .int .i64 (e 3), .int .i64 (e 4), .int .i64 (e 5), .slice xa' l.length xc'] 67)).drew) q2.2 rfl
        have x4 : ((wr.alloc (.cells #[.int .i64 (e 0), .int .i64 (e 1), .int .i64 (e 2), .int .i64 (e 3), .int .i64 (e 4), .int .i64 (e 5), .slice xa l.length xc] 67)).alloc (.cells #[.int .i64 (e 0), .int .i64 (e 1), .int .i64 (e 2), .int .i64 (e 3), .int .i64 (e 4), .int .i64 (e 5), .slice xa' l.length xc'] 67)).drew.cell? ⟨wr.heap.size, 4, none⟩ = some (.int .i64 (e 4)) := cell_at (w := ((wr.alloc (.cells #[.int .i64 (e 0), .int .i64 (e 1), .int .i64 (e 2), .int .i64 (e 3), .int .i64 (e 4), .int .i64 (e 5), .slice xa l.length xc] 67)).alloc (.cells #[.int .i64 (e 0), .int .i64 (e 1), .int .i64 (e 2), .int .i64 (e 3), .int .i64 (e 4), .int .i64 (e 5), .slice xa' l.length xc'] 67)).drew) q2.1 rfl
        have y4 : ((wr.alloc (.cells #[.int .i64 (e 0), .int .i64 (e 1), .int .i64 (e 2), .int .i64 (e 3), .int .i64 (e 4), .int .i64 (e 5), .slice xa l.length xc] 67)).alloc (.cells #[.int .i64 (e 0), .int .i64 (e 1), .int .i64 (e 2), .int .i64 (e 3), .int .i64 (e 4), .int .i64 (e 5), .slice xa' l.length xc'] 67)).drew.cell? ⟨wr.heap.size + 1, 4, none⟩ = some (.int .i64 (e 4)) := cell_at (w := ((wr.alloc (.cells #[.int .i64 (e 0), .int .i64 (e 1), .int .i64 (e 2), .int .i64 (e 3), .int .i64 (e 4), .int .i64 (e 5), .slice xa l.length xc] 67)).alloc (.cells #[.int .i64 (e 0), .int .i64 (e 1), .int .i64 (e 2), .int .i64 (e 3), .int .i64 (e 4), .int .i64 (e 5), .slice xa' l.length xc'] 67)).drew) q2.2 rfl
        have x5 : ((wr.alloc (.cells #[.int .i64 (e 0), .int .i64 (e 1), .int .i64 (e 2), .int .i64 (e 3), .int .i64 (e 4), .int .i64 (e 5), .slice xa l.length xc] 67)).alloc (.cells #[.int .i64 (e 0), .int .i64 (e 1), .int .i64 (e 2), .int .i64 (e 3), .int .i64 (e 4), .int .i64 (e 5), .slice xa' l.length xc'] 67)).drew.cell? ⟨wr.heap.size, 5, none⟩ = some (.int .i64 (e 5)) := cell_at (w := ((wr.alloc (.cells #[.int .i64 (e 0), .int .i64 (e 1), .int .i64 (e 2), .int .i64 (e 3), .int .i64 (e 4), .int .i64 (e 5), .slice xa l.length xc] 67)).alloc (.cells #[.int .i64 (e 0), .int .i64 (e 1), .int .i64 (e 2), .int .i64 (e 3), .int .i64 (e 4), .int .i64 (e 5), .slice xa' l.length xc'] 67)).drew) q2.1 rfl
        have y5 : ((wr.alloc (.cells #[.int .i64 (e 0), .int .i64 (e 1), .int .i64 (e 2), .int .i64 (e 3), .int .i64 (e 4), .int .i64 (e 5), .slice xa l.length xc] 67)).alloc (.cells #[.int .i64 (e 0), .int .i64 (e 1), .int .i64 (e 2), .int .i64 (e 3), .int .i64 (e 4), .int .i64 (e 5), .slice xa' l.length xc'] 67)).drew.cell? ⟨wr.heap.size + 1, 5, none⟩ = some (.int .i64 (e 5)) := cell_at (w := ((wr.alloc (.cells #[.int .i64 (e 0), .int .i64 (e 1), .int .i64 (e 2), .int .i64 (e 3), .int .i64 (e 4), .int .i64 (e 5), .slice xa l.length xc] 67)).alloc (.cells #[.int .i64 (e 0), .int .i64 (e 1), .int .i64 (e 2), .int .i64 (e 3), .int .i64 (e 4), .int .i64 (e 5), .slice xa' l.length xc'] 67)).drew) q2.2 rfl
        have x6 : ((wr.alloc (.cells #[.int .i64 (e 0), .int .i64 (e 1), .int .i64 (e 2), .int .i64 (e 3), .int .i64 (e 4), .int .i64 (e 5), .slice xa l.length xc] 67)).alloc (.cells #[.int .i64 (e 0), .int .i64 (e 1), .int .i64 (e 2), .int .i64 (e 3), .int .i64 (e 4), .int .i64 (e 5), .slice xa' l.length xc'] 67)).drew.cell? ⟨wr.heap.size, 6, none⟩ = some (.slice xa l.length xc) := cell_at (w := ((wr.alloc (.cells #[.int .i64 (e 0), .int .i64 (e 1), .int .i64 (e 2), .int .i64 (e 3), .int .i64 (e 4), .int .i64 (e 5), .slice xa l.length xc] 67)).alloc (.cells #[.int .i64 (e 0), .int .i64 (e 1), .int .i64 (e 2), .int .i64 (e 3), .int .i64 (e 4), .int .i64 (e 5), .slice xa' l.length xc'] 67)).drew) q2.1 rfl
        have y6 : ((wr.alloc (.cells #[.int .i64 (e 0), .int .i64 (e 1), .int .i64 (e 2), .int .i64 (e 3), .int .i64 (e 4), .int .i64 (e 5), .slice xa l.length xc] 67)).alloc (.cells #[.int .i64 (e 0), .int .i64 (e 1), .int .i64 (e 2), .int .i64 (e 3), .int .i64 (e 4), .int .i64 (e 5), .slice xa' l.length xc'] 67)).drew.cell? ⟨wr.heap.size + 1, 6, none⟩ = some (.slice xa' l.length xc') := cell_at (w := ((wr.alloc (.cells #[.int .i64 (e 0), .int .i64 (e 1), .int .i64 (e 2), .int .i64 (e 3), .int .i64 (e 4), .int .i64 (e 5), .slice xa l.length xc] 67)).alloc (.cells #[.int .i64 (e 0), .int .i64 (e 1), .int .i64 (e 2), .int .i64 (e 3), .int .i64 (e 4), .int .i64 (e 5), .slice xa' l.length xc'] 67)).drew) q2.2 rfl
        generalize ((wr.alloc (.cells #[.int .i64 (e 0), .int .i64 (e 1), .int .i64 (e 2), .int .i64 (e 3), .int .i64 (e 4), .int .i64 (e 5), .slice xa l.length xc] 67)).alloc (.cells #[.int .i64 (e 0), .int .i64 (e 1), .int .i64 (e 2), .int .i64 (e 3), .int .i64 (e 4), .int .i64 (e 5), .slice xa' l.length xc'] 67)).drew = w2 at *
        clear q2
        have IA : Hid (IntsI w2 (.slice xa l.length xc) l) := AR.out.keep BB.out
        have IB : Hid (IntsI w2 (.slice xa' l.length xc') l) := AK.out.keep BB.out
        clear SKH HO AR AK p0 p1 p2 p3 p4 p5 p6 q0 q1 q2 q3 q4 q5 q6 t0 t1
        go_wp2_with (go_at_call 32; refine (sameIntsI IA.out IB.out LL.out).mono ?_; rintro r w3 ⟨rfl, hb⟩; have B3 : Hid (Below wr.heap.size wr w3) := BB.out.trans (hb.mono BB.out.size); clear hb)
        go_roundw
        case rel => exact ⟨k + 1, by omega, by go_num, HB.out.trans (B3.out.mono ZR.out)⟩
        case measure => simp [intOf]; omega
      · have q2 := two_blocks9 wr (.cells #[.int .i64 (e 0), .int .i64 (e 1), .int .i64 (e 2), .int .i64 (e 3), .int .i64 (e 4), .int .i64 (e 5), .slice xa' l.length xc'] 67) (.cells #[.int .i64 (e 0), .int .i64 (e 1), .int .i64 (e 2), .int .i64 (e 3), .int .i64 (e 4), .int .i64 (e 5), .slice xa l.length xc] 67)
        have BB : Hid (Below wr.heap.size wr ((wr.alloc (.cells #[.int .i64 (e 0), .int .i64 (e 1), .int .i64 (e 2), .int .i64 (e 3), .int .i64 (e 4), .int .i64 (e 5), .slice xa' l.length xc'] 67)).alloc (.cells #[.int .i64 (e 0), .int .i64 (e 1), .int .i64 (e 2), .int .i64 (e 3), .int .i64 (e 4), .int .i64 (e 5), .slice xa l.length xc] 67)).drew) := (bAlloc (bAlloc (Below.refl _ _) _) _).drew
        have x0 : ((wr.alloc (.cells #[.int .i64 (e 0), .int .i64 (e 1), .int .i64 (e 2), .int .i64 (e 3), .int .i64 (e 4), .int .i64 (e 5), .slice xa' l.length xc'] 67)).alloc (.cells #[.int .i64 (e 0), .int .i64 (e 1), .int .i64 (e 2), .int .i64 (e 3), .int .i64 (e 4), .int .i64 (e 5), .slice xa l.length xc] 67)).drew.cell? ⟨wr.heap.size, 0, none⟩ = some (.int .i64 (e 0)) := cell_at (w := ((wr.alloc (.cells #[.int .i64 (e 0), .int .i64 (e 1), .int .i64 (e 2), .int .i64 (e 3), .int .i64 (e 4), .int .i64 (e 5), .slice xa' l.length xc'] 67)).alloc (.cells #[.int .i64 (e 0), .int .i64 (e 1), .int .i64 (e 2), .int .i64 (e 3), .int .i64 (e 4), .int .i64 (e 5), .slice xa l.length xc] 67)).drew) q2.1 rfl
        have y0 : ((wr.alloc (.cells #[.int .i64 (e 0), .int .i64 (e 1), .int .i64 (e 2), .int .i64 (e 3), .int .i64 (e 4), .int .i64 (e 5), .slice xa' l.length xc'] 67)).alloc (.cells #[.int .i64 (e 0), .int .i64 (e 1), .int .i64 (e 2), .int .i64 (e 3), .int .i64 (e 4), .int .i64 (e 5), .slice xa l.length xc] 67)).drew.cell? ⟨wr.heap.size + 1, 0, none⟩ = some (.int .i64 (e 0)) := cell_at (w := ((wr.alloc (.cells #[.int .i64 (e 0), .int .i64 (e 1), .int .i64 (e 2), .int .i64 (e 3), .int .i64 (e 4), .int .i64 (e 5), .slice xa' l.length xc'] 67)).alloc (.cells #[.int .i64 (e 0), .int .i64 (e 1), .int .i64 (e 2), .int .i64 (e 3), .int .i64 (e 4), .int .i64 (e 5), .slice xa l.length xc] 67)).drew) q2.2 rfl
        have x1 : ((wr.alloc (.cells #[.int .i64 (e 0), .int .i64 (e 1), .int .i64 (e 2), .int .i64 (e 3), .int .i64 (e 4), .int .i64 (e 5), .slice xa' l.length xc'] 67)).alloc (.cells #[.int .i64 (e 0), .int .i64 (e 1), .int .i64 (e 2), .int .i64 (e 3), .int .i64 (e 4), .int .i64 (e 5), .slice xa l.length xc] 67)).drew.cell? ⟨wr.heap.size, 1, none⟩ = some (.int .i64 (e 1)) := cell_at (w := ((wr.alloc (.cells #[.int .i64 (e 0), .int .i64 (e 1), .int .i64 (e 2), .int .i64 (e 3), .int .i64 (e 4), .int .i64 (e 5), .slice xa' l.length xc'] 67)).alloc (.cells #[.int .i64 (e 0), .int .i64 (e 1), .int .i64 (e 2), .int .i64 (e 3), .int .i64 (e 4), .int .i64 (e 5), .slice xa l.length xc] 67)).drew) q2.1 rfl
        have y1 : ((wr.alloc (.cells #[.int .i64 (e 0), .int .i64 (e 1), .int .i64 (e 2), .int .i64 (e 3), .int .i64 (e 4), .int .i64 (e 5), .slice xa' l.length xc'] 67)).alloc (.cells #[.int .i64 (e 0), .int .i64 (e 1), .int .i64 (e 2), .int .i64 (e 3), .int .i64 (e 4), .int .i64 (e 5), .slice xa l.length xc] 67)).drew.cell? ⟨wr.heap.size + 1, 1, none⟩ = some (.int .i64 (e 1)) := cell_at (w := ((wr.alloc (.cells #[.int .i64 (e 0), .int .i64 (e 1), .int .i64 (e 2), .int .i64 (e 3), .int .i64 (e 4), .int .i64 (e 5), .slice xa' l.length xc'] 67)).alloc (.cells #[.int .i64 (e 0), .int .i64 (e 1), .int .i64 (e 2), .int .i64 (e 3), .int .i64 (e 4), .int .i64 (e 5), .slice xa l.length xc] 67)).drew) q2.2 rfl
        have x2 : ((wr.alloc (.cells #[.int .i64 (e 0), .int .i64 (e 1), .int .i64 (e 2), .int .i64 (e 3), .int .i64 (e 4), .int .i64 (e 5), .slice xa' l.length xc'] 67)).alloc (.cells #[.int .i64 (e 0), .int .i64 (e 1), .int .i64 (e 2), .int .i64 (e 3), .int .i64 (e 4), .int .i64 (e 5), .slice xa l.length xc] 67)).drew.cell? ⟨wr.heap.size, 2, none⟩ = some (.int .i64 (e 2)) := cell_at (w := ((wr.alloc (.cells #[.int .i64 (e 0), .int .i64 (e 1), .int .i64 (e 2), .int .i64 (e 3), .int .i64 (e 4), .int .i64 (e 5), .slice xa' l.length xc'] 67)).alloc (.cells #[.int .i64 (e 0), .int .i64 (e 1), .int .i64 (e 2), .int .i64 (e 3), .int .i64 (e 4), .int .i64 (e 5), .slice xa l.length xc] 67)).drew) q2.1 rfl
        have y2 : ((wr.alloc (.cells #[.int .i64 (e 0), .int .i64 (e 1), .int .i64 (e 2), .int .i64 (e 3), .int .i64 (e 4), .int .i64 (e 5), .slice xa' l.length xc'] 67)).alloc (.cells #[.int .i64 (e 0), .int .i64 (e 1), .int .i64 (e 2), .int .i64 (e 3), .int .i64 (e 4), .int .i64 (e 5), .slice xa l.length xc] 67)).drew.cell? ⟨wr.heap.size + 1, 2, none⟩ = some (.int .i64 (e 2)) := cell_at (w := ((wr.alloc (.cells #[.int .i64 (e 0), .int .i64 (e 1), .int .i64 (e 2), .int .i64 (e 3), .int .i64 (e 4), .int .i64 (e 5), .slice xa' l.length xc'] 67)).alloc (.cells #[.int .i64 (e 0), .int .i64 (e 1), .int .i64 (e 2), .int .i64 (e 3), .int .i64 (e 4), .int .i64 (e 5), .slice xa l.length xc] 67)).drew) q2.2 rfl
        have x3 : ((wr.alloc (.cells #[.int .i64 (e 0), .int .i64 (e 1), .int .i64 (e 2), .int .i64 (e 3), .int .i64 (e 4), .int .i64 (e 5), .slice xa' l.length xc'] 67)).alloc (.cells #[.int .i64 (e 0), .int .i64 (e 1), .int .i64 (e 2), .int .i64 (e 3), .int .i64 (e 4), .int .i64 (e 5), .slice xa l.length xc] 67)).drew.cell? ⟨wr.heap.size, 3, none⟩ = some (.int .i64 (e 3)) := cell_at (w := ((wr.alloc (.cells #[.int .i64 (e 0), .int .i64 (e 1), .int .i64 (e 2), .int .i64 (e 3), .int .i64 (e 4), .int .i64 (e 5), .slice xa' l.length xc'] 67)).alloc (.cells #[.int .i64 (e 0), .int .i64 (e 1), .int .i64 (e 2), .int .i64 (e 3), .int .i64 (e 4), .int .i64 (e 5), .slice xa l.length xc] 67)).drew) q2.1 rfl
        have y3 : ((wr.alloc (.cells #[.int .i64 (e 0), .int .i64 (e 1), .int .i64 (e 2), .int .i64 (e 3), .int .i64 (e 4), .int .i64 (e 5), .slice xa' l.length xc'] 67)).alloc (.cells #[.int .i64 (e 0), .int .i64 (e 1), .int .i64 (e 2), .int .i64 (e 3), .int .i64 (e 4), .int .i64 (e 5), .slice xa l.length xc] 67)).drew.cell? ⟨wr.heap.size + 1, 3, none⟩ = some (.int .i64 (e 3)) := cell_at (w := ((wr.alloc (.cells #[.int .i64 (e 0), .int .i64 (e 1), .int .i64 (e 2), .int .i64 (e 3), .int .i64 (e 4), .int .i64 (e 5), .slice xa' l.length xc'] 67)).alloc (.cells #[.int .i64 (e 0), .int .i64 (e 1), .int .i64 (e 2), .int .i64 (e 3), .int .i64 (e 4), .int .i64 (e 5), .slice xa l.length xc] 67)).drew) q2.2 rfl
        have x4 : ((wr.alloc (.cells #[.int .i64 (e 0), .int .i64 (e 1), .int .i64 (e 2), .int .i64 (e 3), .int .i64 (e 4), .int .i64 (e 5), .slice xa' l.length xc'] 67)).alloc (.cells #[.int .i64 (e 0), .int .i64 (e 1), .int .i64 (e 2), .int .i64 (e 3), .int .i64 (e 4), .int .i64 (e 5), .slice xa l.length xc] 67)).drew.cell? ⟨wr.heap.size, 4, none⟩ = some (.int .i64 (e 4)) := cell_at (w := ((wr.alloc (.cells #[.int .i64 (e 0), .int .i64 (e 1), .int .i64 (e 2), .int .i64 (e 3), .int .i64 (e 4), .int .i64 (e 5), .slice xa' l.length xc'] 67)).alloc (.cells #[.int .i64 (e 0), .int .i64 (e 1), .int .i64 (e 2), .int .i64 (e 3), .int .i64 (e 4), .int .i64 (e 5), .slice xa l.length xc] 67)).drew) q2.1 rfl
        have y4 : ((wr.alloc (.cells #[.int .i64 (e 0), .int .i64 (e 1), .int .i64 (e 2), .int .i64 (e 3), .int .i64 (e 4), .int .i64 (e 5), .slice xa' l.length xc'] 67)).alloc (.cells #[.int .i64 (e 0), .int .i64 (e 1), .int .i64 (e 2), .int .i64 (e 3), .int .i64 (e 4), .int .i64 (e 5), .slice xa l.length xc] 67)).drew.cell? ⟨wr.heap.size + 1, 4, none⟩ = some (.int .i64 (e 4)) := cell_at (w := ((wr.alloc (.cells #[.int .i64 (e 0), .int .i64 (e 1), .int .i64 (e 2), .int .i64 (e 3), .int .i64 (e 4), .int .i64 (e 5), .slice xa' l.length xc'] 67)).alloc (.cells #[.int .i64 (e 0), .int .i64 (e 1), .int .i64 (e 2), .int .i64 (e 3), .int .i64 (e 4), .int .i64 (e 5), .slice xa l.length xc] 67)).drew) q2.2 rfl
        have x5 : ((wr.alloc (.cells #[.int .i64 (e 0), .int .i64 (e 1), .int .i64 (e 2), .int .i64 (e 3), .int .i64 (e 4), .int .i64 (e 5), .slice xa' l.length xc'] 67)).alloc (.cells #[.int .i64 (e 0), .int .i64 (e 1), .int .i64 (e 2), .int .i64 (e 3), .int .i64 (e 4), .int .i64 (e 5), .slice xa l.length xc] 67)).drew.cell? ⟨wr.heap.size, 5, none⟩ = some (.int .i64 (e 5)) := cell_at (w := ((wr.alloc (.cells #[.int .i64 (e 0), .int .i64 (e 1), .int .i64 (e 2), .int .i64 (e 3), .int .i64 (e 4), .int .i64 (e 5), .slice xa' l.length xc'] 67)).alloc (.cells #[.int .i64 (e 0), .int .i64 (e 1), .int .i64 (e 2), .int .i64 (e 3), .int .i64 (e 4), .int .i64 (e 5), .slice xa l.length xc] 67)).drew) q2.1 rfl
        have y5 : ((wr.alloc (.cells #[.int .i64 (e 0), .int .i64 (e 1), .int .i64 (e 2), .int .i64 (e 3), .int .i64 (e 4), .int .i64 (e 5), .slice xa' l.length xc'] 67)).alloc (.cells #[.int .i64 (e 0), .int .i64 (e 1), .int .i64 (e 2), .int .i64 (e 3), .int .i64 (e 4), .int .i64 (e 5), .slice xa l.length xc] 67)).drew.cell? ⟨wr.heap.size + 1, 5, none⟩ = some (.int .i64 (e 5)) := cell_at (w := ((wr.alloc (.cells #[.int .i64 (e 0), .int .i64 (e 1), .int .i64 (e 2), .int .i64 (e 3), .int .i64 (e 4), .int .i64 (e 5), .slice xa' l.length xc'] 67)).alloc (.cells #[.int .i64 (e 0), .int .i64 (e 1), .int .i64 (e 2), .int .i64 (e 3), .int .i64 (e 4), .int .i64 (e 5), .slice xa l.length xc] 67)).drew) q2.2 rfl
        have x6 : ((wr.alloc (.cells #[.int .i64 (e 0), .int .i64 (e 1), .int .i64 (e 2), .int .i64 (e 3), .int .i64 (e 4), .int .i64 (e 5), .slice xa' l.length xc'] 67)).alloc (.cells #[.int .i64 (e 0), .int .i64 (e 1), .int .i64 (e 2), .int .i64 (e 3), .int .i64 (e 4), .int .i64 (e 5), .slice xa l.length xc] 67)).drew.cell? ⟨wr.heap.size, 6, none⟩ = some (.slice xa' l.length xc') := cell_at (w := ((wr.alloc (.cells #[.int .i64 (e 0), .int .i64 (e 1), .int .i64 (e 2), .int .i64 (e 3), .int .i64 (e 4), .int .i64 (e 5), .slice xa' l.length xc'] 67)).alloc (.cells #[.int .i64 (e 0), .int .i64 (e 1), .int .i64 (e 2), .int .i64 (e 3), .int .i64 (e 4), .int .i64 (e 5), .slice xa l.length xc] 67)).drew) q2.1 rfl
        have y6 : ((wr.alloc (.cells #[.int .i64 (e 0), .int .i64 (e 1), .int .i64 (e 2), .int .i64 (e 3), .int .i64 (e 4), .int .i64 (e 5), .slice xa' l.length xc'] 67)).alloc (.cells #[.int .i64 (e 0), .int .i64 (e 1), .int .i64 (e 2), .int .i64 (e 3), .int .i64 (e 4), .int .i64 (e 5), .slice xa l.length xc] 67)).drew.cell? ⟨wr.heap.size + 1, 6, none⟩ = some (.slice xa l.length xc) := cell_at (w := ((wr.alloc (.cells #[.int .i64 (e 0), .int .i64 (e 1), .int .i64 (e 2), .int .i64 (e 3), .int .i64 (e 4), .int .i64 (e 5), .slice xa' l.length xc'] 67)).alloc (.cells #[.int .i64 (e 0), .int .i64 (e 1), .int .i64 (e 2), .int .i64 (e 3), .int .i64 (e 4), .int .i64 (e 5), .slice xa l.length xc] 67)).drew) q2.2 rfl
        generalize ((wr.alloc (.cells #[.int .i64 (e 0), .int .i64 (e 1), .int .i64 (e 2), .int .i64 (e 3), .int .i64 (e 4), .int .i64 (e 5), .slice xa' l.length xc'] 67)).alloc (.cells #[.int .i64 (e 0), .int .i64 (e 1), .int .i64 (e 2), .int .i64 (e 3), .int .i64 (e 4), .int .i64 (e 5), .slice xa l.length xc] 67)).drew = w2 at *
        clear q2
        have IA : Hid (IntsI w2 (.slice xa l.length xc) l) := AR.out.keep BB.out
        have IB : Hid (IntsI w2 (.slice xa' l.length xc') l) := AK.out.keep BB.out
        clear SKH HO AR AK p0 p1 p2 p3 p4 p5 p6 q0 q1 q2 q3 q4 q5 q6 t0 t1
        go_wp2_with (go_at_call 32; refine (sameIntsI IA.out IB.out LL.out).mono ?_; rintro r w3 ⟨rfl, hb⟩; have B3 : Hid (Below wr.heap.size wr w3) := BB.out.trans (hb.mono BB.out.size); clear hb)
        go_roundw
        case rel => exact ⟨k + 1, by omega, by go_num, HB.out.trans (B3.out.mono ZR.out)⟩
        case measure => simp [intOf]; omega
    · go_wp2
      go_ret
      exact ⟨rfl, TB.out⟩
end Go.Proofs.YtnebjnglcfebeaaDoor
