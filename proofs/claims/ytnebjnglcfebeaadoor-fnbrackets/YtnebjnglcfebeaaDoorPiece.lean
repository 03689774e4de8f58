/-
  Pieces of memory that hold numbers: where they lie, what a mark turns, and what stays.
-/
import Derived.Test.YtnebjnglcfebeaaDoorOwn
namespace Go.Proofs.YtnebjnglcfebeaaDoor
open Go.RowKit
set_option linter.unusedVariables false
set_option linter.unusedSimpArgs false
/-- A slice of these numbers; if there are any, they lie in one block from B on and below C, and can be written. -/
def Piece (B C : Nat) (w : World) (v : Value) (l : List Int) : Prop :=
  ∃ a c, v = .slice a l.length c ∧ l.length ≤ c ∧ (l = [] ∨ ∃ g off cur t, a = some ⟨g, off, none⟩ ∧ B ≤ g ∧ g < C ∧ w.heap[g]? = some (.cells cur t (0, 0)) ∧ ∀ k, k < l.length → cur[off + k]? = some (.int .i64 (l.getD k 0)))
theorem Piece.ints {B C : Nat} {w : World} {v : Value} {l : List Int} (h : Piece B C w v l) : ∃ a c, v = .slice a l.length c ∧ Ints w a l := by
  obtain ⟨a, c, rfl, hle, h⟩ := h
  refine ⟨a, c, rfl, ?_⟩
  rcases h with rfl | ⟨g, off, cur, t, rfl, hB, hC, hg, hc⟩
  · exact .inl rfl
  · refine .inr ⟨g, off, rfl, (Array.getElem?_eq_some_iff.1 hg).1, fun k hk => ?_⟩
    simp only [World.cell?, hg]
    simpa using hc k hk
theorem Piece.intsC {B C : Nat} {w : World} {v : Value} {l : List Int} (h : Piece B C w v l) : ∃ a c, v = .slice a l.length c ∧ l.length ≤ c ∧ Ints w a l := by
  obtain ⟨a, c, e, i⟩ := h.ints
  obtain ⟨a', c', e', hle, _⟩ := h
  rw [e] at e'
  cases e'
  exact ⟨a, c, e, hle, i⟩
theorem Piece.nil (B C : Nat) (w : World) : Piece B C w (.slice none 0 0) [] := ⟨none, 0, rfl, Nat.le_refl _, .inl rfl⟩
theorem Piece.mono {B C B' C' : Nat} {w : World} {v : Value} {l : List Int} (h : Piece B C w v l) (hB : B' ≤ B) (hC : C ≤ C') : Piece B' C' w v l := by
  obtain ⟨a, c, rfl, hle, h⟩ := h
  refine ⟨a, c, rfl, hle, ?_⟩
  rcases h with rfl | ⟨g, off, cur, t, rfl, h1, h2, r⟩
  · exact .inl rfl
  · exact .inr ⟨g, off, cur, t, rfl, by omega, by omega, r⟩
/-- No block has turned but those from B on and below C. -/
structure Win (B C : Nat) (w w' : World) : Prop where
  os : w'.os = w.os
  tape : w'.tape = w.tape
  output : w'.output = w.output
  size : w.heap.size ≤ w'.heap.size
  block : ∀ k, k < w.heap.size → (k < B ∨ C ≤ k) → w'.heap[k]? = w.heap[k]?
theorem Win.below {B C A : Nat} {w w' : World} (h : Win B C w w') (hA : A ≤ B) (hs : A ≤ w.heap.size) : Below A w w' :=
  ⟨h.os, h.tape, h.output, h.size, fun k hk => h.block k (by omega) (.inl (by omega))⟩
theorem Piece.win {B C B' C' : Nat} {w w' : World} {u : Value} {m : List Int} (h : Piece B' C' w u m) (hw : Win B C w w') (hd : C' ≤ B ∨ C ≤ B') : Piece B' C' w' u m := by
  obtain ⟨a, c, rfl, hle, h⟩ := h
  refine ⟨a, c, rfl, hle, ?_⟩
  rcases h with rfl | ⟨g, off, cur, t, rfl, h1, h2, hg, r⟩
  · exact .inl rfl
  · exact .inr ⟨g, off, cur, t, rfl, h1, h2, by rw [hw.block g (Array.getElem?_eq_some_iff.1 hg).1 (by omega)]; exact hg, r⟩
theorem Piece.belowC {B C A : Nat} {w w' : World} {u : Value} {m : List Int} (h : Piece B C w u m) (hb : Below A w w') (hd : C ≤ A) : Piece B C w' u m := by
  obtain ⟨a, c, rfl, hle, h⟩ := h
  refine ⟨a, c, rfl, hle, ?_⟩
  rcases h with rfl | ⟨g, off, cur, t, rfl, h1, h2, hg, r⟩
  · exact .inl rfl
  · exact .inr ⟨g, off, cur, t, rfl, h1, h2, by rw [hb.block g (by omega)]; exact hg, r⟩
/-- What is as it was below the whole of the heap keeps every piece. -/
theorem Piece.keep {B C : Nat} {w w' : World} {u : Value} {m : List Int} (h : Piece B C w u m) (hb : Below w.heap.size w w') : Piece B C w' u m := by
  obtain ⟨a, c, rfl, hle, h⟩ := h
  refine ⟨a, c, rfl, hle, ?_⟩
  rcases h with rfl | ⟨g, off, cur, t, rfl, h1, h2, hg, r⟩
  · exact .inl rfl
  · exact .inr ⟨g, off, cur, t, rfl, h1, h2, by rw [hb.block g (Array.getElem?_eq_some_iff.1 hg).1]; exact hg, r⟩
theorem NewInts.piece {B : Nat} {w : World} {v : Value} {l : List Int} (h : NewInts B w v l) : Piece B w.heap.size w v l := by
  obtain ⟨h1, h2⟩ := h
  rcases h2 with ⟨rfl, h0⟩ | ⟨g, cap, cur, rfl, hB, hg, hc, hm, hs, ht⟩
  · have : l = [] := List.eq_nil_of_length_eq_zero h0
    subst this
    exact Piece.nil _ _ _
  · refine ⟨_, cap, rfl, hc, .inr ⟨g, 0, cur, 3, rfl, hB, (Array.getElem?_eq_some_iff.1 hg).1, hg, fun k hk => ?_⟩⟩
    have h3 : (cur.toList.take (l.length * 1))[k]? = (l.map (Value.int .i64))[k]? := by rw [ht]
    rw [Nat.mul_one, List.getElem?_take_of_lt hk] at h3
    rw [Nat.zero_add]
    simpa [hk] using h3
theorem OwnInts.piece {g : Nat} {w : World} {l : List Int} (h : OwnInts w g l) {B C : Nat} (hB : B ≤ g) (hC : g < C) (c : Nat) (hc : l.length ≤ c := by simp) : Piece B C w (.slice (some ⟨g, 0, none⟩) l.length c) l :=
  ⟨_, c, rfl, hc, .inr ⟨g, 0, vals l, 3, rfl, hB, hC, h, fun k hk => by rw [Nat.zero_add]; exact vals_at hk⟩⟩
/-- Two slices have no cell together. -/
def Apart (v u : Value) : Prop := ∀ g off n c off' n' c', v = .slice (some ⟨g, off, none⟩) n c → u = .slice (some ⟨g, off', none⟩) n' c' → n = 0 ∨ n' = 0 ∨ off + n ≤ off' ∨ off' + n' ≤ off
theorem Apart.symm {v u : Value} (h : Apart v u) : Apart u v := by
  intro g off n c off' n' c' h1 h2
  have := h g off' n' c' off n c h2 h1
  omega
theorem apart_blocks {v u : Value} (h : ∀ g off n c off' n' c', v = .slice (some ⟨g, off, none⟩) n c → ¬ u = .slice (some ⟨g, off', none⟩) n' c') : Apart v u := fun g off n c off' n' c' h1 h2 => absurd h2 (h g off n c off' n' c' h1)
theorem Piece.apart {B C B' C' : Nat} {w w' : World} {v u : Value} {l m : List Int} (h : Piece B C w v l) (k : Piece B' C' w' u m) (hd : C ≤ B' ∨ C' ≤ B) : Apart v u := by
  obtain ⟨a, c, rfl, hle, h⟩ := h
  obtain ⟨b, d, rfl, _, k⟩ := k
  intro g off n c off' n' c' h1 h2
  cases h1
  cases h2
  rcases h with rfl | ⟨g1, o1, _, _, e1, q1, q2, _⟩
  · exact .inl rfl
  rcases k with rfl | ⟨g2, o2, _, _, e2, r1, r2, _⟩
  · exact .inr (.inl rfl)
  cases e1
  cases e2
  omega
/-- The world is as it was but for the cells of one slice. -/
structure Only (v : Value) (w w' : World) : Prop where
  os : w'.os = w.os
  tape : w'.tape = w.tape
  output : w'.output = w.output
  size : w'.heap.size = w.heap.size
  block : ∀ k, k < w.heap.size → (∀ off n c, v = .slice (some ⟨k, off, none⟩) n c → n = 0) → w'.heap[k]? = w.heap[k]?
  cells : ∀ g off n c, v = .slice (some ⟨g, off, none⟩) n c → ∀ cur t, w.heap[g]? = some (.cells cur t (0, 0)) → ∃ cur', w'.heap[g]? = some (.cells cur' t (0, 0)) ∧ ∀ i, (i < off ∨ off + n ≤ i) → cur'[i]? = cur[i]?
theorem Only.refl (v : Value) (w : World) : Only v w w := ⟨rfl, rfl, rfl, rfl, fun _ _ _ => rfl, fun _ _ _ _ _ cur t h => ⟨cur, h, fun _ _ => rfl⟩⟩
theorem Only.win {B C : Nat} {w w' : World} {v : Value} {l : List Int} (h : Only v w w') (hp : Piece B C w v l) : Win B C w w' := by
  refine ⟨h.os, h.tape, h.output, by rw [h.size]; exact Nat.le_refl _, fun k hk hd => h.block k hk ?_⟩
  obtain ⟨a, c, rfl, _, hp⟩ := hp
  intro off n c' e
  cases e
  rcases hp with rfl | ⟨g, off, cur, t, e, h1, h2, hg, r⟩
  · rfl
  · cases e; omega
theorem Piece.only {B C : Nat} {w w' : World} {v u : Value} {m : List Int} (h : Piece B C w u m) (hv : Only v w w') (ha : Apart v u) : Piece B C w' u m := by
  obtain ⟨a, c, rfl, hle, h⟩ := h
  refine ⟨a, c, rfl, hle, ?_⟩
  rcases h with rfl | ⟨g, off, cur, t, rfl, h1, h2, hg, r⟩
  · exact .inl rfl
  · by_cases hm : m.length = 0
    · exact .inl (List.eq_nil_of_length_eq_zero hm)
    by_cases hq : ∀ o n c, v = .slice (some ⟨g, o, none⟩) n c → n = 0
    · exact .inr ⟨g, off, cur, t, rfl, h1, h2, by rw [hv.block g (Array.getElem?_eq_some_iff.1 hg).1 hq]; exact hg, r⟩
    · have : ∃ o n c, v = .slice (some ⟨g, o, none⟩) n c ∧ n ≠ 0 := by
        apply Classical.byContradiction
        intro hh
        exact hq fun o n c e => Classical.byContradiction fun e2 => hh ⟨o, n, c, e, e2⟩
      obtain ⟨o, n, c', e, hn⟩ := this
      obtain ⟨cur', hg', hc'⟩ := hv.cells g o n c' e cur t hg
      refine .inr ⟨g, off, cur', t, rfl, h1, h2, hg', fun k hk => ?_⟩
      have hap := ha g o n c' off m.length c e rfl
      rw [hc' (off + k) (by omega)]
      exact r k hk
set_option maxRecDepth 20000 in
set_option maxHeartbeats 1000000 in
theorem mark_at (cur0 : Array Value) (t : TypeId) (g off n c : Nat) (k0 : Int) (w : World) (hn : n ≤ 1048576) (p1 : 0 ≤ k0) (p2 : k0 ≤ 1099511627776) (h1 : w.heap[g]? = some (.cells cur0 t (0, 0))) (hs : off + n ≤ cur0.size) :
    Calls Tryd.prog 44 #[.slice (some ⟨g, off, none⟩) n c, .int .i64 k0] w fun e w' => e = .returned (.int .i64 (k0 + n)) ∧ (∃ A : Array Value, w'.heap[g]? = some (.cells A t (0, 0)) ∧ (∀ i, i < n → A[off + i]? = some (.int .i64 (k0 + i))) ∧ ∀ i, (i < off ∨ off + n ≤ i) → A[i]? = cur0[i]?) ∧ But g w w' ∧ w'.heap.size = w.heap.size := by
  have H1 : Hid (w.heap[g]? = some (.cells cur0 t (0, 0))) := h1
  have HS : Hid (off + n ≤ cur0.size) := hs
  clear h1 hs
  go_enter Tryd.func44, Tryd.ntmps44
  go_wp2
  go_loopw [1, 5] (fun q i w' => ∃ (k : Nat) (A : Array Value), k ≤ n ∧ i = .int .i64 k ∧ q = .int .i64 (k0 + k) ∧ w'.heap[g]? = some (.cells A t (0, 0)) ∧ (A.size = cur0.size ∧ (∀ i, i < k → A[off + i]? = some (.int .i64 (k0 + i))) ∧ ∀ i, (i < off ∨ off + n ≤ i) → A[i]? = cur0[i]?) ∧ But g w w' ∧ w'.heap.size = w.heap.size) (fun _ i _ => n - (intOf i).toNat)
  case atStart => exact ⟨0, cur0, by omega, rfl, by simp, H1.out, ⟨rfl, fun i hi => by omega, fun _ _ => rfl⟩, But.refl _ _, rfl⟩
  case round =>
    obtain ⟨k, A, hk, rfl, rfl, hg, hA, hb, hz⟩ := hrel
    have HG : Hid (wr.heap[g]? = some (.cells A t (0, 0))) := hg
    have HA : Hid (A.size = cur0.size ∧ (∀ i, i < k → A[off + i]? = some (.int .i64 (k0 + i))) ∧ ∀ i, (i < off ∨ off + n ≤ i) → A[i]? = cur0[i]?) := hA
    have HB : Hid (But g w wr ∧ wr.heap.size = w.heap.size) := ⟨hb, hz⟩
    by_cases hlt : (k : Int) < (n : Int)
    · have L2 : off + k < A.size := by have := hA.1; have := HS.out; omega
      obtain ⟨z, hz'⟩ : ∃ z, wr.cell? ⟨g, off + k, none⟩ = some z := ⟨A[off + k], by simp [World.cell?, hg, L2]⟩
      have fz : wr.frozen? ⟨g, off + k, none⟩ = false := by simp [World.frozen?, hg]
      have HN : Hid ((wr.setCell ⟨g, off + k, none⟩ (.int .i64 (k0 + k))).heap[g]? = some (.cells (A.setIfInBounds (off + k) (.int .i64 (k0 + k))) t (0, 0))) := heap_setCell_same wr g (off + k) _ _ (.int .i64 (k0 + k)) hg
      have HA' : Hid ((A.setIfInBounds (off + k) (.int .i64 (k0 + k))).size = cur0.size ∧ (∀ i, i < k + 1 → (A.setIfInBounds (off + k) (.int .i64 (k0 + k)))[off + i]? = some (.int .i64 (k0 + i))) ∧ ∀ i, (i < off ∨ off + n ≤ i) → (A.setIfInBounds (off + k) (.int .i64 (k0 + k)))[i]? = cur0[i]?) := by
        refine ⟨by rw [Array.size_setIfInBounds]; exact hA.1, fun i hi => ?_, fun i hi => ?_⟩
        · rw [Array.getElem?_setIfInBounds]
          by_cases e : i = k
          · subst e; simp [L2]
          · rw [if_neg (by omega)]; exact hA.2.1 i (by omega)
        · rw [Array.getElem?_setIfInBounds, if_neg (by omega)]; exact hA.2.2 i hi
      have HZ : Hid ((wr.setCell ⟨g, off + k, none⟩ (.int .i64 (k0 + k))).heap.size = w.heap.size) := by show _ = _; rw [← hz]; simp [World.setCell]
      clear hg hA hb L2 hz
      go_wp2
      go_roundw
      case rel => exact ⟨k + 1, A.setIfInBounds (off + k) (.int .i64 (k0 + k)), by omega, by go_num, by go_num, HN.out, HA'.out, HB.out.1.setCell (off + k) _, HZ.out⟩
      case measure => simp [intOf]; omega
    · have e : k = n := by omega
      subst e
      clear hg hA hb hz
      go_wp2
      go_ret
      exact ⟨rfl, ⟨A, HG.out, HA.out.2⟩, HB.out.1, HB.out.2⟩
set_option maxRecDepth 20000 in
set_option maxHeartbeats 1000000 in
theorem mark_nil (a : Option Addr) (c : Nat) (k0 : Int) (w : World) :
    Calls Tryd.prog 44 #[.slice a 0 c, .int .i64 k0] w fun e w' => e = .returned (.int .i64 k0) ∧ w' = w := by
  go_enter Tryd.func44, Tryd.ntmps44
  go_wp2
  refine wp_loop_rounds 1 ?_
  rw [rounds_succ]
  go_wp2
  go_ret
  exact ⟨rfl, rfl⟩
/-- A piece is marked: its own cells turn, no other one. -/
theorem mark_piece {B C : Nat} {w : World} {v : Value} {l : List Int} (h : Piece B C w v l) (hn : l.length ≤ 1048576) (k0 : Int) (p1 : 0 ≤ k0) (p2 : k0 ≤ 1099511627776) :
    Calls Tryd.prog 44 #[v, .int .i64 k0] w fun e w' => e = .returned (.int .i64 (k0 + l.length)) ∧ Piece B C w' v (upFrom k0 l.length) ∧ Only v w w' := by
  obtain ⟨a, c, rfl, hle, h⟩ := h
  by_cases h0 : l.length = 0
  · rw [h0]
    refine (mark_nil a c k0 w).mono ?_
    rintro e w' ⟨rfl, rfl⟩
    exact ⟨by simp, ⟨a, c, by simp [upFrom], by simp [upFrom], .inl (by simp [upFrom])⟩, Only.refl _ _⟩
  · rcases h with rfl | ⟨g, off, cur, t, rfl, h1, h2, hg, r⟩
    · exact absurd rfl h0
    · have hs : off + l.length ≤ cur.size := by
        have := (Array.getElem?_eq_some_iff.1 (r (l.length - 1) (by omega))).1
        omega
      refine (mark_at cur t g off l.length c k0 w hn p1 p2 hg hs).mono ?_
      rintro e w' ⟨rfl, ⟨A, hA, a1, a2⟩, hb, hz⟩
      refine ⟨rfl, ⟨_, c, by rw [upFrom_length], by rw [upFrom_length]; exact hle, .inr ⟨g, off, A, t, rfl, h1, h2, hA, fun k hk => ?_⟩⟩, ⟨hb.os, hb.tape, hb.output, hz, fun k hk hq => hb.block k hk fun e => ?_, fun g' off' n' c' e cur' t' hg' => ?_⟩⟩
      · rw [upFrom_length] at hk
        rw [a1 k hk, upFrom_at hk]
      · subst e
        exact h0 (hq off l.length c rfl)
      · cases e
        rw [hg] at hg'
        cases hg'
        exact ⟨A, hA, a2⟩
/-- What is marked is held. -/
theorem held_piece {B C : Nat} {w : World} {v : Value} {n : Nat} (k0 : Int) (h : Piece B C w v (upFrom k0 n)) (hn : n ≤ 1048576) (p1 : 0 ≤ k0) (p2 : k0 ≤ 1099511627776) :
    Calls Tryd.prog 45 #[v, .int .i64 k0] w fun e w' => e = .returned (.int .i64 (k0 + n)) ∧ w' = w := by
  obtain ⟨a, c, rfl, hi⟩ := h.ints
  rw [upFrom_length]
  exact held_walk (upFrom k0 n) a n c k0 w hn p1 p2 hi (upFrom_length _ _) rfl
end Go.Proofs.YtnebjnglcfebeaaDoor
