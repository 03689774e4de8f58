/-
  Several texts, one behind the other: Piece, Arr, Frame.
-/
import Derived.Test.YtnkacfgbkfkhdaaGreatY1
import Derived.ProofKit
import Derived.OpenShut
import Derived.ChangeOld
import Derived.Lib.SmallJoins
namespace Go.Proofs.YtnkacfgbkfkhdaaGreat
open Go.RowKit
set_option linter.unusedVariables false
set_option linter.unusedSimpArgs false
/-- A slice of these numbers; if there are any, they lie in one block from B on and below C, and can be written. -/
def Piece (B C : Nat) (w : World) (v : Value) (l : List Int) : Prop :=
  ∃ a c, v = .slice a l.length c ∧ l.length ≤ c ∧ (l = [] ∨ ∃ g off cur t, a = some ⟨g, off, none⟩ ∧ B ≤ g ∧ g < C ∧ w.heap[g]? = some (.cells cur t (0, 0)) ∧ ∀ k, k < l.length → cur[off + k]? = some (.int .i64 (l.getD k 0)))
theorem Piece.ints {B C : Nat} {w : World} {v : Value} {l : List Int} (h : Piece B C w v l) : ∃ a c, v = .slice a l.length c ∧ Ints w a l := by
  obtain ⟨a, c, rfl, hle, h⟩ := h
  refine ⟨a, c, rfl, ?_⟩
  rcases h with rfl | ⟨g, off, cur, t, rfl, hB, hC, hg, hc⟩
  · exact .inl rfl
  · refine .inr ⟨g, off, rfl, (Array.getElem?_eq_some_iff.1 hg).1, fun k hk => ?_⟩
    simp only [World.cell?, hg]
    simpa using hc k hk
theorem Piece.intsC {B C : Nat} {w : World} {v : Value} {l : List Int} (h : Piece B C w v l) : ∃ a c, v = .slice a l.length c ∧ l.length ≤ c ∧ Ints w a l := by
  obtain ⟨a, c, e, i⟩ := h.ints
  obtain ⟨a', c', e', hle, _⟩ := h
  rw [e] at e'
  cases e'
  exact ⟨a, c, e, hle, i⟩
theorem Piece.nil (B C : Nat) (w : World) : Piece B C w (.slice none 0 0) [] := ⟨none, 0, rfl, Nat.le_refl _, .inl rfl⟩
theorem Piece.mono {B C B' C' : Nat} {w : World} {v : Value} {l : List Int} (h : Piece B C w v l) (hB : B' ≤ B) (hC : C ≤ C') : Piece B' C' w v l := by
  obtain ⟨a, c, rfl, hle, h⟩ := h
  refine ⟨a, c, rfl, hle, ?_⟩
  rcases h with rfl | ⟨g, off, cur, t, rfl, h1, h2, r⟩
  · exact .inl rfl
  · exact .inr ⟨g, off, cur, t, rfl, by omega, by omega, r⟩
/-- No block has turned but those from B on and below C. -/
structure Win (B C : Nat) (w w' : World) : Prop where
  os : w'.os = w.os
  tape : w'.tape = w.tape
  output : w'.output = w.output
  size : w.heap.size ≤ w'.heap.size
  block : ∀ k, k < w.heap.size → (k < B ∨ C ≤ k) → w'.heap[k]? = w.heap[k]?
theorem Win.below {B C A : Nat} {w w' : World} (h : Win B C w w') (hA : A ≤ B) (hs : A ≤ w.heap.size) : Below A w w' :=
  ⟨h.os, h.tape, h.output, h.size, fun k hk => h.block k (by omega) (.inl (by omega))⟩
theorem Piece.win {B C B' C' : Nat} {w w' : World} {u : Value} {m : List Int} (h : Piece B' C' w u m) (hw : Win B C w w') (hd : C' ≤ B ∨ C ≤ B') : Piece B' C' w' u m := by
  obtain ⟨a, c, rfl, hle, h⟩ := h
  refine ⟨a, c, rfl, hle, ?_⟩
  rcases h with rfl | ⟨g, off, cur, t, rfl, h1, h2, hg, r⟩
  · exact .inl rfl
  · exact .inr ⟨g, off, cur, t, rfl, h1, h2, by rw [hw.block g (Array.getElem?_eq_some_iff.1 hg).1 (by omega)]; exact hg, r⟩
theorem Piece.belowC {B C A : Nat} {w w' : World} {u : Value} {m : List Int} (h : Piece B C w u m) (hb : Below A w w') (hd : C ≤ A) : Piece B C w' u m := by
  obtain ⟨a, c, rfl, hle, h⟩ := h
  refine ⟨a, c, rfl, hle, ?_⟩
  rcases h with rfl | ⟨g, off, cur, t, rfl, h1, h2, hg, r⟩
  · exact .inl rfl
  · exact .inr ⟨g, off, cur, t, rfl, h1, h2, by rw [hb.block g (by omega)]; exact hg, r⟩
/-- What is as it was below the whole of the heap keeps every piece. -/
theorem Piece.keep {B C : Nat} {w w' : World} {u : Value} {m : List Int} (h : Piece B C w u m) (hb : Below w.heap.size w w') : Piece B C w' u m := by
  obtain ⟨a, c, rfl, hle, h⟩ := h
  refine ⟨a, c, rfl, hle, ?_⟩
  rcases h with rfl | ⟨g, off, cur, t, rfl, h1, h2, hg, r⟩
  · exact .inl rfl
  · exact .inr ⟨g, off, cur, t, rfl, h1, h2, by rw [hb.block g (Array.getElem?_eq_some_iff.1 hg).1]; exact hg, r⟩
theorem NewInts.piece {B : Nat} {w : World} {v : Value} {l : List Int} (h : NewInts B w v l) : Piece B w.heap.size w v l := by
  obtain ⟨h1, h2⟩ := h
  rcases h2 with ⟨rfl, h0⟩ | ⟨g, cap, cur, rfl, hB, hg, hc, hm, hs, ht⟩
  · have : l = [] := List.eq_nil_of_length_eq_zero h0
    subst this
    exact Piece.nil _ _ _
  · refine ⟨_, cap, rfl, hc, .inr ⟨g, 0, cur, 3, rfl, hB, (Array.getElem?_eq_some_iff.1 hg).1, hg, fun k hk => ?_⟩⟩
    have h3 : (cur.toList.take (l.length * 1))[k]? = (l.map (Value.int .i64))[k]? := by rw [ht]
    rw [Nat.mul_one, List.getElem?_take_of_lt hk] at h3
    rw [Nat.zero_add]
    simpa [hk] using h3
theorem OwnInts.piece {g : Nat} {w : World} {l : List Int} (h : OwnInts w g l) {B C : Nat} (hB : B ≤ g) (hC : g < C) (c : Nat) (hc : l.length ≤ c := by simp) : Piece B C w (.slice (some ⟨g, 0, none⟩) l.length c) l :=
  ⟨_, c, rfl, hc, .inr ⟨g, 0, vals l, 3, rfl, hB, hC, h, fun k hk => by rw [Nat.zero_add]; exact vals_at hk⟩⟩
/-- Two slices have no cell together. -/
def Apart (v u : Value) : Prop := ∀ g off n c off' n' c', v = .slice (some ⟨g, off, none⟩) n c → u = .slice (some ⟨g, off', none⟩) n' c' → n = 0 ∨ n' = 0 ∨ off + n ≤ off' ∨ off' + n' ≤ off
theorem Apart.symm {v u : Value} (h : Apart v u) : Apart u v := by
  intro g off n c off' n' c' h1 h2
  have := h g off' n' c' off n c h2 h1
  omega
theorem apart_blocks {v u : Value} (h : ∀ g off n c off' n' c', v = .slice (some ⟨g, off, none⟩) n c → ¬ u = .slice (some ⟨g, off', none⟩) n' c') : Apart v u := fun g off n c off' n' c' h1 h2 => absurd h2 (h g off n c off' n' c' h1)
theorem Piece.apart {B C B' C' : Nat} {w w' : World} {v u : Value} {l m : List Int} (h : Piece B C w v l) (k : Piece B' C' w' u m) (hd : C ≤ B' ∨ C' ≤ B) : Apart v u := by
  obtain ⟨a, c, rfl, hle, h⟩ := h
  obtain ⟨b, d, rfl, _, k⟩ := k
  intro g off n c off' n' c' h1 h2
  cases h1
  cases h2
  rcases h with rfl | ⟨g1, o1, _, _, e1, q1, q2, _⟩
  · exact .inl rfl
  rcases k with rfl | ⟨g2, o2, _, _, e2, r1, r2, _⟩
  · exact .inr (.inl rfl)
  cases e1
  cases e2
  omega
/-- The world is as it was but for the cells of one slice. -/
structure Only (v : Value) (w w' : World) : Prop where
  os : w'.os = w.os
  tape : w'.tape = w.tape
  output : w'.output = w.output
  size : w'.heap.size = w.heap.size
  block : ∀ k, k < w.heap.size → (∀ off n c, v = .slice (some ⟨k, off, none⟩) n c → n = 0) → w'.heap[k]? = w.heap[k]?
  cells : ∀ g off n c, v = .slice (some ⟨g, off, none⟩) n c → ∀ cur t, w.heap[g]? = some (.cells cur t (0, 0)) → ∃ cur', w'.heap[g]? = some (.cells cur' t (0, 0)) ∧ ∀ i, (i < off ∨ off + n ≤ i) → cur'[i]? = cur[i]?
theorem Only.refl (v : Value) (w : World) : Only v w w := ⟨rfl, rfl, rfl, rfl, fun _ _ _ => rfl, fun _ _ _ _ _ cur t h => ⟨cur, h, fun _ _ => rfl⟩⟩
theorem Only.win {B C : Nat} {w w' : World} {v : Value} {l : List Int} (h : Only v w w') (hp : Piece B C w v l) : Win B C w w' := by
  refine ⟨h.os, h.tape, h.output, by rw [h.size]; exact Nat.le_refl _, fun k hk hd => h.block k hk ?_⟩
  obtain ⟨a, c, rfl, _, hp⟩ := hp
  intro off n c' e
  cases e
  rcases hp with rfl | ⟨g, off, cur, t, e, h1, h2, hg, r⟩
  · rfl
  · cases e; omega
theorem Piece.only {B C : Nat} {w w' : World} {v u : Value} {m : List Int} (h : Piece B C w u m) (hv : Only v w w') (ha : Apart v u) : Piece B C w' u m := by
  obtain ⟨a, c, rfl, hle, h⟩ := h
  refine ⟨a, c, rfl, hle, ?_⟩
  rcases h with rfl | ⟨g, off, cur, t, rfl, h1, h2, hg, r⟩
  · exact .inl rfl
  · by_cases hm : m.length = 0
    · exact .inl (List.eq_nil_of_length_eq_zero hm)
    by_cases hq : ∀ o n c, v = .slice (Option.some ⟨g, o, none⟩) n c → n = 0
    · exact .inr ⟨g, off, cur, t, rfl, h1, h2, by rw [hv.block g (Array.getElem?_eq_some_iff.1 hg).1 hq]; exact hg, r⟩
    · have : ∃ o n c, v = .slice (Option.some ⟨g, o, none⟩) n c ∧ n ≠ 0 := by
        apply Classical.byContradiction
        intro hh
        exact hq fun o n c e => Classical.byContradiction fun e2 => hh ⟨o, n, c, e, e2⟩
      obtain ⟨o, n, c', e, hn⟩ := this
      obtain ⟨cur', hg', hc'⟩ := hv.cells g o n c' e cur t hg
      refine .inr ⟨g, off, cur', t, rfl, h1, h2, hg', fun k hk => ?_⟩
      have hap := ha g o n c' off m.length c e rfl
      rw [hc' (off + k) (by omega)]
      exact r k hk
end Go.Proofs.YtnkacfgbkfkhdaaGreat
namespace Go.Proofs.YtnkacfgbkfkhdaaGreat
open Go.RowKit
set_option linter.unusedVariables false
set_option linter.unusedSimpArgs false
/-- An array that can be read. -/
def ArrI (w : World) (v : Value) (s d : List Int) : Prop := ∃ a c b e, v = .agg #[.slice a s.length c, .slice b d.length e] ∧ Ints w a s ∧ Ints w b d ∧ s.length ≤ c ∧ d.length ≤ e
theorem ArrI.keep {w w' : World} {v : Value} {s d : List Int} (h : ArrI w v s d) (hb : Below w.heap.size w w') : ArrI w' v s d := by
  obtain ⟨a, c, b, e, rfl, h1, h2, g1, g2⟩ := h
  exact ⟨a, c, b, e, rfl, h1.keep hb, h2.keep hb, g1, g2⟩
/-- An array in memory of its own, in blocks from B on and below C. -/
def Arr (B C : Nat) (w : World) (v : Value) (s d : List Int) : Prop := ∃ x y, v = .agg #[x, y] ∧ Piece B C w x s ∧ Piece B C w y d ∧ Apart x y
theorem Arr.arrI {B C : Nat} {w : World} {v : Value} {s d : List Int} (h : Arr B C w v s d) : ArrI w v s d := by
  obtain ⟨x, y, rfl, h1, h2, _⟩ := h
  obtain ⟨a, c, rfl, g1, i1⟩ := h1.intsC
  obtain ⟨b, e, rfl, g2, i2⟩ := h2.intsC
  exact ⟨a, c, b, e, rfl, i1, i2, g1, g2⟩
theorem Arr.keep {B C : Nat} {w w' : World} {v : Value} {s d : List Int} (h : Arr B C w v s d) (hb : Below w.heap.size w w') : Arr B C w' v s d := by
  obtain ⟨x, y, rfl, h1, h2, h3⟩ := h
  exact ⟨x, y, rfl, h1.keep hb, h2.keep hb, h3⟩
theorem Arr.win {B C B' C' : Nat} {w w' : World} {v : Value} {s d : List Int} (h : Arr B' C' w v s d) (hw : Win B C w w') (hd : C' ≤ B ∨ C ≤ B') : Arr B' C' w' v s d := by
  obtain ⟨x, y, rfl, h1, h2, h3⟩ := h
  exact ⟨x, y, rfl, h1.win hw hd, h2.win hw hd, h3⟩
theorem Arr.mono {B C B' C' : Nat} {w : World} {v : Value} {s d : List Int} (h : Arr B C w v s d) (hB : B' ≤ B) (hC : C ≤ C') : Arr B' C' w v s d := by
  obtain ⟨x, y, rfl, h1, h2, h3⟩ := h
  exact ⟨x, y, rfl, h1.mono hB hC, h2.mono hB hC, h3⟩
theorem arr_zero (B C : Nat) (w : World) : Arr B C w (.agg #[.slice none 0 0, .slice none 0 0]) [] [] := ⟨_, _, rfl, Piece.nil _ _ _, Piece.nil _ _ _, fun g off n c off' n' c' h => by cases h⟩
theorem Win.refl (B C : Nat) (w : World) : Win B C w w := ⟨rfl, rfl, rfl, Nat.le_refl _, fun _ _ _ => rfl⟩
theorem Win.trans {B C : Nat} {a b c : World} (h : Win B C a b) (k : Win B C b c) : Win B C a c :=
  ⟨k.os.trans h.os, k.tape.trans h.tape, k.output.trans h.output, Nat.le_trans h.size k.size, fun i hi hd => (k.block i (Nat.lt_of_lt_of_le hi h.size) hd).trans (h.block i hi hd)⟩
theorem Below.win {B C : Nat} {w w' : World} (h : Below w.heap.size w w') : Win B C w w' := ⟨h.os, h.tape, h.output, h.size, fun k hk _ => h.block k hk⟩
theorem cell_newA (w : World) (cs : Array Value) (t : TypeId) {k : Nat} {v : Value} (h : cs[k]? = some v) : (w.alloc (.cells cs t)).cell? ⟨w.heap.size, k, none⟩ = some v := by
  rw [World.cell?_alloc_at _ _ _ _ rfl]; exact h
theorem Piece.notNew {B C k : Nat} {w : World} {v : Value} {l : List Int} (h : Piece B C w v l) (hk : w.heap.size ≤ k) : ∀ off n c, v = .slice (Option.some ⟨k, off, none⟩) n c → n = 0 := by
  obtain ⟨a, c, rfl, _, h⟩ := h
  intro off n c' e
  cases e
  rcases h with rfl | ⟨g, off, cur, t, e, _, _, hg, _⟩
  · rfl
  · cases e
    have := (Array.getElem?_eq_some_iff.1 hg).1
    omega
theorem cell_at {w : World} {g k : Nat} {cs : Array Value} {t : TypeId} {fr : Nat × Nat} {v : Value} (h : w.heap[g]? = some (.cells cs t fr)) (hk : cs[k]? = some v) : w.cell? ⟨g, k, none⟩ = some v := by
  simp only [World.cell?, h]
  simpa using hk
theorem free_at {w : World} {g : Nat} {cs : Array Value} {t : TypeId} (h : w.heap[g]? = some (.cells cs t (0, 0))) (k : Nat) : w.frozen? ⟨g, k, none⟩ = false := by simp [World.frozen?, h]
theorem win_setCell (w : World) (g o : Nat) (u : Value) : Win g (g + 1) w (w.setCell ⟨g, o, none⟩ u) :=
  ⟨rfl, rfl, rfl, by simp [World.setCell], fun k _ hk => Below.heap_setCell _ _ _ _ (by show k ≠ g; omega)⟩
theorem size_setCell (w : World) (a : Addr) (u : Value) : (w.setCell a u).heap.size = w.heap.size := by simp [World.setCell]
/-- An array stays while a block below it is written. -/
theorem Arr.setCell {B C g : Nat} {w : World} {v : Value} {s d : List Int} (h : Arr B C w v s d) (hg : g < B) (o : Nat) (u : Value) : Arr B C (w.setCell ⟨g, o, none⟩ u) v s d := h.win (win_setCell w g o u) (.inr (by omega))
theorem Win.setCell {B C g : Nat} {a w : World} (h : Win B C a w) (h1 : B ≤ g) (h2 : g < C) (o : Nat) (u : Value) : Win B C a (w.setCell ⟨g, o, none⟩ u) :=
  h.trans ⟨rfl, rfl, rfl, by simp [World.setCell], fun k _ hk => Below.heap_setCell _ _ _ _ (by show k ≠ g; omega)⟩
theorem below_setCell {B g : Nat} {a w : World} (h : Below B a w) (hg : B ≤ g) (o : Nat) (u : Value) : Below B a (w.setCell ⟨g, o, none⟩ u) :=
  h.trans ⟨rfl, rfl, rfl, by simp [World.setCell], fun k hk => Below.heap_setCell _ _ _ _ (by show k ≠ g; omega)⟩
theorem lt_of_heapA {w : World} {b : Nat} {o : Obj} (h : w.heap[b]? = some o) : b < w.heap.size := (Array.getElem?_eq_some_iff.1 h).1
theorem ret_numA {a b : Int} (h : a = b) : Ending.returned (.int .i64 a) = Ending.returned (.int .i64 b) := by rw [h]
/-- What is left of a count. -/
def szV (n : Nat) (left : Int) : Int := if left - n < 0 then -1 else left - n
theorem arr_two {X : World} {n B : Nat} {s d : List Int} (hn : X.heap.size = n) (hB : B ≤ n) :
    Arr B ((X.alloc (.cells (vals s) 3)).alloc (.cells (vals d) 3)).heap.size ((X.alloc (.cells (vals s) 3)).alloc (.cells (vals d) 3)) (.agg #[.slice (some ⟨n, 0, none⟩) s.length s.length, .slice (some ⟨n + 1, 0, none⟩) d.length d.length]) s d := by
  subst hn
  have o1 : OwnInts ((X.alloc (.cells (vals s) 3)).alloc (.cells (vals d) 3)) X.heap.size s := heap_alloc2_old X _ _
  have o2 : OwnInts ((X.alloc (.cells (vals s) 3)).alloc (.cells (vals d) 3)) (X.heap.size + 1) d := heap_alloc2_new X _ _
  refine ⟨_, _, rfl, o1.piece hB (by simp; omega) _, o2.piece (by omega) (by simp) _, fun g off n c off' n' c' h1 h2 => ?_⟩
  cases h1
  injection h2 with h2
  injection h2 with h2
  injection h2 with h2
  omega
end Go.Proofs.YtnkacfgbkfkhdaaGreat
namespace Go.Proofs.YtnkacfgbkfkhdaaGreat
open Go.RowKit Go.ChangeShapes Go.WideShapes Go.ChangeAt
set_option linter.unusedVariables false
/-- A list of numbers that can be read. -/
def IntsI (w : World) (v : Value) (l : List Int) : Prop := ∃ a c, v = .slice a l.length c ∧ l.length ≤ c ∧ Ints w a l
theorem IntsI.keep {w w' : World} {v : Value} {l : List Int} (h : IntsI w v l) (hb : Below w.heap.size w w') : IntsI w' v l := by
  obtain ⟨a, c, rfl, hle, h⟩ := h
  exact ⟨a, c, rfl, hle, h.keep hb⟩
theorem Piece.intsI {B C : Nat} {w : World} {v : Value} {l : List Int} (h : Piece B C w v l) : IntsI w v l := h.intsC
theorem ints_of_rowB {w : World} {a : Option Addr} {len cap : Nat} {zs : List Int} (h : IsRow .i64 w a len cap zs) : ∃ l : List Int, l.length = len ∧ Ints w a l ∧ l.length ≤ 9223372036854775807 := by
  obtain ⟨l, e, hi⟩ := ints_of_row h
  refine ⟨l, e, hi, ?_⟩
  rcases h with ⟨_, rfl, _⟩ | ⟨x, _, h1, h2, _⟩
  · omega
  · unfold maxLen at h2; omega
theorem cell_ints {H : Type} {enc : TypeId × Value → H} {W : World} {base : Nat} {held : Bool} {n : Nat} {c : Value} {y : DataW H × List MemPlace} (h : DataW.trod enc Tryz.prog W base (fun _ => true) held n 24 [c] = some y) :
    ∃ l, IntsI W c l ∧ l.length ≤ 9223372036854775807 := by
  rcases open_ints Tryz.underlying24 Tryz.underlying3 (by kernel_rfl) h with ⟨hcs, _⟩ | ⟨x, l, c', zs, hcs, _, hl, hm, hz, _, hcell, hwz⟩
  · simp at hcs
    subst hcs
    exact ⟨[], ⟨_, _, rfl, by simp, .inl rfl⟩, by simp⟩
  · simp at hcs
    subst hcs
    obtain ⟨k, e, hi, hb⟩ := ints_of_rowB (w := W) (a := some x) (len := l) (cap := c') (zs := zs) (.inr ⟨_, rfl, hl, hm, by simpa using hz, hcell, hwz⟩)
    subst e
    exact ⟨k, ⟨_, _, rfl, hl, hi⟩, hb⟩
end Go.Proofs.YtnkacfgbkfkhdaaGreat
