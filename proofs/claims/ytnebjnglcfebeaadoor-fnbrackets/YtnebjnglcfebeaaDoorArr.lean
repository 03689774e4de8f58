
/-
  Arrays by value (a shape and its numbers), and the laws' own helpers on them: szArray, toArray, eqArray, markArray, heldArray.
-/
import Derived.Test.YtnebjnglcfebeaaDoorPiece
namespace Go.Proofs.YtnebjnglcfebeaaDoor
open Go.RowKit
set_option linter.unusedVariables false
set_option linter.unusedSimpArgs false
/-- An array that can be read. -/
def ArrI (w : World) (v : Value) (s d : List Int) : Prop := ∃ a c b e, v = .agg #[.slice a s.length c, .slice b d.length e] ∧ Ints w a s ∧ Ints w b d ∧ s.length ≤ c ∧ d.length ≤ e
theorem ArrI.keep {w w' : World} {v : Value} {s d : List Int} (h : ArrI w v s d) (hb : Below w.heap.size w w') : ArrI w' v s d := by
  obtain ⟨a, c, b, e, rfl, h1, h2, g1, g2⟩ := h
  exact ⟨a, c, b, e, rfl, h1.keep hb, h2.keep hb, g1, g2⟩
/-- An array in memory of its own, in blocks from B on and below C. -/
def Arr (B C : Nat) (w : World) (v : Value) (s d : List Int) : Prop := ∃ x y, v = .agg #[x, y] ∧ Piece B C w x s ∧ Piece B C w y d ∧ Apart x y
theorem Arr.arrI {B C : Nat} {w : World} {v : Value} {s d : List Int} (h : Arr B C w v s d) : ArrI w v s d := by
  obtain ⟨x, y, rfl, h1, h2, _⟩ := h
  obtain ⟨a, c, rfl, g1, i1⟩ := h1.intsC
  obtain ⟨b, e, rfl, g2, i2⟩ := h2.intsC
  exact ⟨a, c, b, e, rfl, i1, i2, g1, g2⟩
theorem Arr.keep {B C : Nat} {w w' : World} {v : Value} {s d : List Int} (h : Arr B C w v s d) (hb : Below w.heap.size w w') : Arr B C w' v s d := by
  obtain ⟨x, y, rfl, h1, h2, h3⟩ := h
  exact ⟨x, y, rfl, h1.keep hb, h2.keep hb, h3⟩
theorem Arr.win {B C B' C' : Nat} {w w' : World} {v : Value} {s d : List Int} (h : Arr B' C' w v s d) (hw : Win B C w w') (hd : C' ≤ B ∨ C ≤ B') : Arr B' C' w' v s d := by
  obtain ⟨x, y, rfl, h1, h2, h3⟩ := h
  exact ⟨x, y, rfl, h1.win hw hd, h2.win hw hd, h3⟩
theorem Arr.mono {B C B' C' : Nat} {w : World} {v : Value} {s d : List Int} (h : Arr B C w v s d) (hB : B' ≤ B) (hC : C ≤ C') : Arr B' C' w v s d := by
  obtain ⟨x, y, rfl, h1, h2, h3⟩ := h
  exact ⟨x, y, rfl, h1.mono hB hC, h2.mono hB hC, h3⟩
theorem arr_zero (B C : Nat) (w : World) : Arr B C w (.agg #[.slice none 0 0, .slice none 0 0]) [] [] := ⟨_, _, rfl, Piece.nil _ _ _, Piece.nil _ _ _, fun g off n c off' n' c' h => by cases h⟩
theorem Win.refl (B C : Nat) (w : World) : Win B C w w := ⟨rfl, rfl, rfl, Nat.le_refl _, fun _ _ _ => rfl⟩
theorem Win.trans {B C : Nat} {a b c : World} (h : Win B C a b) (k : Win B C b c) : Win B C a c :=
  ⟨k.os.trans h.os, k.tape.trans h.tape, k.output.trans h.output, Nat.le_trans h.size k.size, fun i hi hd => (k.block i (Nat.lt_of_lt_of_le hi h.size) hd).trans (h.block i hi hd)⟩
theorem Below.win {B C : Nat} {w w' : World} (h : Below w.heap.size w w') : Win B C w w' := ⟨h.os, h.tape, h.output, h.size, fun k hk _ => h.block k hk⟩
theorem cell_newA (w : World) (cs : Array Value) (t : TypeId) {k : Nat} {v : Value} (h : cs[k]? = some v) : (w.alloc (.cells cs t)).cell? ⟨w.heap.size, k, none⟩ = some v := by
  rw [World.cell?_alloc_at _ _ _ _ rfl]; exact h
theorem Piece.notNew {B C k : Nat} {w : World} {v : Value} {l : List Int} (h : Piece B C w v l) (hk : w.heap.size ≤ k) : ∀ off n c, v = .slice (some ⟨k, off, none⟩) n c → n = 0 := by
  obtain ⟨a, c, rfl, _, h⟩ := h
  intro off n c' e
  cases e
  rcases h with rfl | ⟨g, off, cur, t, e, _, _, hg, _⟩
  · rfl
  · cases e
    have := (Array.getElem?_eq_some_iff.1 hg).1
    omega
theorem cell_at {w : World} {g k : Nat} {cs : Array Value} {t : TypeId} {fr : Nat × Nat} {v : Value} (h : w.heap[g]? = some (.cells cs t fr)) (hk : cs[k]? = some v) : w.cell? ⟨g, k, none⟩ = some v := by
  simp only [World.cell?, h]
  simpa using hk
theorem free_at {w : World} {g : Nat} {cs : Array Value} {t : TypeId} (h : w.heap[g]? = some (.cells cs t (0, 0))) (k : Nat) : w.frozen? ⟨g, k, none⟩ = false := by simp [World.frozen?, h]
theorem win_setCell (w : World) (g o : Nat) (u : Value) : Win g (g + 1) w (w.setCell ⟨g, o, none⟩ u) :=
  ⟨rfl, rfl, rfl, by simp [World.setCell], fun k _ hk => Below.heap_setCell _ _ _ _ (by show k ≠ g; omega)⟩
theorem size_setCell (w : World) (a : Addr) (u : Value) : (w.setCell a u).heap.size = w.heap.size := by simp [World.setCell]
/-- An array stays while a block below it is written. -/
theorem Arr.setCell {B C g : Nat} {w : World} {v : Value} {s d : List Int} (h : Arr B C w v s d) (hg : g < B) (o : Nat) (u : Value) : Arr B C (w.setCell ⟨g, o, none⟩ u) v s d := h.win (win_setCell w g o u) (.inr (by omega))
theorem Win.setCell {B C g : Nat} {a w : World} (h : Win B C a w) (h1 : B ≤ g) (h2 : g < C) (o : Nat) (u : Value) : Win B C a (w.setCell ⟨g, o, none⟩ u) :=
  h.trans ⟨rfl, rfl, rfl, by simp [World.setCell], fun k _ hk => Below.heap_setCell _ _ _ _ (by show k ≠ g; omega)⟩
theorem below_setCell {B g : Nat} {a w : World} (h : Below B a w) (hg : B ≤ g) (o : Nat) (u : Value) : Below B a (w.setCell ⟨g, o, none⟩ u) :=
  h.trans ⟨rfl, rfl, rfl, by simp [World.setCell], fun k hk => Below.heap_setCell _ _ _ _ (by show k ≠ g; omega)⟩
theorem lt_of_heapA {w : World} {b : Nat} {o : Obj} (h : w.heap[b]? = some o) : b < w.heap.size := (Array.getElem?_eq_some_iff.1 h).1
theorem ret_numA {a b : Int} (h : a = b) : Ending.returned (.int .i64 a) = Ending.returned (.int .i64 b) := by rw [h]
/-- What is left of a count. -/
def szV (n : Nat) (left : Int) : Int := if left - n < 0 then -1 else left - n
theorem arr_two {X : World} {n B : Nat} {s d : List Int} (hn : X.heap.size = n) (hB : B ≤ n) :
    Arr B ((X.alloc (.cells (vals s) 3)).alloc (.cells (vals d) 3)).heap.size ((X.alloc (.cells (vals s) 3)).alloc (.cells (vals d) 3)) (.agg #[.slice (some ⟨n, 0, none⟩) s.length s.length, .slice (some ⟨n + 1, 0, none⟩) d.length d.length]) s d := by
  subst hn
  have o1 : OwnInts ((X.alloc (.cells (vals s) 3)).alloc (.cells (vals d) 3)) X.heap.size s := heap_alloc2_old X _ _
  have o2 : OwnInts ((X.alloc (.cells (vals s) 3)).alloc (.cells (vals d) 3)) (X.heap.size + 1) d := heap_alloc2_new X _ _
  refine ⟨_, _, rfl, o1.piece hB (by simp; omega) _, o2.piece (by omega) (by simp) _, fun g off n c off' n' c' h1 h2 => ?_⟩
  cases h1
  injection h2 with h2
  injection h2 with h2
  injection h2 with h2
  omega
end Go.Proofs.YtnebjnglcfebeaaDoor
