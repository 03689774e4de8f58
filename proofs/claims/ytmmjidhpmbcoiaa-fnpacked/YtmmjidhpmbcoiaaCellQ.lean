/-
  Lists of cells: told by value; in a block of one's own, and what a mark turns.
-/
import Derived.Test.YtmmjidhpmbcoiaaArr
import Derived.Test.YtmmjidhpmbcoiaaFrame
namespace Go.Proofs.Ytmmjidhpmbcoiaa
open Go.RowKit
set_option linter.unusedVariables false
set_option linter.unusedSimpArgs false
/-- A cell: where it begins, how many words it has, whether it is in use. -/
structure Cel where
  f : Int
  l : Int
  v : Bool
instance : Inhabited Cel := ⟨⟨0, 0, false⟩⟩
def cel0 : Cel := ⟨0, 0, false⟩
theorem Cel.ext' {c d : Cel} (h1 : c.f = d.f) (h2 : c.l = d.l) (h3 : c.v = d.v) : c = d := by
  cases c; cases d; simp_all
/-- The same but for one. -/
def up (E : Nat → Cel) (k : Nat) (c : Cel) : Nat → Cel := fun i => if i = k then c else E i
theorem up_at (E : Nat → Cel) (k : Nat) (c : Cel) : up E k c k = c := by simp [up]
theorem up_ne (E : Nat → Cel) {k i : Nat} (c : Cel) (h : i ≠ k) : up E k c i = E i := by simp [up, h]
/-- These n cells lie at an address. -/
def CsA (w : World) (a : Option Addr) (n : Nat) (E : Nat → Cel) : Prop :=
  n = 0 ∨ ∃ o off, a = some ⟨o, off, none⟩ ∧ o < w.heap.size ∧ ∀ i, i < n →
    w.cell? ⟨o, off + i * 3, none⟩ = some (.int .i64 (E i).f) ∧ w.cell? ⟨o, off + i * 3 + 1, none⟩ = some (.int .i64 (E i).l) ∧ w.cell? ⟨o, off + i * 3 + 2, none⟩ = some (.bool (E i).v)
section
variable {w w' : World} {a : Option Addr} {n : Nat} {E : Nat → Cel} {v : Value}
theorem CsA.at (h : CsA w a n E) {i : Nat} (hi : i < n) : ∃ o off, a = some ⟨o, off, none⟩ ∧ o < w.heap.size ∧
    w.cell? ⟨o, off + i * 3, none⟩ = some (.int .i64 (E i).f) ∧ w.cell? ⟨o, off + i * 3 + 1, none⟩ = some (.int .i64 (E i).l) ∧ w.cell? ⟨o, off + i * 3 + 2, none⟩ = some (.bool (E i).v) := by
  rcases h with h | ⟨o, off, e, ho, h⟩
  · omega
  · exact ⟨o, off, e, ho, h i hi⟩
theorem CsA.keep (h : CsA w a n E) (hb : Below w.heap.size w w') : CsA w' a n E := by
  rcases h with h | ⟨o, off, e, ho, h⟩
  · exact .inl h
  · refine .inr ⟨o, off, e, Nat.lt_of_lt_of_le ho hb.size, fun i hi => ?_⟩
    obtain ⟨h1, h2, h3⟩ := h i hi
    exact ⟨by rw [hb.cell (p := ⟨o, off + i * 3, none⟩) ho]; exact h1, by rw [hb.cell (p := ⟨o, off + i * 3 + 1, none⟩) ho]; exact h2, by rw [hb.cell (p := ⟨o, off + i * 3 + 2, none⟩) ho]; exact h3⟩
theorem CsA.congr {E' : Nat → Cel} (h : CsA w a n E) (he : ∀ i, i < n → E' i = E i) : CsA w a n E' := by
  rcases h with h | ⟨o, off, e, ho, h⟩
  · exact .inl h
  · exact .inr ⟨o, off, e, ho, fun i hi => by rw [he i hi]; exact h i hi⟩
/-- A slice of n cells. -/
def CsI (w : World) (v : Value) (n : Nat) (E : Nat → Cel) : Prop := ∃ a c, v = .slice a n c ∧ n ≤ c ∧ CsA w a n E
theorem CsI.keep (h : CsI w v n E) (hb : Below w.heap.size w w') : CsI w' v n E := by
  obtain ⟨a, c, e, hc, h⟩ := h
  exact ⟨a, c, e, hc, h.keep hb⟩
/-- n cells from the beginning of a block that can be written. -/
def CBlk (w : World) (g n : Nat) (E : Nat → Cel) : Prop :=
  ∃ cur t, w.heap[g]? = some (.cells cur t (0, 0)) ∧ ∀ i, i < n → cur[i * 3]? = some (.int .i64 (E i).f) ∧ cur[i * 3 + 1]? = some (.int .i64 (E i).l) ∧ cur[i * 3 + 2]? = some (.bool (E i).v)
variable {g k : Nat}
theorem CBlk.lt (h : CBlk w g n E) : g < w.heap.size := by obtain ⟨cur, t, h, _⟩ := h; exact lt_of_heapA h
theorem CBlk.cells (h : CBlk w g n E) (hk : k < n) : w.cell? ⟨g, k * 3, none⟩ = some (.int .i64 (E k).f) ∧ w.cell? ⟨g, k * 3 + 1, none⟩ = some (.int .i64 (E k).l) ∧ w.cell? ⟨g, k * 3 + 2, none⟩ = some (.bool (E k).v) ∧
    w.frozen? ⟨g, k * 3, none⟩ = false ∧ w.frozen? ⟨g, k * 3 + 1, none⟩ = false ∧ w.frozen? ⟨g, k * 3 + 2, none⟩ = false := by
  obtain ⟨cur, t, hg, h⟩ := h
  obtain ⟨h1, h2, h3⟩ := h k hk
  exact ⟨cell_at hg h1, cell_at hg h2, cell_at hg h3, free_at hg _, free_at hg _, free_at hg _⟩
theorem CBlk.csA (h : CBlk w g n E) : CsA w (some ⟨g, 0, none⟩) n E := by
  have hl := h.lt
  obtain ⟨cur, t, hg, h⟩ := h
  refine .inr ⟨g, 0, rfl, hl, fun i hi => ?_⟩
  obtain ⟨h1, h2, h3⟩ := h i hi
  rw [Nat.zero_add]
  exact ⟨cell_at hg h1, cell_at hg h2, cell_at hg h3⟩
theorem CBlk.congr {E' : Nat → Cel} (h : CBlk w g n E) (he : ∀ i, i < n → E' i = E i) : CBlk w g n E' := by
  obtain ⟨cur, t, hg, h⟩ := h
  exact ⟨cur, t, hg, fun i hi => by rw [he i hi]; exact h i hi⟩
theorem CBlk.win {B C : Nat} (h : CBlk w g n E) (hw : Win B C w w') (hd : g < B ∨ C ≤ g) : CBlk w' g n E := by
  have hl := h.lt
  obtain ⟨cur, t, hg, h⟩ := h
  exact ⟨cur, t, by rw [hw.block g hl hd]; exact hg, h⟩
theorem CBlk.keep (h : CBlk w g n E) (hb : Below w.heap.size w w') : CBlk w' g n E := h.win (B := w.heap.size) (C := w.heap.size) (Below.win hb) (.inl h.lt)
/-- One of them is set. -/
theorem CBlk.set (h : CBlk w g n E) (hk : k < n) (c : Cel) : CBlk (((w.setCell ⟨g, k * 3, none⟩ (.int .i64 c.f)).setCell ⟨g, k * 3 + 1, none⟩ (.int .i64 c.l)).setCell ⟨g, k * 3 + 2, none⟩ (.bool c.v)) g n (up E k c) := by
  obtain ⟨cur, t, hg, h⟩ := h
  have s1 := heap_setCell_same w g (k * 3) _ _ (.int .i64 c.f) hg
  have s2 := heap_setCell_same _ g (k * 3 + 1) _ _ (.int .i64 c.l) s1
  have s3 := heap_setCell_same _ g (k * 3 + 2) _ _ (.bool c.v) s2
  obtain ⟨k1, k2, k3⟩ := h k hk
  have l1 := (Array.getElem?_eq_some_iff.1 k1).1
  have l2 := (Array.getElem?_eq_some_iff.1 k2).1
  have l3 := (Array.getElem?_eq_some_iff.1 k3).1
  refine ⟨_, t, s3, fun i hi => ?_⟩
  by_cases e : i = k
  · subst e
    rw [up_at]
    refine ⟨?_, ?_, ?_⟩
    · rw [Array.getElem?_setIfInBounds, if_neg (by omega), Array.getElem?_setIfInBounds, if_neg (by omega), Array.getElem?_setIfInBounds, if_pos rfl, if_pos (by (try simp only [Array.size_setIfInBounds]); omega)]
    · rw [Array.getElem?_setIfInBounds, if_neg (by omega), Array.getElem?_setIfInBounds, if_pos rfl, if_pos (by (try simp only [Array.size_setIfInBounds]); omega)]
    · rw [Array.getElem?_setIfInBounds, if_pos rfl, if_pos (by (try simp only [Array.size_setIfInBounds]); omega)]
  · obtain ⟨q1, q2, q3⟩ := h i hi
    rw [up_ne E c e]
    refine ⟨?_, ?_, ?_⟩
    · rw [Array.getElem?_setIfInBounds, if_neg (by omega), Array.getElem?_setIfInBounds, if_neg (by omega), Array.getElem?_setIfInBounds, if_neg (by omega)]; exact q1
    · rw [Array.getElem?_setIfInBounds, if_neg (by omega), Array.getElem?_setIfInBounds, if_neg (by omega), Array.getElem?_setIfInBounds, if_neg (by omega)]; exact q2
    · rw [Array.getElem?_setIfInBounds, if_neg (by omega), Array.getElem?_setIfInBounds, if_neg (by omega), Array.getElem?_setIfInBounds, if_neg (by omega)]; exact q3
theorem set3_win (w : World) (g k : Nat) (x y z : Value) : Win g (g + 1) w (((w.setCell ⟨g, k * 3, none⟩ x).setCell ⟨g, k * 3 + 1, none⟩ y).setCell ⟨g, k * 3 + 2, none⟩ z) :=
  have t : ∀ {a b c : World}, Win g (g + 1) a b → Win g (g + 1) b c → Win g (g + 1) a c := fun h k => ⟨by rw [k.os, h.os], by rw [k.tape, h.tape], by rw [k.output, h.output], Nat.le_trans h.size k.size, fun j hj hd => by rw [k.block j (Nat.lt_of_lt_of_le hj h.size) hd, h.block j hj hd]⟩
  t (t (win_setCell _ _ _ _) (win_setCell _ _ _ _)) (win_setCell _ _ _ _)
theorem set3_size (w : World) (g k : Nat) (x y z : Value) : (((w.setCell ⟨g, k * 3, none⟩ x).setCell ⟨g, k * 3 + 1, none⟩ y).setCell ⟨g, k * 3 + 2, none⟩ z).heap.size = w.heap.size := by simp [World.setCell]
/-- A slice of n cells; if there are any, they lie in one block from B on and below C, at its beginning, and can be written. -/
def CPiece (B C : Nat) (w : World) (v : Value) (n : Nat) (E : Nat → Cel) : Prop :=
  ∃ a c, v = .slice a n c ∧ n ≤ c ∧ (n = 0 ∨ ∃ g, a = some ⟨g, 0, none⟩ ∧ B ≤ g ∧ g < C ∧ CBlk w g n E)
variable {B C : Nat}
theorem CPiece.csI (h : CPiece B C w v n E) : CsI w v n E := by
  obtain ⟨a, c, e, hc, h⟩ := h
  refine ⟨a, c, e, hc, ?_⟩
  rcases h with h | ⟨g, rfl, h1, h2, h⟩
  · exact .inl h
  · exact h.csA
theorem CPiece.nil (B C : Nat) (w : World) (E : Nat → Cel) : CPiece B C w (.slice none 0 0) 0 E := ⟨none, 0, rfl, Nat.le_refl _, .inl rfl⟩
theorem CPiece.mono {B' C' : Nat} (h : CPiece B C w v n E) (hB : B' ≤ B) (hC : C ≤ C') : CPiece B' C' w v n E := by
  obtain ⟨a, c, e, hc, h⟩ := h
  refine ⟨a, c, e, hc, ?_⟩
  rcases h with h | ⟨g, rfl, h1, h2, h⟩
  · exact .inl h
  · exact .inr ⟨g, rfl, by omega, by omega, h⟩
theorem CPiece.congr {E' : Nat → Cel} (h : CPiece B C w v n E) (he : ∀ i, i < n → E' i = E i) : CPiece B C w v n E' := by
  obtain ⟨a, c, e, hc, h⟩ := h
  refine ⟨a, c, e, hc, ?_⟩
  rcases h with h | ⟨g, rfl, h1, h2, h⟩
  · exact .inl h
  · exact .inr ⟨g, rfl, h1, h2, h.congr he⟩
theorem CPiece.win {B' C' : Nat} (h : CPiece B C w v n E) (hw : Win B' C' w w') (hd : C ≤ B' ∨ C' ≤ B) : CPiece B C w' v n E := by
  obtain ⟨a, c, e, hc, h⟩ := h
  refine ⟨a, c, e, hc, ?_⟩
  rcases h with h | ⟨g, rfl, h1, h2, h⟩
  · exact .inl h
  · exact .inr ⟨g, rfl, h1, h2, h.win hw (by omega)⟩
theorem CPiece.keep (h : CPiece B C w v n E) (hb : Below w.heap.size w w') : CPiece B C w' v n E := by
  obtain ⟨a, c, e, hc, h⟩ := h
  refine ⟨a, c, e, hc, ?_⟩
  rcases h with h | ⟨g, rfl, h1, h2, h⟩
  · exact .inl h
  · exact .inr ⟨g, rfl, h1, h2, h.keep hb⟩
end
theorem info_cell : (Try.prog.info? 47).map (fun i => (i.zero, i.size, i.bytes)) = some (some (.agg #[.int .i64 0, .int .i64 0, .bool false]), 3, 24) := by kernel_rfl
/-- A new list of cells, all zero. -/
theorem make_cells (n : Nat) (hn : n ≤ 1048576) (w : World) : ∃ w', (Instr.makeSlice 26 (.int .i64 (n : Int)) (.int .i64 (n : Int))).run Try.prog w = .ok (.slice (some ⟨w.heap.size, 0, none⟩) n n) w' ∧ CBlk w' w.heap.size n (fun _ => cel0) ∧ w'.heap.size = w.heap.size + 1 ∧ Below w.heap.size w w' := by
  have hi := info_cell
  cases hq : Try.prog.info? 47 with
  | none => rw [hq] at hi; cases hi
  | some i =>
    rw [hq] at hi
    simp at hi
    obtain ⟨z1, z2, z3⟩ := hi
    have q := run_make (P := Try.prog) w 26 47 i _ Try.underlying26 hq z1 .i64 .i64 (n : Int) (n : Int) (by omega) (by omega) (by rw [z3]; omega) (by omega)
    rw [z2, Int.toNat_natCast] at q
    refine ⟨_, q, ⟨_, _, heap_alloc_new w _, fun i hi => ?_⟩, by simp, bAlloc (Below.refl _ _) _⟩
    have hsz : (madeCells (Value.agg #[.int .i64 0, .int .i64 0, .bool false]).cells (n * 3)).size = n * 3 := by rw [size_madeCells]
    have at' : ∀ j, j < n * 3 → (madeCells (Value.agg #[.int .i64 0, .int .i64 0, .bool false]).cells (n * 3))[j]? = some (if j % 3 = 2 then .bool false else .int .i64 0) := by
      intro j hj
      rw [Array.getElem?_eq_getElem (by omega)]
      have : j % 3 = 0 ∨ j % 3 = 1 ∨ j % 3 = 2 := by omega
      rcases this with h | h | h <;> simp [madeCells, Value.cells, h]
    refine ⟨?_, ?_, ?_⟩
    · rw [at' _ (by omega), if_neg (by omega)]; rfl
    · rw [at' _ (by omega), if_neg (by omega)]; rfl
    · rw [at' _ (by omega), if_pos (by omega)]; rfl
end Go.Proofs.Ytmmjidhpmbcoiaa
