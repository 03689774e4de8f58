/-
  Lists of tokens: told by value; in a block of one's own, and what a mark turns; a list that grows by one.
-/
import Derived.Test.YtnebjnglcfebeaaDoorArr
import Derived.Test.YtnebjnglcfebeaaDoorFrame
import Derived.Test.YtnebjnglcfebeaaDoorGrow
import Derived.Deep.Slices
import Derived.Deep.Strs
namespace Go.Proofs.YtnebjnglcfebeaaDoor
open Go.RowKit Go.ChangeShapes Go.WideShapes
set_option linter.unusedVariables false
set_option linter.unusedSimpArgs false
/-- A token: its kind and its value. -/
structure Spn where
  f : Int
  t : Int
def spn0 : Spn := ⟨0, 0⟩
/-- The same but for one. -/
def upS (E : Nat → Spn) (k : Nat) (c : Spn) : Nat → Spn := fun i => if i = k then c else E i
theorem upS_at (E : Nat → Spn) (k : Nat) (c : Spn) : upS E k c k = c := by simp [upS]
theorem upS_ne (E : Nat → Spn) {k i : Nat} (c : Spn) (h : i ≠ k) : upS E k c i = E i := by simp [upS, h]
/-- These n tokens lie at an address. -/
def SsA (w : World) (a : Option Addr) (n : Nat) (E : Nat → Spn) : Prop :=
  n = 0 ∨ ∃ o off, a = some ⟨o, off, none⟩ ∧ o < w.heap.size ∧ ∀ i, i < n →
    w.cell? ⟨o, off + i * 2, none⟩ = some (.int .i64 (E i).f) ∧ w.cell? ⟨o, off + i * 2 + 1, none⟩ = some (.int .i64 (E i).t)
section
variable {w w' : World} {a : Option Addr} {n : Nat} {E : Nat → Spn} {v : Value}
theorem SsA.at (h : SsA w a n E) {i : Nat} (hi : i < n) : ∃ o off, a = some ⟨o, off, none⟩ ∧ o < w.heap.size ∧
    w.cell? ⟨o, off + i * 2, none⟩ = some (.int .i64 (E i).f) ∧ w.cell? ⟨o, off + i * 2 + 1, none⟩ = some (.int .i64 (E i).t) := by
  rcases h with h | ⟨o, off, e, ho, h⟩
  · omega
  · exact ⟨o, off, e, ho, h i hi⟩
theorem SsA.keep (h : SsA w a n E) (hb : Below w.heap.size w w') : SsA w' a n E := by
  rcases h with h | ⟨o, off, e, ho, h⟩
  · exact .inl h
  · refine .inr ⟨o, off, e, Nat.lt_of_lt_of_le ho hb.size, fun i hi => ?_⟩
    obtain ⟨h1, h2⟩ := h i hi
    exact ⟨by rw [hb.cell (p := ⟨o, off + i * 2, none⟩) ho]; exact h1, by rw [hb.cell (p := ⟨o, off + i * 2 + 1, none⟩) ho]; exact h2⟩
theorem SsA.congr {E' : Nat → Spn} (h : SsA w a n E) (he : ∀ i, i < n → E' i = E i) : SsA w a n E' := by
  rcases h with h | ⟨o, off, e, ho, h⟩
  · exact .inl h
  · exact .inr ⟨o, off, e, ho, fun i hi => by rw [he i hi]; exact h i hi⟩
/-- n tokens from the beginning of a block that can be written. -/
def SBlk (w : World) (g n : Nat) (E : Nat → Spn) : Prop :=
  ∃ cur t, w.heap[g]? = some (.cells cur t (0, 0)) ∧ ∀ i, i < n → cur[i * 2]? = some (.int .i64 (E i).f) ∧ cur[i * 2 + 1]? = some (.int .i64 (E i).t)
variable {g k : Nat}
theorem SBlk.lt (h : SBlk w g n E) : g < w.heap.size := by obtain ⟨cur, t, h, _⟩ := h; exact lt_of_heapA h
theorem SBlk.cells (h : SBlk w g n E) (hk : k < n) : w.cell? ⟨g, k * 2, none⟩ = some (.int .i64 (E k).f) ∧ w.cell? ⟨g, k * 2 + 1, none⟩ = some (.int .i64 (E k).t) ∧
    w.frozen? ⟨g, k * 2, none⟩ = false ∧ w.frozen? ⟨g, k * 2 + 1, none⟩ = false := by
  obtain ⟨cur, t, hg, h⟩ := h
  obtain ⟨h1, h2⟩ := h k hk
  exact ⟨cell_at hg h1, cell_at hg h2, free_at hg _, free_at hg _⟩
theorem SBlk.ssA (h : SBlk w g n E) : SsA w (some ⟨g, 0, none⟩) n E := by
  have hl := h.lt
  obtain ⟨cur, t, hg, h⟩ := h
  refine .inr ⟨g, 0, rfl, hl, fun i hi => ?_⟩
  obtain ⟨h1, h2⟩ := h i hi
  rw [Nat.zero_add]
  exact ⟨cell_at hg h1, cell_at hg h2⟩
theorem SBlk.congr {E' : Nat → Spn} (h : SBlk w g n E) (he : ∀ i, i < n → E' i = E i) : SBlk w g n E' := by
  obtain ⟨cur, t, hg, h⟩ := h
  exact ⟨cur, t, hg, fun i hi => by rw [he i hi]; exact h i hi⟩
theorem SBlk.win {B C : Nat} (h : SBlk w g n E) (hw : Win B C w w') (hd : g < B ∨ C ≤ g) : SBlk w' g n E := by
  have hl := h.lt
  obtain ⟨cur, t, hg, h⟩ := h
  exact ⟨cur, t, by rw [hw.block g hl hd]; exact hg, h⟩
theorem SBlk.keep (h : SBlk w g n E) (hb : Below w.heap.size w w') : SBlk w' g n E := h.win (B := w.heap.size) (C := w.heap.size) (Below.win hb) (.inl h.lt)
/-- One of them is set. -/
theorem SBlk.set (h : SBlk w g n E) (hk : k < n) (c : Spn) : SBlk ((w.setCell ⟨g, k * 2, none⟩ (.int .i64 c.f)).setCell ⟨g, k * 2 + 1, none⟩ (.int .i64 c.t)) g n (upS E k c) := by
  obtain ⟨cur, t, hg, h⟩ := h
  have s1 := heap_setCell_same w g (k * 2) _ _ (.int .i64 c.f) hg
  have s2 := heap_setCell_same _ g (k * 2 + 1) _ _ (.int .i64 c.t) s1
  obtain ⟨k1, k2⟩ := h k hk
  have l1 := (Array.getElem?_eq_some_iff.1 k1).1
  have l2 := (Array.getElem?_eq_some_iff.1 k2).1
  refine ⟨_, t, s2, fun i hi => ?_⟩
  by_cases e : i = k
  · subst e
    rw [upS_at]
    refine ⟨?_, ?_⟩
    · rw [Array.getElem?_setIfInBounds, if_neg (by omega), Array.getElem?_setIfInBounds, if_pos rfl, if_pos (by (try simp only [Array.size_setIfInBounds]); omega)]
    · rw [Array.getElem?_setIfInBounds, if_pos rfl, if_pos (by (try simp only [Array.size_setIfInBounds]); omega)]
  · obtain ⟨q1, q2⟩ := h i hi
    rw [upS_ne E c e]
    refine ⟨?_, ?_⟩
    · rw [Array.getElem?_setIfInBounds, if_neg (by omega), Array.getElem?_setIfInBounds, if_neg (by omega)]; exact q1
    · rw [Array.getElem?_setIfInBounds, if_neg (by omega), Array.getElem?_setIfInBounds, if_neg (by omega)]; exact q2
theorem set2_win (w : World) (g k : Nat) (x y : Value) : Win g (g + 1) w ((w.setCell ⟨g, k * 2, none⟩ x).setCell ⟨g, k * 2 + 1, none⟩ y) :=
  have t : ∀ {a b c : World}, Win g (g + 1) a b → Win g (g + 1) b c → Win g (g + 1) a c := fun h k => ⟨by rw [k.os, h.os], by rw [k.tape, h.tape], by rw [k.output, h.output], Nat.le_trans h.size k.size, fun j hj hd => by rw [k.block j (Nat.lt_of_lt_of_le hj h.size) hd, h.block j hj hd]⟩
  t (win_setCell _ _ _ _) (win_setCell _ _ _ _)
/-- A slice of n tokens; if there are any, they lie in one block from B on and below C, at its beginning, and can be written. -/
def SPiece (B C : Nat) (w : World) (v : Value) (n : Nat) (E : Nat → Spn) : Prop :=
  ∃ a c, v = .slice a n c ∧ n ≤ c ∧ (n = 0 ∨ ∃ g, a = some ⟨g, 0, none⟩ ∧ B ≤ g ∧ g < C ∧ SBlk w g n E)
variable {B C : Nat}
theorem SPiece.ssA {c : Nat} (h : SPiece B C w (.slice a n c) n E) : SsA w a n E := by
  obtain ⟨a, c, e, hc, h⟩ := h
  cases e
  rcases h with h | ⟨g, rfl, h1, h2, h⟩
  · exact .inl h
  · exact h.ssA
theorem SPiece.slice (h : SPiece B C w v n E) : ∃ a c, v = .slice a n c := by
  obtain ⟨a, c, e, _⟩ := h
  exact ⟨a, c, e⟩
theorem SPiece.congr {E' : Nat → Spn} (h : SPiece B C w v n E) (he : ∀ i, i < n → E' i = E i) : SPiece B C w v n E' := by
  obtain ⟨a, c, e, hc, h⟩ := h
  refine ⟨a, c, e, hc, ?_⟩
  rcases h with h | ⟨g, rfl, h1, h2, h⟩
  · exact .inl h
  · exact .inr ⟨g, rfl, h1, h2, h.congr he⟩
theorem SPiece.win {B' C' : Nat} (h : SPiece B C w v n E) (hw : Win B' C' w w') (hd : C ≤ B' ∨ C' ≤ B) : SPiece B C w' v n E := by
  obtain ⟨a, c, e, hc, h⟩ := h
  refine ⟨a, c, e, hc, ?_⟩
  rcases h with h | ⟨g, rfl, h1, h2, h⟩
  · exact .inl h
  · exact .inr ⟨g, rfl, h1, h2, h.win hw (by omega)⟩
theorem SPiece.keep (h : SPiece B C w v n E) (hb : Below w.heap.size w w') : SPiece B C w' v n E := by
  obtain ⟨a, c, e, hc, h⟩ := h
  refine ⟨a, c, e, hc, ?_⟩
  rcases h with h | ⟨g, rfl, h1, h2, h⟩
  · exact .inl h
  · exact .inr ⟨g, rfl, h1, h2, h.keep hb⟩
end
theorem info_tok : (Tryd.prog.info? 40).map (fun i => (i.zero, i.size, i.bytes)) = some (some (.agg #[.int .i64 0, .int .i64 0]), 2, 16) := by kernel_rfl
/-- The words of memory of tokens. -/
def svs : List Spn → List Value
  | [] => []
  | p :: l => .int .i64 p.f :: .int .i64 p.t :: svs l
theorem svs_len : ∀ l, (svs l).length = l.length * 2
  | [] => rfl
  | p :: l => by simp [svs, svs_len l]; omega
theorem svs_app : ∀ l m, svs (l ++ m) = svs l ++ svs m
  | [], m => rfl
  | p :: l, m => by simp [svs, svs_app l m]
theorem svs_at : ∀ (l : List Spn) (i : Nat), i < l.length → (svs l)[i * 2]? = some (.int .i64 (l.getD i spn0).f) ∧ (svs l)[i * 2 + 1]? = some (.int .i64 (l.getD i spn0).t)
  | [], i, h => absurd h (by simp)
  | p :: l, 0, h => ⟨rfl, rfl⟩
  | p :: l, i + 1, h => by
    have := svs_at l i (by simpa using h)
    have e1 : (i + 1) * 2 = i * 2 + 1 + 1 := by omega
    rw [e1]
    simpa [svs] using this
theorem svs_one : ∀ (l : List Spn) (v : Value), v ∈ svs l → v.oneCell' = true
  | [], v, h => by cases h
  | p :: l, v, h => by
    simp only [svs, List.mem_cons] at h
    rcases h with rfl | rfl | h
    · rfl
    · rfl
    · exact svs_one l v h
/-- A list of tokens in memory from block B on, which nothing else shares. -/
def NewSp (B : Nat) (w : World) (v : Value) (l : List Spn) : Prop := w.ownsRow B 40 2 v l.length (svs l)
theorem NewSp.keep {B : Nat} {w w' : World} {v : Value} {l : List Spn} (h : NewSp B w v l) (hb : Below w.heap.size w w') : NewSp B w' v l := ownsRow_keep h hb
theorem NewSp.nil (B : Nat) (w : World) : NewSp B w (.slice none 0 0) [] := ⟨rfl, .inl ⟨rfl, rfl⟩⟩
theorem NewSp.start (w : World) {B : Nat} (hB : B ≤ w.heap.size) : NewSp B (w.alloc (.cells #[] 40)) (.slice (some ⟨w.heap.size, 0, none⟩) 0 0) [] :=
  ⟨rfl, .inr ⟨w.heap.size, 0, #[], rfl, hB, heap_alloc_new w _, by simp, by unfold maxLen; omega, rfl, rfl⟩⟩
theorem NewSp.piece {B : Nat} {w : World} {v : Value} {l : List Spn} (h : NewSp B w v l) : SPiece B w.heap.size w v l.length (fun i => l.getD i spn0) := by
  obtain ⟨h1, h2⟩ := h
  rcases h2 with ⟨rfl, h0⟩ | ⟨g, cap, cur, rfl, hB, hg, hc, hm, hs, ht⟩
  · exact ⟨none, 0, by rw [h0], by omega, .inl h0⟩
  · refine ⟨_, cap, rfl, hc, .inr ⟨g, rfl, hB, lt_of_heapA hg, cur, _, hg, fun i hi => ?_⟩⟩
    have e : ∀ j, j < l.length * 2 → cur[j]? = (svs l)[j]? := fun j hj => by
      have h3 : (cur.toList.take (l.length * 2))[j]? = (svs l)[j]? := by rw [ht]
      rw [List.getElem?_take_of_lt hj] at h3
      simpa using h3
    obtain ⟨q1, q2⟩ := svs_at l i hi
    exact ⟨by rw [e _ (by omega)]; exact q1, by rw [e _ (by omega)]; exact q2⟩
/-- Growing by one token, which lies in a block of its own. -/
theorem growS2 {B : Nat} {w : World} {a : Option Addr} {c : Nat} {l : List Spn} (x : Spn) (h : NewSp B w (.slice a l.length c) l) (hB : B ≤ w.heap.size) (hl : l.length < 1048576) :
    ∃ a' c' w', (∀ ty, (Builtin.append_ #[29, 29] ty #[.slice a l.length c, .slice (some ⟨w.heap.size, 0, none⟩) 1 1]).run Tryd.prog (w.alloc (.cells #[.int .i64 x.f, .int .i64 x.t] 40)) = .ok (.slice a' (l.length + 1) c') w') ∧ NewSp B w' (.slice a' (l.length + 1) c') (l ++ [x]) ∧ Below B w w' ∧ (∀ k, k < w.heap.size → (∀ g0, a = some ⟨g0, 0, none⟩ → g0 ≠ k) → w'.heap[k]? = w.heap[k]?) := by
  obtain ⟨i, hq, z1, z2, z3⟩ : ∃ i, Tryd.prog.info? 40 = some i ∧ i.zero = some (.agg #[.int .i64 0, .int .i64 0]) ∧ i.size = 2 ∧ i.bytes = 16 := by
    have hi := info_tok
    cases hq : Tryd.prog.info? 40 with
    | none => rw [hq] at hi; cases hi
    | some i => rw [hq] at hi; simp at hi; exact ⟨i, rfl, hi.1, hi.2.1, hi.2.2⟩
  have hA := heap_alloc_new w (.cells #[.int .i64 x.f, .int .i64 x.t] 40)
  have hBw := bAlloc (Below.refl w.heap.size w) (.cells #[.int .i64 x.f, .int .i64 x.t] 40)
  generalize w.alloc (.cells #[.int .i64 x.f, .int .i64 x.t] 40) = V at *
  have hnew : ∀ (j : Nat) (u : Value), (svs [x])[j]? = some u → V.cell? ((⟨w.heap.size, 0, none⟩ : Addr).add j) = some u := by
    intro j u hu
    have e : (⟨w.heap.size, 0, none⟩ : Addr).add j = ⟨w.heap.size, 0 + j, none⟩ := by unfold Addr.add; split <;> simp_all
    rw [e, Nat.zero_add]
    have hj : j < 2 := by have := (List.getElem?_eq_some_iff.1 hu).1; simpa [svs] using this
    have : j = 0 ∨ j = 1 := by omega
    rcases this with rfl | rfl
    · have : u = .int .i64 x.f := by simpa [svs] using hu.symm
      rw [this]; exact cell_at hA rfl
    · have : u = .int .i64 x.t := by simpa [svs] using hu.symm
      rw [this]; exact cell_at hA rfl
  have hown : V.ownsRow B 40 2 (.slice a l.length c) l.length (svs l) := h.keep hBw
  obtain ⟨v', w', hr, h2, h3, _, _⟩ := run_append_own_at (P := Tryd.prog) V B 29 29 40 i _ 2 16 Tryd.underlying29 hq z1 z2 z3 rfl (by decide) _ l.length (svs l) hown ⟨w.heap.size, 0, none⟩ 1 1 (svs [x]) rfl hnew (svs_one [x]) (by unfold maxLen; omega) (by omega) (Nat.le_trans hB hBw.size)
  have hr' : ∀ ty, (Builtin.append_ #[29, 29] ty #[.slice a l.length c, .slice (some ⟨w.heap.size, 0, none⟩) 1 1]).run Tryd.prog V = .ok v' w' := fun ty => hr
  have h2' : NewSp B w' v' (l ++ [x]) := by
    show World.ownsRow _ _ _ _ _ _ _
    rw [svs_app]
    simpa using h2
  have hrow : ∀ k, (Value.slice a l.length c).ownBlock = some k → B ≤ k := by
    obtain ⟨_, hh⟩ := hown
    intro k hk
    rcases hh with ⟨e, _⟩ | ⟨g, cap, cur, e, hB', _⟩
    · rw [e] at hk; simp [Value.ownBlock] at hk
    · rw [e] at hk; simp [Value.ownBlock] at hk; omega
  obtain ⟨a', c', rfl⟩ : ∃ a' c', v' = .slice a' (l.length + 1) c' := by
    have := h2'.piece.slice
    simpa using this
  refine ⟨a', c', w', hr', by simpa using h2', (hBw.mono hB).trans (grown_below h3 hrow (Nat.le_trans hB hBw.size)), fun k hk hne => ?_⟩
  rw [h3.block k (Nat.lt_of_lt_of_le hk hBw.size) ?_, hBw.block k hk]
  intro e
  obtain ⟨_, hh⟩ := hown
  rcases hh with ⟨e', _⟩ | ⟨g, cap, cur, e', _⟩
  · rw [e'] at e; simp [Value.ownBlock] at e
  · cases e'
    simp [Value.ownBlock] at e
    exact hne g rfl e.symm
theorem growS {B : Nat} {w : World} {a : Option Addr} {c : Nat} {l : List Spn} (x : Spn) (h : NewSp B w (.slice a l.length c) l) (hB : B ≤ w.heap.size) (hl : l.length < 1048576) :
    ∃ a' c' w', (∀ ty, (Builtin.append_ #[29, 29] ty #[.slice a l.length c, .slice (some ⟨w.heap.size, 0, none⟩) 1 1]).run Tryd.prog (w.alloc (.cells #[.int .i64 x.f, .int .i64 x.t] 40)) = .ok (.slice a' (l.length + 1) c') w') ∧ NewSp B w' (.slice a' (l.length + 1) c') (l ++ [x]) ∧ Below B w w' := by
  obtain ⟨a', c', w', h1, h2, h3, _⟩ := growS2 x h hB hl
  exact ⟨a', c', w', h1, h2, h3⟩
/-- Where it lies. -/
theorem NewSp.old {B : Nat} {w : World} {a : Option Addr} {n c : Nat} {l : List Spn} (h : NewSp B w (.slice a n c) l) : ∀ g0, a = some ⟨g0, 0, none⟩ → g0 < w.heap.size := by
  obtain ⟨_, hh⟩ := h
  intro g0 e
  subst e
  rcases hh with ⟨e', _⟩ | ⟨g, cap, cur, e', _, hg, _⟩
  · cases e'
  · cases e'
    exact lt_of_heapA hg
/-- A new list of tokens, all zero. -/
theorem make_toks (n : Nat) (hn : n ≤ 1048576) (w : World) : ∃ w', (Instr.makeSlice 29 (.int .i64 (n : Int)) (.int .i64 (n : Int))).run Tryd.prog w = .ok (.slice (some ⟨w.heap.size, 0, none⟩) n n) w' ∧ SBlk w' w.heap.size n (fun _ => spn0) ∧ w'.heap.size = w.heap.size + 1 ∧ Below w.heap.size w w' := by
  have hi := info_tok
  cases hq : Tryd.prog.info? 40 with
  | none => rw [hq] at hi; cases hi
  | some i =>
    rw [hq] at hi
    simp at hi
    obtain ⟨z1, z2, z3⟩ := hi
    have q := run_make (P := Tryd.prog) w 29 40 i _ Tryd.underlying29 hq z1 .i64 .i64 (n : Int) (n : Int) (by omega) (by omega) (by rw [z3]; omega) (by omega)
    rw [z2, Int.toNat_natCast] at q
    refine ⟨_, q, ⟨_, _, heap_alloc_new w _, fun i hi => ?_⟩, by simp, bAlloc (Below.refl _ _) _⟩
    have hsz : (madeCells (Value.agg #[.int .i64 0, .int .i64 0]).cells (n * 2)).size = n * 2 := by rw [size_madeCells]
    have at' : ∀ j, j < n * 2 → (madeCells (Value.agg #[.int .i64 0, .int .i64 0]).cells (n * 2))[j]? = some (.int .i64 0) := by
      intro j hj
      rw [Array.getElem?_eq_getElem (by omega)]
      have : j % 2 = 0 ∨ j % 2 = 1 := by omega
      rcases this with h | h <;> simp [madeCells, Value.cells, h]
    exact ⟨at' _ (by omega), at' _ (by omega)⟩
/-- A list of tokens, by value. -/
def TsI (w : World) (v : Value) (n : Nat) (E : Nat → Spn) : Prop := ∃ a c, v = .slice a n c ∧ n ≤ c ∧ SsA w a n E
set_option maxRecDepth 20000 in
theorem one_tok {H : Type} {enc : TypeId × Value → H} {W : World} {base : Nat} {held : Bool} {n : Nat} {cs : List Value} {y : DataW H × List MemPlace} (hl : cs.length = 2) (h : DataW.trod enc Tryd.prog W base (fun _ => true) held n 47 cs = some y) :
    ∃ f l : Int, cs = [.int .i64 f, .int .i64 l] := by
  have c2 : Tryd.prog.cellsOf 3 = 1 := by kernel_rfl
  obtain ⟨y0, y1, k, _, _, g0, g1⟩ := trod_struct2 Tryd.underlying47 h
  match cs, hl with
  | [v0, v1], _ =>
    simp [c2] at g0 g1
    obtain ⟨f, hf, _, wf⟩ := DataW.trod_int Tryd.underlying3 g0
    obtain ⟨l, hl, _, wl⟩ := DataW.trod_int Tryd.underlying3 g1
    simp at hf hl
    subst hf hl
    exact ⟨f, l, rfl⟩
theorem cell_toks {H : Type} {enc : TypeId × Value → H} {W : World} {base : Nat} {held : Bool} {n : Nat} {c : Value} {y : DataW H × List MemPlace} (h : DataW.trod enc Tryd.prog W base (fun _ => true) held n 22 [c] = some y) :
    ∃ (n : Nat) (E : Nat → Spn), TsI W c n E ∧ n ≤ 9223372036854775807 := by
  have c3 : Tryd.prog.cellsOf 47 = 2 := by kernel_rfl
  rcases Deep.open_slice Tryd.underlying22 h with ⟨hcs, _⟩ | ⟨a, len, cap, m, k, DD, Pl, hcs, _, hl, hm, hmm, _, hx⟩
  · simp at hcs
    subst hcs
    exact ⟨0, fun _ => spn0, ⟨_, _, rfl, by omega, .inl rfl⟩, by omega⟩
  · simp at hcs
    subst hcs
    have hlm : len ≤ m := by rw [hmm]; simpa using hl
    have each : ∀ i, ∃ q : Spn, (i < len → W.cell? (a.add (i * 2)) = some (.int .i64 q.f) ∧ W.cell? (a.add (i * 2 + 1)) = some (.int .i64 q.t)) := by
      intro i
      by_cases hi : i < len
      · obtain ⟨cs', h1, h2⟩ := hx i (by omega)
        rw [c3] at h1
        obtain ⟨_, hlen, hcell⟩ := World.cells?_some h1
        obtain ⟨f, l, rfl⟩ := one_tok hlen h2
        have e0 := hcell 0 (by omega)
        have e1 := hcell 1 (by omega)
        rw [Deep.add_add] at e0 e1
        exact ⟨⟨f, l⟩, fun _ => ⟨by simpa using e0, by simpa using e1⟩⟩
      · exact ⟨spn0, fun h => absurd h hi⟩
    have ⟨q, hq⟩ := Classical.axiomOfChoice each
    refine ⟨len, q, ⟨_, _, rfl, by omega, ?_⟩, by unfold maxLen at hm; omega⟩
    by_cases h0 : len = 0
    · exact .inl h0
    · obtain ⟨ab, off, spot⟩ := a
      have hc := ((hq 0) (by omega)).1
      have hspot : spot = none := by simpa [Addr.add] using World.cell?_spot hc
      subst hspot
      have hadd : ∀ k, (⟨ab, off, none⟩ : Addr).add k = ⟨ab, off + k, none⟩ := fun k => by unfold Addr.add; split <;> simp_all
      refine .inr ⟨ab, off, rfl, ?_, fun i hi => ?_⟩
      · by_cases hb : ab < W.heap.size
        · exact hb
        · have : W.heap[ab]? = none := Array.getElem?_eq_none (by omega)
          simp [Addr.add, World.cell?, this] at hc
      · obtain ⟨q1, q2⟩ := (hq i) hi
        rw [hadd] at q1 q2
        exact ⟨q1, by rw [Nat.add_assoc]; exact q2⟩
end Go.Proofs.YtnebjnglcfebeaaDoor
