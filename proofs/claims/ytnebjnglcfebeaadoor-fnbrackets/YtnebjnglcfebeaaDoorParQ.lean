/-
  Lists of nodes that grow, each node's numbers in a block of their own; a reader of tokens at work.
-/
import Derived.Test.YtnebjnglcfebeaaDoorParM
import Derived.Test.YtnebjnglcfebeaaDoorTreeQ
import Derived.Test.YtnebjnglcfebeaaDoorPiece
import Derived.Test.YtnebjnglcfebeaaDoorGrow
import Derived.Test.YtnebjnglcfebeaaDoorFrame
import Derived.Deep.Slices
namespace Go.Proofs.YtnebjnglcfebeaaDoor
open Go.RowKit
set_option linter.unusedVariables false
set_option linter.unusedSimpArgs false
/-- A node, the slice of its numbers, and the block in which these lie. -/
abbrev Nb := Nd × Value × Nat
def nd1 (x : Nb) : List Value := [.int .i64 x.1.k, .int .i64 x.1.a, .int .i64 x.1.b, .int .i64 x.1.s, .int .i64 x.1.o, .int .i64 x.1.h, x.2.1]
def ndv : List Nb → List Value
  | [] => []
  | x :: l => nd1 x ++ ndv l
theorem ndv_len : ∀ l, (ndv l).length = l.length * 7
  | [] => rfl
  | x :: l => by simp [ndv, nd1, ndv_len l]; omega
theorem ndv_app : ∀ l m, ndv (l ++ m) = ndv l ++ ndv m
  | [], m => rfl
  | x :: l, m => by simp [ndv, ndv_app l m]
theorem ndv_one (x : Nb) : ndv [x] = nd1 x := by simp [ndv]
def nb0 : Nb := (⟨0, 0, 0, 0, 0, 0, []⟩, .slice none 0 0, 0)
theorem ndv_at : ∀ (l : List Nb) (i j : Nat), i < l.length → j < 7 → (ndv l)[i * 7 + j]? = (nd1 (l.getD i nb0))[j]?
  | [], i, j, h, _ => absurd h (by simp)
  | x :: l, 0, j, h, hj => by
    simp only [ndv, Nat.zero_mul, Nat.zero_add]
    rw [List.getElem?_append_left (by simp [nd1]; omega)]
    rfl
  | x :: l, i + 1, j, h, hj => by
    have := ndv_at l i j (by simpa using h) hj
    simp only [ndv]
    rw [List.getElem?_append_right (by simp [nd1]; omega), show (i + 1) * 7 + j - (nd1 x).length = i * 7 + j by simp [nd1]; omega, this]
    simp
theorem info_nd : (Tryd.prog.info? 67).map (fun i => (i.zero, i.size, i.bytes)) = some (some (.agg #[.int .i64 0, .int .i64 0, .int .i64 0, .int .i64 0, .int .i64 0, .int .i64 0, .slice none 0 0]), 7, 72) := by kernel_rfl
/-- A list of nodes in memory from block B on, which nothing else shares. -/
def NxB (B : Nat) (w : World) (v : Value) (L : List Nb) : Prop := w.ownsRow B 67 7 v L.length (ndv L)
theorem NxB.keep {B : Nat} {w w' : World} {v : Value} {L : List Nb} (h : NxB B w v L) (hb : Below w.heap.size w w') : NxB B w' v L := ownsRow_keep h hb
theorem NxB.nil (B : Nat) (w : World) : NxB B w (.slice none 0 0) [] := ⟨rfl, .inl ⟨rfl, rfl⟩⟩
theorem NxB.slice {B : Nat} {w : World} {v : Value} {L : List Nb} (h : NxB B w v L) : ∃ a c, v = .slice a L.length c := by
  rcases h.2 with ⟨e, h0⟩ | ⟨g, cap, cur, e, _⟩
  · exact ⟨none, 0, by rw [e, h0]⟩
  · exact ⟨_, _, e⟩
theorem NxB.own {B : Nat} {w : World} {v : Value} {L : List Nb} (h : NxB B w v L) : ∀ k, v.ownBlock = some k → B ≤ k ∧ k < w.heap.size := by
  intro k hk
  rcases h.2 with ⟨e, _⟩ | ⟨g, cap, cur, e, hB, hg, _⟩
  · rw [e] at hk; simp [Value.ownBlock] at hk
  · rw [e] at hk; simp [Value.ownBlock] at hk; subst hk; exact ⟨hB, lt_of_heapA hg⟩
/-- What stands as it did. -/
theorem NxB.same {B : Nat} {w w' : World} {v : Value} {L : List Nb} (h : NxB B w v L) (hb : ∀ k, v.ownBlock = some k → w'.heap[k]? = w.heap[k]?) : NxB B w' v L := by
  obtain ⟨h0, h⟩ := h
  refine ⟨h0, ?_⟩
  rcases h with h | ⟨g, cap, cur, e, hB, hg, h3⟩
  · exact .inl h
  · exact .inr ⟨g, cap, cur, e, hB, by rw [hb g (by rw [e]; rfl)]; exact hg, h3⟩
/-- Growing by a node that lies at o. -/
theorem growN {B o : Nat} {V : World} {v : Value} {L : List Nb} {t : TypeId} (x : Nb) (hx : V.heap[o]? = some (.cells #[.int .i64 x.1.k, .int .i64 x.1.a, .int .i64 x.1.b, .int .i64 x.1.s, .int .i64 x.1.o, .int .i64 x.1.h, x.2.1] t (0, 0))) (h : NxB B V v L) (hB : B ≤ V.heap.size) (hl : L.length < 1048576) (h1 : x.2.1.oneCell' = true) :
    ∃ a' c' w', (∀ ty, (Builtin.append_ #[24, 24] ty #[v, .slice (some ⟨o, 0, none⟩) 1 1]).run Tryd.prog V = .ok (.slice a' (L.length + 1) c') w') ∧ NxB B w' (.slice a' (L.length + 1) c') (L ++ [x]) ∧ V.grownBy w' v.ownBlock ∧ ((Value.slice a' (L.length + 1) c').ownBlock = v.ownBlock ∨ (Value.slice a' (L.length + 1) c').ownBlock = some V.heap.size) := by
  obtain ⟨i, hq, z1, z2, z3⟩ : ∃ i, Tryd.prog.info? 67 = some i ∧ i.zero = some (.agg #[.int .i64 0, .int .i64 0, .int .i64 0, .int .i64 0, .int .i64 0, .int .i64 0, .slice none 0 0]) ∧ i.size = 7 ∧ i.bytes = 72 := by
    have hi := info_nd
    cases hq : Tryd.prog.info? 67 with
    | none => rw [hq] at hi; cases hi
    | some i => rw [hq] at hi; simp at hi; exact ⟨i, rfl, hi.1, hi.2.1, hi.2.2⟩
  obtain ⟨v', w', hr, h2, h3, _, h5⟩ := run_append_own_at (P := Tryd.prog) V B 24 24 67 i _ 7 72 Tryd.underlying24 hq z1 z2 z3 rfl (by decide) v L.length (ndv L) h ⟨o, 0, none⟩ 1 1 (nd1 x) rfl
    (by
      intro j u hj
      have e : (⟨o, 0, none⟩ : Addr).add j = ⟨o, j, none⟩ := by unfold Addr.add; split <;> simp_all
      rw [e]
      exact cell_at hx (by simpa [nd1] using hj))
    (by intro u hu; simp [nd1] at hu; rcases hu with rfl | rfl | rfl | rfl | rfl | rfl | rfl <;> first | rfl | exact h1) (by unfold maxLen; omega) (by omega) hB
  have h2' : NxB B w' v' (L ++ [x]) := by
    show World.ownsRow _ _ _ _ _ _ _
    rw [ndv_app, ndv_one]
    simpa using h2
  obtain ⟨a', c', rfl⟩ : ∃ a' c', v' = .slice a' (L.length + 1) c' := by
    have := h2'.slice
    simpa using this
  exact ⟨a', c', w', fun ty => hr, h2', h3, h5⟩
/-- The numbers of the nodes lie behind g, none of them in v's own block. -/
def NumsOf (g : Nat) (w : World) (v : Value) (L : List Nb) : Prop := ∀ x, x ∈ L → Piece x.2.2 (x.2.2 + 1) w x.2.1 x.1.l ∧ (x.1.l ≠ [] → g < x.2.2 ∧ v.ownBlock ≠ some x.2.2)
theorem piece_one {w : World} {x : Nb} (h : Piece x.2.2 (x.2.2 + 1) w x.2.1 x.1.l) : x.2.1.oneCell' = true := by
  obtain ⟨a, c, e, _⟩ := h
  rw [e]; rfl
theorem piece_lt {b : Nat} {w : World} {v : Value} {l : List Int} (h : Piece b (b + 1) w v l) (hl : l ≠ []) : b < w.heap.size := by
  obtain ⟨a, c, e, _, h⟩ := h
  rcases h with h | ⟨g, off, cur, t, e, h1, h2, h3, _⟩
  · exact absurd h hl
  · have := lt_of_heapA h3; omega
theorem piece_same {b : Nat} {w w' : World} {v : Value} {l : List Int} (h : Piece b (b + 1) w v l) (hb : l ≠ [] → w'.heap[b]? = w.heap[b]?) : Piece b (b + 1) w' v l := by
  obtain ⟨a, c, e, hc, h⟩ := h
  refine ⟨a, c, e, hc, ?_⟩
  by_cases hl : l = []
  · exact .inl hl
  · rcases h with h | ⟨g, off, cur, t, e, h1, h2, h3, h4⟩
    · exact absurd h hl
    · obtain rfl : g = b := by omega
      exact .inr ⟨g, off, cur, t, e, h1, h2, by rw [hb hl]; exact h3, h4⟩
structure NL (g : Nat) (w : World) (v : Value) (L : List Nb) : Prop where
  row : NxB (g + 1) w v L
  nums : NumsOf g w v L
theorem NL.nil (g : Nat) (w : World) : NL g w (.slice none 0 0) [] := ⟨NxB.nil _ _, fun x hx => absurd hx (by simp)⟩
theorem NL.same {g : Nat} {w w' : World} {v : Value} {L : List Nb} (h : NL g w v L) (hb : ∀ k, g < k → k < w.heap.size → w'.heap[k]? = w.heap[k]?) : NL g w' v L :=
  ⟨h.row.same fun k hk => hb k (h.row.own k hk).1 (h.row.own k hk).2, fun x hx => ⟨piece_same (h.nums x hx).1 fun hl => hb _ ((h.nums x hx).2 hl).1 (piece_lt (h.nums x hx).1 hl), (h.nums x hx).2⟩⟩
theorem NL.sameM {g m : Nat} {w w' : World} {v : Value} {L : List Nb} (h : NL g w v L) (h1 : ∀ k, v.ownBlock = some k → k < m) (h2 : ∀ x, x ∈ L → x.1.l ≠ [] → x.2.2 < m) (hb : ∀ k, g < k → k < m → k < w.heap.size → w'.heap[k]? = w.heap[k]?) : NL g w' v L :=
  ⟨h.row.same fun k hk => hb k (h.row.own k hk).1 (h1 k hk) (h.row.own k hk).2, fun x hx => ⟨piece_same (h.nums x hx).1 fun hl => hb _ ((h.nums x hx).2 hl).1 (h2 x hx hl) (piece_lt (h.nums x hx).1 hl), (h.nums x hx).2⟩⟩
theorem NL.keep {g : Nat} {w w' : World} {v : Value} {L : List Nb} (h : NL g w v L) (hb : Below w.heap.size w w') : NL g w' v L := h.same fun k _ hk => hb.block k hk
/-- Only block g and v's own one are turned. -/
structure Chg (g : Nat) (v : Value) (w w' : World) : Prop where
  os : w'.os = w.os
  tape : w'.tape = w.tape
  output : w'.output = w.output
  size : w.heap.size ≤ w'.heap.size
  block : ∀ k, k < w.heap.size → k ≠ g → v.ownBlock ≠ some k → w'.heap[k]? = w.heap[k]?
theorem Chg.refl (g : Nat) (v : Value) (w : World) : Chg g v w w := ⟨rfl, rfl, rfl, Nat.le_refl _, fun _ _ _ _ => rfl⟩
theorem Chg.of {g : Nat} {v : Value} {w w' : World} (h : Below w.heap.size w w') : Chg g v w w' := ⟨h.os, h.tape, h.output, h.size, fun k hk _ _ => h.block k hk⟩
theorem Chg.trans {g : Nat} {v v1 : Value} {w w1 w2 : World} (h : Chg g v w w1) (k : Chg g v1 w1 w2) (ho : ∀ j, v1.ownBlock = some j → v.ownBlock = some j ∨ w.heap.size ≤ j) : Chg g v w w2 :=
  ⟨k.os.trans h.os, k.tape.trans h.tape, k.output.trans h.output, Nat.le_trans h.size k.size, fun j hj hg hv => by
    rw [k.block j (Nat.lt_of_lt_of_le hj h.size) hg (fun e => by rcases ho j e with q | q; exact hv q; omega), h.block j hj hg hv]⟩
theorem Chg.below {g : Nat} {v : Value} {w w' : World} (h : Chg g v w w') (hg : g < w.heap.size) (hv : ∀ k, v.ownBlock = some k → g < k) : Below g w w' :=
  ⟨h.os, h.tape, h.output, h.size, fun k hk => h.block k (by omega) (by omega) (fun e => by have := hv k e; omega)⟩
/-- A reader at work: what it goes over, where it is, what it gathered. -/
def Cur (w : World) (g : Nat) (lv : Value) (p : Nat) (v : Value) : Prop := w.heap[g]? = some (.cells #[lv, .int .i64 (p : Int), v] 44 (0, 0))
structure St (lv : Value) (w0 : World) (g : Nat) (v0 : Value) (w : World) (p : Nat) (v : Value) (L : List Nb) : Prop where
  cur : Cur w g lv p v
  nl : NL g w v L
  chg : Chg g v0 w0 w
  own : ∀ k, v.ownBlock = some k → v0.ownBlock = some k ∨ w0.heap.size ≤ k
section
variable {lv v0 v : Value} {w0 w w' : World} {g p : Nat} {L : List Nb}
theorem St.start (h : Cur w g lv p v) (hn : NL g w v L) : St lv w g v w p v L := ⟨h, hn, Chg.refl _ _ _, fun k hk => .inl hk⟩
theorem St.lt (h : St lv w0 g v0 w p v L) : g < w.heap.size := lt_of_heapA h.cur
theorem St.keep (h : St lv w0 g v0 w p v L) (hb : Below w.heap.size w w') : St lv w0 g v0 w' p v L :=
  ⟨by unfold Cur; rw [hb.block g h.lt]; exact h.cur, h.nl.keep hb, h.chg.trans (Chg.of (v := v) hb) h.own, h.own⟩
theorem St.c0 (h : St lv w0 g v0 w p v L) : w.cell? ⟨g, 0, none⟩ = some lv := cell_at h.cur rfl
theorem St.c1 (h : St lv w0 g v0 w p v L) : w.cell? ⟨g, 1, none⟩ = some (.int .i64 (p : Int)) := cell_at h.cur rfl
theorem St.c2 (h : St lv w0 g v0 w p v L) : w.cell? ⟨g, 2, none⟩ = some v := cell_at h.cur rfl
theorem St.free (h : St lv w0 g v0 w p v L) (j : Nat) : w.frozen? ⟨g, j, none⟩ = false := free_at h.cur j
/-- It goes on. -/
theorem St.move (h : St lv w0 g v0 w p v L) (q : Nat) : St lv w0 g v0 (w.setCell ⟨g, 1, none⟩ (.int .i64 (q : Int))) q v L := by
  have ww : Win g (g + 1) w (w.setCell ⟨g, 1, none⟩ (.int .i64 (q : Int))) := win_setCell _ _ _ _
  refine ⟨?_, h.nl.same fun k hk hl => ww.block k hl (by omega), h.chg.trans (v1 := v) ⟨ww.os, ww.tape, ww.output, ww.size, fun k hk hg _ => ww.block k hk (by omega)⟩ h.own, h.own⟩
  have := heap_setCell_same w g 1 _ _ (.int .i64 (q : Int)) h.cur
  simpa [Cur] using this
/-- It gathers one more. -/
theorem St.put {V : World} {v' : Value} {x : Nb} (h : St lv w0 g v0 w p v L) (hb : Below w.heap.size w V) (hg : V.grownBy w' v.ownBlock) (hr : NxB (g + 1) w' v' (L ++ [x])) (ho : v'.ownBlock = v.ownBlock ∨ v'.ownBlock = some V.heap.size)
    (hx : Piece x.2.2 (x.2.2 + 1) w x.2.1 x.1.l) (hy : x.1.l ≠ [] → g < x.2.2 ∧ v.ownBlock ≠ some x.2.2) : St lv w0 g v0 (w'.setCell ⟨g, 2, none⟩ v') p v' (L ++ [x]) := by
  have hlt := h.lt
  have vo : ∀ k, v.ownBlock = some k → g < k := fun k hk => (h.nl.row.own k hk).1
  have hc : w'.heap[g]? = some (.cells #[lv, .int .i64 (p : Int), v] 44 (0, 0)) := by
    rw [hg.block g (Nat.lt_of_lt_of_le hlt hb.size) (fun e => by have := vo g e.symm; omega), hb.block g hlt]
    exact h.cur
  have ww : Win g (g + 1) w' (w'.setCell ⟨g, 2, none⟩ v') := win_setCell _ _ _ _
  have sz := hb.size
  have gz := hg.size
  have blk : ∀ k, k < w.heap.size → k ≠ g → v.ownBlock ≠ some k → (w'.setCell ⟨g, 2, none⟩ v').heap[k]? = w.heap[k]? := fun k hk h1 h2 => by
    rw [ww.block k (by omega) (by omega), hg.block k (by omega) (fun e => h2 e.symm), hb.block k hk]
  have on' : ∀ k, v'.ownBlock = some k → v.ownBlock = some k ∨ w.heap.size ≤ k := fun k hk => by
    rcases ho with e | e
    · exact .inl (by rw [← e]; exact hk)
    · rw [e] at hk; cases hk; exact .inr sz
  refine ⟨?_, ⟨hr.same fun k hk => ww.block k (hr.own k hk).2 (by have := (hr.own k hk).1; omega), ?_⟩, h.chg.trans (v1 := v) ⟨?_, ?_, ?_, ?_, blk⟩ h.own, fun k hk => ?_⟩
  · have := heap_setCell_same w' g 2 _ _ v' hc
    simpa [Cur] using this
  · intro y hy'
    have hp : Piece y.2.2 (y.2.2 + 1) w y.2.1 y.1.l ∧ (y.1.l ≠ [] → g < y.2.2 ∧ v.ownBlock ≠ some y.2.2) := by
      rcases List.mem_append.1 hy' with q | q
      · exact h.nl.nums y q
      · rw [List.mem_singleton] at q; subst q; exact ⟨hx, hy⟩
    refine ⟨piece_same hp.1 fun hl => blk _ (piece_lt hp.1 hl) (by have := (hp.2 hl).1; omega) (hp.2 hl).2, fun hl => ⟨(hp.2 hl).1, fun e => ?_⟩⟩
    rcases on' _ e with q | q
    · exact (hp.2 hl).2 q
    · have := piece_lt hp.1 hl; omega
  · exact (ww.os.trans hg.os).trans hb.os
  · exact (ww.tape.trans hg.tape).trans hb.tape
  · exact (ww.output.trans hg.output).trans hb.output
  · have := ww.size; omega
  · rcases on' k hk with q | q
    · exact h.own k q
    · exact .inr (Nat.le_trans h.chg.size q)
theorem St.below (h : St lv w0 g v0 w p v L) (hg : g < w0.heap.size) (hv : ∀ k, v0.ownBlock = some k → g < k) : Below g w0 w := h.chg.below hg hv
end
theorem Chg.set {g j : Nat} {w0 w : World} (h : Chg g (.slice none 0 0) w0 w) (x : Value) : Chg g (.slice none 0 0) w0 (w.setCell ⟨g, j, none⟩ x) := by
  have ww : Win g (g + 1) w (w.setCell ⟨g, j, none⟩ x) := win_setCell _ _ _ _
  exact ⟨ww.os.trans h.os, ww.tape.trans h.tape, ww.output.trans h.output, Nat.le_trans h.size ww.size, fun k hk hg hv => by rw [ww.block k (Nat.lt_of_lt_of_le hk h.size) (by omega), h.block k hk hg hv]⟩
theorem Chg.setNew {g r j : Nat} {v : Value} {w0 w : World} (h : Chg g v w0 w) (hr : w0.heap.size ≤ r) (x : Value) : Chg g v w0 (w.setCell ⟨r, j, none⟩ x) := by
  have ww : Win r (r + 1) w (w.setCell ⟨r, j, none⟩ x) := win_setCell _ _ _ _
  exact ⟨ww.os.trans h.os, ww.tape.trans h.tape, ww.output.trans h.output, Nat.le_trans h.size ww.size, fun k hk hg hv => by rw [ww.block k (Nat.lt_of_lt_of_le hk h.size) (by omega), h.block k hk hg hv]⟩
theorem Cur.set {w : World} {g p : Nat} {lv v : Value} (h : Cur w g lv p v) (q : Nat) : Cur (w.setCell ⟨g, 1, none⟩ (.int .i64 (q : Int))) g lv q v := by
  have := heap_setCell_same w g 1 _ _ (.int .i64 (q : Int)) h
  simpa [Cur] using this
theorem Cur.other {w : World} {g p : Nat} {lv v : Value} (h : Cur w g lv p v) {r : Nat} (hr : r ≠ g) (j : Nat) (x : Value) : Cur (w.setCell ⟨r, j, none⟩ x) g lv p v := by
  have ww : Win r (r + 1) w (w.setCell ⟨r, j, none⟩ x) := win_setCell _ _ _ _
  unfold Cur
  rw [ww.block g (lt_of_heapA h) (by omega)]
  exact h
theorem St.of {lv v0 v : Value} {w0 w w' : World} {g p q : Nat} {L : List Nb} (h : St lv w0 g v0 w p v L) (hb : Chg g (.slice none 0 0) w w') (hc : Cur w' g lv q v) : St lv w0 g v0 w' q v L :=
  ⟨hc, h.nl.same fun k hg hk => hb.block k hk (by omega) (by simp [Value.ownBlock]), h.chg.trans (v1 := v) ⟨hb.os, hb.tape, hb.output, hb.size, fun k hk hg _ => hb.block k hk hg (by simp [Value.ownBlock])⟩ h.own, h.own⟩
/-- An append of a node to what is gathered. -/
theorem St.app {lv v0 : Value} {w0 W V : World} {g p c o : Nat} {a : Option Addr} {L : List Nb} (h : St lv w0 g v0 W p (.slice a L.length c) L) (hb : Below W.heap.size W V) (x : Nb) (hx : V.heap[o]? = some (.cells #[.int .i64 x.1.k, .int .i64 x.1.a, .int .i64 x.1.b, .int .i64 x.1.s, .int .i64 x.1.o, .int .i64 x.1.h, x.2.1] 67 (0, 0)))
    (hp : Piece x.2.2 (x.2.2 + 1) W x.2.1 x.1.l) (hq : x.1.l ≠ [] → g < x.2.2 ∧ (Value.slice a L.length c).ownBlock ≠ some x.2.2) (hl : L.length < 1048576) :
    ∃ a' c' w9, (∀ ty, (Builtin.append_ #[24, 24] ty #[.slice a L.length c, .slice (some ⟨o, 0, none⟩) 1 1]).run Tryd.prog V = .ok (.slice a' (L.length + 1) c') w9) ∧ (∃ u, w9.cell? ⟨g, 2, none⟩ = some u) ∧ w9.frozen? ⟨g, 2, none⟩ = false ∧ St lv w0 g v0 (w9.setCell ⟨g, 2, none⟩ (.slice a' (L.length + 1) c')) p (.slice a' (L.length + 1) c') (L ++ [x]) := by
  have hlt := h.lt
  have sz := hb.size
  obtain ⟨a', c', w9, hr, hn, hg, ho⟩ := growN (V := V) (B := g + 1) x hx (h.nl.row.keep hb) (by omega) hl (piece_one hp)
  have vo : ∀ k, (Value.slice a L.length c).ownBlock = some k → g < k := fun k hk => (h.nl.row.own k hk).1
  have hc : w9.heap[g]? = some (.cells #[lv, .int .i64 (p : Int), .slice a L.length c] 44 (0, 0)) := by
    rw [hg.block g (by omega) (fun e => by have := vo g e.symm; omega), hb.block g hlt]
    exact h.cur
  exact ⟨a', c', w9, hr, ⟨_, cell_at hc rfl⟩, free_at hc 2, h.put hb hg hn ho hp hq⟩
end Go.Proofs.YtnebjnglcfebeaaDoor
