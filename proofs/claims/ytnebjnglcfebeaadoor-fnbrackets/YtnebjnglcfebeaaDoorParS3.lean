/-
  Walks: the specification's l9Operand.
-/
import Derived.Test.YtnebjnglcfebeaaDoorParS2
namespace Go.Proofs.YtnebjnglcfebeaaDoor
open Go.RowKit
set_option linter.unusedVariables false
set_option linter.unusedSimpArgs false
/-- Growing by a number that lies at o. -/
theorem growI1 {B o : Nat} {V : World} {v : Value} {m : List Int} {t : TypeId} (x : Int) (hx : V.heap[o]? = some (.cells #[.int .i64 x] t (0, 0))) (h : NewInts B V v m) (hB : B ≤ V.heap.size) (hl : m.length < 1048576) :
    ∃ a' c' w', (∀ ty, (Builtin.append_ #[65, 65] ty #[v, .slice (some ⟨o, 0, none⟩) 1 1]).run Tryd.prog V = .ok (.slice a' (m.length + 1) c') w') ∧ NewInts B w' (.slice a' (m.length + 1) c') (m ++ [x]) ∧ V.grownBy w' v.ownBlock ∧ ((Value.slice a' (m.length + 1) c').ownBlock = v.ownBlock ∨ (Value.slice a' (m.length + 1) c').ownBlock = some V.heap.size) := by
  obtain ⟨i, hq, z1, z2, z3⟩ : ∃ i, Tryd.prog.info? 3 = some i ∧ i.zero = some (.int .i64 0) ∧ i.size = 1 ∧ i.bytes = 8 := by
    have hi := info_int
    cases hq : Tryd.prog.info? 3 with
    | none => rw [hq] at hi; cases hi
    | some i => rw [hq] at hi; simp at hi; exact ⟨i, rfl, hi.1, hi.2.1, hi.2.2⟩
  obtain ⟨v', w', hr, h2, h3, _, h5⟩ := run_append_own_at (P := Tryd.prog) V B 65 65 3 i (.int .i64 0) 1 8 Tryd.underlying65 hq z1 z2 z3 rfl (by decide) v m.length (m.map (Value.int .i64)) h ⟨o, 0, none⟩ 1 1 [.int .i64 x] rfl
    (by
      intro j u hj
      have e : (⟨o, 0, none⟩ : Addr).add j = ⟨o, j, none⟩ := by unfold Addr.add; split <;> simp_all
      rw [e]
      exact cell_at hx (by simpa using hj))
    (by intro u hu; simp at hu; subst hu; rfl) (by unfold maxLen; omega) (by omega) hB
  have h2' : NewInts B w' v' (m ++ [x]) := by
    show World.ownsRow _ _ _ _ _ _ _
    simpa using h2
  obtain ⟨a', c', rfl⟩ : ∃ a' c', v' = .slice a' (m.length + 1) c' := by
    obtain ⟨a', c', e, _⟩ := h2'.ints
    exact ⟨a', c', by simpa using e⟩
  exact ⟨a', c', w', fun ty => hr, h2', h3, h5⟩
/-- Where such numbers lie. -/
theorem NewInts.one {B : Nat} {w : World} {v : Value} {l : List Int} (h : NewInts B w v l) : ∃ b, Piece b (b + 1) w v l ∧ (l ≠ [] → B ≤ b) := by
  have hp := h.piece
  obtain ⟨a, c, e, hc, hp⟩ := hp
  by_cases hl : l = []
  · exact ⟨0, ⟨a, c, e, hc, .inl hl⟩, fun q => absurd hl q⟩
  · rcases hp with q | ⟨g, off, cur, t, e2, h1, h2, h3, h4⟩
    · exact absurd q hl
    · exact ⟨g, ⟨a, c, e, hc, .inr ⟨g, off, cur, t, e2, Nat.le_refl _, by omega, h3, h4⟩⟩, fun _ => h1⟩
theorem NewInts.own {B : Nat} {w : World} {v : Value} {l : List Int} (h : NewInts B w v l) : ∀ k, v.ownBlock = some k → B ≤ k ∧ k < w.heap.size := by
  intro k hk
  rcases h.2 with ⟨e, _⟩ | ⟨g, cap, cur, e, hB, hg, _⟩
  · rw [e] at hk; simp [Value.ownBlock] at hk
  · rw [e] at hk; simp [Value.ownBlock] at hk; subst hk; exact ⟨hB, lt_of_heapA hg⟩
theorem NewInts.same {B : Nat} {w w' : World} {v : Value} {l : List Int} (h : NewInts B w v l) (hb : ∀ k, B ≤ k → k < w.heap.size → w'.heap[k]? = w.heap[k]?) : NewInts B w' v l := by
  obtain ⟨h0, h⟩ := h
  refine ⟨h0, ?_⟩
  rcases h with h | ⟨g, cap, cur, e, hB, hg, h3⟩
  · exact .inl h
  · exact .inr ⟨g, cap, cur, e, hB, by rw [hb g hB (lt_of_heapA hg)]; exact hg, h3⟩
/-- The node of numbers that is being read, in a box at r. -/
structure NumK (lv : Value) (w0 : World) (g : Nat) (v0 : Value) (r : Nat) (wr : World) (q : Nat) (v : Value) (L : List Nb) (a : Option Addr) (k c : Nat) (m : List Int) : Prop where
  st : St lv w0 g v0 wr q v L
  box : wr.heap[r]? = some (.cells #[.int .i64 1, .int .i64 0, .int .i64 0, .int .i64 0, .int .i64 0, .int .i64 0, .slice a k c] 67 (0, 0))
  row : NewInts (r + 1) wr (.slice a k c) m
  len : m.length = k
section
variable {lv v0 v : Value} {w0 wr w' : World} {g r q k c : Nat} {L : List Nb} {a : Option Addr} {m : List Int}
theorem NumK.keep (h : NumK lv w0 g v0 r wr q v L a k c m) (hb : Below wr.heap.size wr w') : NumK lv w0 g v0 r w' q v L a k c m :=
  ⟨h.st.keep hb, by rw [hb.block r (lt_of_heapA h.box)]; exact h.box, ownsRow_keep h.row hb, h.len⟩
theorem NumK.move (h : NumK lv w0 g v0 r wr q v L a k c m) (hr : g < r) (q' : Nat) : NumK lv w0 g v0 r (wr.setCell ⟨g, 1, none⟩ (.int .i64 (q' : Int))) q' v L a k c m := by
  have ww : Win g (g + 1) wr (wr.setCell ⟨g, 1, none⟩ (.int .i64 (q' : Int))) := win_setCell _ _ _ _
  exact ⟨h.st.move q', by rw [ww.block r (lt_of_heapA h.box) (by omega)]; exact h.box, h.row.same fun j h1 h2 => ww.block j h2 (by omega), h.len⟩
/-- One more number. -/
theorem NumK.grow {V : World} {o : Nat} (h : NumK lv w0 g v0 r wr q v L a k c m) (hb : Below wr.heap.size wr V) (x : Int) (hx : V.heap[o]? = some (.cells #[.int .i64 x] 3 (0, 0))) (hr : w0.heap.size ≤ r) (hg : g < w0.heap.size) (hv : ∀ j, v0.ownBlock = some j → j < w0.heap.size) (hve : v = v0) (hL : ∀ y, y ∈ L → y.1.l ≠ [] → y.2.2 < w0.heap.size) (hl : k < 1048576) :
    ∃ a' c' w9, (∀ ty, (Builtin.append_ #[65, 65] ty #[.slice a k c, .slice (some ⟨o, 0, none⟩) 1 1]).run Tryd.prog V = .ok (.slice a' (k + 1) c') w9) ∧ (∃ u, w9.cell? ⟨r, 6, none⟩ = some u) ∧ w9.frozen? ⟨r, 6, none⟩ = false ∧ NumK lv w0 g v0 r (w9.setCell ⟨r, 6, none⟩ (.slice a' (k + 1) c')) q v L a' (k + 1) c' (m ++ [x]) := by
  have hK := h.keep hb
  have hrl := lt_of_heapA hK.box
  obtain ⟨a', c', w9, hrun, hn, hgr, ho⟩ := growI1 (V := V) (B := r + 1) x hx hK.row (by omega) (by have := h.len; omega)
  rw [h.len] at hrun hn ho
  have own : ∀ j, (Value.slice a k c).ownBlock = some j → r + 1 ≤ j := fun j hj => (hK.row.own j hj).1
  have old : ∀ j, j ≤ r → w9.heap[j]? = V.heap[j]? := fun j hj => hgr.block j (by omega) (fun e => by have := own j e.symm; omega)
  have hbox : w9.heap[r]? = some (.cells #[.int .i64 1, .int .i64 0, .int .i64 0, .int .i64 0, .int .i64 0, .int .i64 0, .slice a k c] 67 (0, 0)) := by rw [old r (Nat.le_refl _)]; exact hK.box
  have ww : Win r (r + 1) w9 (w9.setCell ⟨r, 6, none⟩ (.slice a' (k + 1) c')) := win_setCell _ _ _ _
  have hs := hgr.size
  have C9 : Chg g (.slice none 0 0) V (w9.setCell ⟨r, 6, none⟩ (.slice a' (k + 1) c')) ∨ True := .inr trivial
  have blk : ∀ j, j < r → (w9.setCell ⟨r, 6, none⟩ (.slice a' (k + 1) c')).heap[j]? = V.heap[j]? := fun j hj => by rw [ww.block j (by omega) (by omega), old j (by omega)]
  refine ⟨a', c', w9, hrun, ⟨_, cell_at hbox rfl⟩, free_at hbox 6, ⟨⟨?_, ?_, ?_, hK.st.own⟩, ?_, hn.same fun j h1 h2 => ww.block j h2 (by omega), by rw [List.length_append, h.len]; rfl⟩⟩
  · unfold Cur
    rw [blk g (by omega)]
    exact hK.st.cur
  · refine ⟨hK.st.nl.row.same fun j hj => blk j (by have := hv j (by rw [← hve]; exact hj); omega), fun y hy => ⟨piece_same (hK.st.nl.nums y hy).1 fun hl => blk _ (by have := hL y hy hl; omega), (hK.st.nl.nums y hy).2⟩⟩
  · have c1 := hK.st.chg
    exact ⟨(ww.os.trans hgr.os).trans c1.os, (ww.tape.trans hgr.tape).trans c1.tape, (ww.output.trans hgr.output).trans c1.output, by have := c1.size; have := ww.size; omega, fun j hj h1 h2 => by rw [blk j (by omega)]; exact c1.block j hj h1 h2⟩
  · have := heap_setCell_same w9 r 6 _ _ (.slice a' (k + 1) c') hbox
    simpa using this
end
end Go.Proofs.YtnebjnglcfebeaaDoor
