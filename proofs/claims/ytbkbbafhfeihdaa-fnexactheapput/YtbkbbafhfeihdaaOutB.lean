/-
  An array that is being made in a box which lies below other memory that must stand: its numbers grow behind all of it.
-/
import Derived.Test.YtbkbbafhfeihdaaGrow
import Derived.Test.YtbkbbafhfeihdaaArrs
namespace Go.Proofs.Ytbkbbafhfeihdaa
open Go.RowKit
set_option linter.unusedVariables false
structure OutB (g : Nat) (W0 wr : World) (sv : Value) (ad : Option Addr) (cd k : Nat) (m : List Int) : Prop where
  box : Box wr g sv (.slice ad k cd) 36
  row : NewInts W0.heap.size wr (.slice ad k cd) m
  win : Win g (g + 1) W0 wr
  lt : g < W0.heap.size
  len : m.length = k
theorem outB_new {W : World} {g : Nat} {sv : Value} (h : Box W g sv (.slice none 0 0) 36) : OutB g W W sv none 0 0 [] :=
  ⟨h, NewInts.nil _ _, ⟨rfl, rfl, rfl, Nat.le_refl _, fun _ _ _ => rfl⟩, h.lt, rfl⟩
theorem OutB.keep {g cd k : Nat} {W0 wr w' : World} {sv : Value} {ad : Option Addr} {m : List Int} (h : OutB g W0 wr sv ad cd k m) (hb : Below wr.heap.size wr w') : OutB g W0 w' sv ad cd k m :=
  ⟨h.box.keep hb, h.row.keep hb, ⟨hb.os.trans h.win.os, hb.tape.trans h.win.tape, hb.output.trans h.win.output, Nat.le_trans h.win.size hb.size, fun k h1 h2 => (hb.block k (Nat.lt_of_lt_of_le h1 h.win.size)).trans (h.win.block k h1 h2)⟩, h.lt, h.len⟩
theorem OutB.cells {g cd k : Nat} {W0 wr : World} {sv : Value} {ad : Option Addr} {m : List Int} (h : OutB g W0 wr sv ad cd k m) : wr.cell? ⟨g, 0, none⟩ = some sv ∧ wr.cell? ⟨g, 1, none⟩ = some (.slice ad k cd) ∧ wr.frozen? ⟨g, 0, none⟩ = false ∧ wr.frozen? ⟨g, 1, none⟩ = false :=
  ⟨h.box.c0, h.box.c1, free_at h.box 0, free_at h.box 1⟩
/-- A list more. -/
theorem OutB.growL {g cd k : Nat} {W0 wr : World} {sv : Value} {ad : Option Addr} {m l : List Int} {a : Option Addr} (h : OutB g W0 wr sv ad cd k m) (hi : Ints wr a l) (hk : k + l.length ≤ 1048576) (c : Nat) :
    ∃ a' c' w', (Builtin.append_ #[22, 22] 22 #[.slice ad k cd, .slice a l.length c]).run Try.prog wr = .ok (.slice a' (k + l.length) c') w' ∧ Box w' g sv (.slice ad k cd) 36 ∧ OutB g W0 (w'.setCell ⟨g, 1, none⟩ (.slice a' (k + l.length) c')) sv a' c' (k + l.length) (m ++ l) := by
  obtain ⟨a', c', w', hr, hn, hb⟩ := Go.Proofs.Ytbkbbafhfeihdaa.growL h.row hi h.win.size (by rw [h.len]; exact hk) c
  rw [List.length_append, h.len] at hr hn
  have hl := h.lt
  have hx : Box w' g sv (.slice ad k cd) 36 := by
    unfold Box; rw [hb.block g hl]; exact h.box
  refine ⟨a', c', w', hr, hx, ?_, ?_, ?_, hl, by simp [h.len]⟩
  · have := heap_setCell_same w' g 1 _ _ (.slice a' (k + l.length) c') hx
    unfold Box; simpa using this
  · exact hn.but ((But.refl g w').setCell 1 (.slice a' (k + l.length) c')) (by omega)
  · have s1 := win_setCell w' g 1 (.slice a' (k + l.length) c')
    have hz := h.win.size
    have hb2 := hb.size
    refine ⟨s1.os.trans (hb.os.trans h.win.os), s1.tape.trans (hb.tape.trans h.win.tape), s1.output.trans (hb.output.trans h.win.output), Nat.le_trans hz (Nat.le_trans hb2 s1.size), fun o h1 h2 => ?_⟩
    exact (s1.block o (by omega) h2).trans ((hb.block o h1).trans (h.win.block o h1 h2))
/-- One number more. -/
theorem OutB.grow1 {g cd k : Nat} {W0 wr : World} {sv : Value} {ad : Option Addr} {m : List Int} (h : OutB g W0 wr sv ad cd k m) (hk : k < 1048576) (x : Int) :
    ∃ a' c' w', (Builtin.append_ #[22, 22] 22 #[.slice ad k cd, .slice (some ⟨wr.heap.size, 0, none⟩) 1 1]).run Try.prog (wr.alloc (.cells #[.int .i64 x] 3)) = .ok (.slice a' (k + 1) c') w' ∧ Box w' g sv (.slice ad k cd) 36 ∧ OutB g W0 (w'.setCell ⟨g, 1, none⟩ (.slice a' (k + 1) c')) sv a' c' (k + 1) (m ++ [x]) := by
  obtain ⟨a', c', w', hr, hn, hb⟩ := Go.Proofs.Ytbkbbafhfeihdaa.grow1 x h.row h.win.size (by rw [h.len]; exact hk)
  rw [h.len] at hr hn
  have hl := h.lt
  have hx : Box w' g sv (.slice ad k cd) 36 := by
    unfold Box; rw [hb.block g hl]; exact h.box
  refine ⟨a', c', w', hr, hx, ?_, ?_, ?_, hl, by simp [h.len]⟩
  · have := heap_setCell_same w' g 1 _ _ (.slice a' (k + 1) c') hx
    unfold Box; simpa using this
  · exact hn.but ((But.refl g w').setCell 1 (.slice a' (k + 1) c')) (by omega)
  · have s1 := win_setCell w' g 1 (.slice a' (k + 1) c')
    have hz := h.win.size
    have hb2 := hb.size
    refine ⟨s1.os.trans (hb.os.trans h.win.os), s1.tape.trans (hb.tape.trans h.win.tape), s1.output.trans (hb.output.trans h.win.output), Nat.le_trans hz (Nat.le_trans hb2 s1.size), fun o h1 h2 => ?_⟩
    exact (s1.block o (by omega) h2).trans ((hb.block o h1).trans (h.win.block o h1 h2))
/-- The array that was made: its shape lies elsewhere. -/
theorem OutB.arr {g cd k B E : Nat} {W0 wr : World} {a : Option Addr} {c : Nat} {ad : Option Addr} {m S : List Int} (h : OutB g W0 wr (.slice a S.length c) ad cd k m) (hS : Piece B E W0 (.slice a S.length c) S) (hE : E ≤ W0.heap.size) (hB : B ≤ W0.heap.size) (hg : E ≤ g ∨ g + 1 ≤ B) : Arr B wr.heap.size wr (.agg #[.slice a S.length c, .slice ad k cd]) S m := by
  have p1 : Piece B E wr (.slice a S.length c) S := hS.win h.win hg
  have p2 := h.row.piece
  have hz := h.win.size
  exact ⟨_, _, rfl, p1.mono (Nat.le_refl _) (by omega), p2.mono hB (Nat.le_refl _), p1.apart p2 (.inl hE)⟩
/-- Growing by a list: what else stands, and where the list lies then. -/
theorem growX {B : Nat} {w : World} {v : Value} {l m : List Int} {a : Option Addr} (h : NewInts B w v l) (hm : Ints w a m) (hB : B ≤ w.heap.size) (hl : l.length + m.length ≤ 2097152) (c : Nat) :
    ∃ a' c' w', (Builtin.append_ #[22, 22] 22 #[v, .slice a m.length c]).run Try.prog w = .ok (.slice a' (l ++ m).length c') w' ∧ NewInts B w' (.slice a' (l ++ m).length c') (l ++ m) ∧ Below B w w' ∧ (∀ o, o < w.heap.size → v.ownBlock ≠ some o → w'.heap[o]? = w.heap[o]?) ∧ ((Value.slice a' (l ++ m).length c').ownBlock = v.ownBlock ∨ (Value.slice a' (l ++ m).length c').ownBlock = some w.heap.size) := by
  obtain ⟨i, hq, z1, z2, z3⟩ : ∃ i, Try.prog.info? 3 = some i ∧ i.zero = some (.int .i64 0) ∧ i.size = 1 ∧ i.bytes = 8 := by
    have hi := info_int
    cases hq : Try.prog.info? 3 with
    | none => rw [hq] at hi; cases hi
    | some i => rw [hq] at hi; simp at hi; exact ⟨i, rfl, hi.1, hi.2.1, hi.2.2⟩
  cases a with
  | none =>
    obtain rfl : m = [] := by
      rcases hm with h | ⟨b, off, e, _⟩
      · exact h
      · cases e
    obtain ⟨base, cap, rfl, hle⟩ : ∃ base cap, v = .slice base l.length cap ∧ l.length ≤ cap := by
      rcases h.2 with ⟨e, h0⟩ | ⟨g, cap, cur, e, _, _, hle, _⟩
      · exact ⟨none, 0, by rw [e, h0], by omega⟩
      · exact ⟨_, cap, e, hle⟩
    refine ⟨base, cap, w, ?_, by simpa using h, Below.refl _ _, fun _ _ _ => rfl, .inl (by simp)⟩
    have := run_append_nothing (P := Try.prog) w 22 22 22 3 i Try.underlying22 hq base l.length cap hle (.slice none 0 c) (by rw [z2]; exact Src.ofNil w Try.underlying22 c)
    simpa using this
  | some ad =>
    have hn : ∀ (j : Nat) (u : Value), (m.map (Value.int .i64))[j]? = some u → w.cell? (ad.add j) = some u := by
      rcases hm with rfl | ⟨b, off, e, _, hc⟩
      · intro j u hu; simp at hu
      · cases e; exact ints_news hc
    obtain ⟨v', w', hr, h2, h3, _, h5⟩ := run_append_own_at (P := Try.prog) w B 22 22 3 i (.int .i64 0) 1 8 Try.underlying22 hq z1 z2 z3 rfl (by decide) v l.length (l.map (Value.int .i64)) h ad m.length c (m.map (Value.int .i64)) (by simp) hn (by intro u hu; obtain ⟨x, _, rfl⟩ := List.mem_map.1 hu; rfl) (by unfold maxLen; omega) (by omega) hB
    have h2' : NewInts B w' v' (l ++ m) := by
      show World.ownsRow _ _ _ _ _ _ _
      simpa using h2
    obtain ⟨a', c', rfl, _⟩ := h2'.ints
    exact ⟨a', c', w', hr, h2', grown_below h3 h.row hB, fun o ho hne => h3.block o ho (fun e => hne e.symm), h5⟩
/-- A list of numbers does not lie in a box of two lists. -/
theorem Piece.notBox {B C g : Nat} {w : World} {v : Value} {l : List Int} {a b : Option Addr} {n c n' c' : Nat} {T : TypeId} (h : Piece B C w v l) (hb : Box w g (.slice a n c) (.slice b n' c') T) : NotAt g v := by
  obtain ⟨a0, c0, rfl, hle, h⟩ := h
  intro off m cc e
  cases l with
  | nil => cases e; rfl
  | cons x l =>
    rcases h with h | ⟨o, of, cur, t, rfl, _, _, hg, hr⟩
    · cases h
    · exfalso
      cases e
      unfold Box at hb
      rw [hb] at hg
      cases hg
      have := hr 0 (by simp)
      rw [Nat.add_zero] at this
      match off, this with
      | 0, h => simp at h
      | 1, h => simp at h
      | k + 2, h => simp at h
theorem Piece.winB {B C g : Nat} {w w' : World} {v : Value} {l : List Int} (h : Piece B C w v l) (hw : Win g (g + 1) w w') (hn : NotAt g v) (hC : C ≤ w.heap.size) : Piece B C w' v l := by
  obtain ⟨a, c, rfl, hle, h⟩ := h
  refine ⟨a, c, rfl, hle, ?_⟩
  rcases h with rfl | ⟨o, off, cur, t, rfl, h1, h2, hg, r⟩
  · exact .inl rfl
  · by_cases e : o = g
    · subst e
      have := hn _ _ _ rfl
      exact .inl (List.eq_nil_of_length_eq_zero this)
    · exact .inr ⟨o, off, cur, t, rfl, h1, h2, by rw [hw.block o (by omega) (by omega)]; exact hg, r⟩
/-- The array that was made, its shape anywhere but in its own box. -/
theorem OutB.arrN {g cd k B E : Nat} {W0 wr : World} {a : Option Addr} {c : Nat} {ad : Option Addr} {m S : List Int} (h : OutB g W0 wr (.slice a S.length c) ad cd k m) (hS : Piece B E W0 (.slice a S.length c) S) (hE : E ≤ W0.heap.size) (hB : B ≤ W0.heap.size) (hn : NotAt g (.slice a S.length c)) : Arr B wr.heap.size wr (.agg #[.slice a S.length c, .slice ad k cd]) S m := by
  have p1 : Piece B E wr (.slice a S.length c) S := hS.winB h.win hn hE
  have p2 := h.row.piece
  have hz := h.win.size
  exact ⟨_, _, rfl, p1.mono (Nat.le_refl _) (by omega), p2.mono hB (Nat.le_refl _), p1.apart p2 (.inl hE)⟩
/-- A list of numbers of one's own does not lie in a box of an array. -/
theorem newInts_notBox {B g : Nat} {w : World} {v x y : Value} {l : List Int} (h : NewInts B w v l) (hb : Box w g x y 36) : v.ownBlock ≠ some g := by
  rcases h.2 with ⟨rfl, _⟩ | ⟨o, cap, cur, rfl, _, hg, _⟩
  · simp [Value.ownBlock]
  · intro e
    simp only [Value.ownBlock, Option.some.injEq] at e
    subst e
    unfold Box at hb
    rw [hb] at hg
    injection hg with hg
    injection hg with _ h2 _
    exact absurd h2 (by decide)
theorem notAt_own {g : Nat} {v : Value} (h : v.ownBlock ≠ some g) : NotAt g v := by
  intro off n c e
  subst e
  exact absurd rfl h
theorem newInts_setBox {B g i : Nat} {w : World} {v x y u : Value} {l : List Int} (h : NewInts B w v l) (hb : Box w g x y 36) : NewInts B (w.setCell ⟨g, i, none⟩ u) v l := by
  have hn := newInts_notBox h hb
  obtain ⟨h1, h2⟩ := h
  refine ⟨h1, ?_⟩
  rcases h2 with h2 | ⟨o, cap, cur, rfl, hB, hg, r⟩
  · exact .inl h2
  · refine .inr ⟨o, cap, cur, rfl, hB, ?_, r⟩
    rw [heap_setCell_other _ _ _ _ (by show o ≠ g; intro e; subst e; exact hn rfl)]
    exact hg
/-- Growing by a list: boxes of arrays stand. -/
theorem growK {B : Nat} {w : World} {v : Value} {l m : List Int} {a : Option Addr} (h : NewInts B w v l) (hm : Ints w a m) (hB : B ≤ w.heap.size) (hl : l.length + m.length ≤ 2097152) (c : Nat) :
    ∃ a' c' w', (Builtin.append_ #[22, 22] 22 #[v, .slice a m.length c]).run Try.prog w = .ok (.slice a' (l ++ m).length c') w' ∧ NewInts B w' (.slice a' (l ++ m).length c') (l ++ m) ∧ Below B w w' ∧ (∀ g x y, Box w g x y 36 → Box w' g x y 36) := by
  obtain ⟨a', c', w', r, n, b, k, _⟩ := growX h hm hB hl c
  refine ⟨a', c', w', r, n, b, fun g x y hb => ?_⟩
  unfold Box
  rw [k g hb.lt (newInts_notBox h hb)]
  exact hb
theorem shape_put {w V : World} {q : Nat} {v x0 y0 : Value} {l : List Int} (hb : Below w.heap.size w V) (hq : w.heap.size ≤ q) (bq : Box V q x0 y0 36) (n : NewInts w.heap.size V v l) :
    Box ((V.setCell ⟨q, 0, none⟩ v).setCell ⟨q, 1, none⟩ (.slice none 0 0)) q v (.slice none 0 0) 36 ∧ NewInts w.heap.size ((V.setCell ⟨q, 0, none⟩ v).setCell ⟨q, 1, none⟩ (.slice none 0 0)) v l ∧ Below w.heap.size w ((V.setCell ⟨q, 0, none⟩ v).setCell ⟨q, 1, none⟩ (.slice none 0 0)) := by
  have b1 : Box (V.setCell ⟨q, 0, none⟩ v) q v y0 36 := by
    have := heap_setCell_same V q 0 _ _ v bq
    unfold Box; simpa using this
  exact ⟨arr_stored bq, newInts_setBox (newInts_setBox n bq) b1, below_setCell (below_setCell hb hq _ _) hq _ _⟩
theorem shape_new {w V : World} {v : Value} {l : List Int} (hb : Below w.heap.size w V) (n : NewInts w.heap.size V v l) :
    Box (V.alloc (.cells #[v, .slice none 0 0] 36)) V.heap.size v (.slice none 0 0) 36 ∧ NewInts w.heap.size (V.alloc (.cells #[v, .slice none 0 0] 36)) v l ∧ Below w.heap.size w (V.alloc (.cells #[v, .slice none 0 0] 36)) :=
  ⟨box_new V _ _ _, n.keep (bAlloc (Below.refl _ _) _), bAlloc hb _⟩
/-- Two lists one behind the other, in whatever order the box of the answer is laid among the steps: the four ways. -/
theorem shape_ways {w : World} {a b : Option Addr} {l m : List Int} (ha : Ints w a l) (hb : Ints w b m) (hl : l.length + m.length ≤ 2097152) (c c' : Nat) (E N : Obj) (hE : E = .cells #[] 3) (hN : N = .cells #[.slice none 0 0, .slice none 0 0] 36) :
    ∃ aA cA wA aB cB wB aC cC wC aD cD wD aE cE wE aF cF wF aG cG wG,
      ((Builtin.append_ #[22, 22] 22 #[.slice (some ⟨w.heap.size, 0, none⟩) 0 0, .slice a l.length c]).run Try.prog (World.drew (w.alloc E)) = .ok (.slice aA l.length cA) wA ∧
       (Builtin.append_ #[22, 22] 22 #[.slice (some ⟨w.heap.size + 1, 0, none⟩) 0 0, .slice a l.length c]).run Try.prog (World.drew ((w.alloc N).alloc E)) = .ok (.slice aB l.length cB) wB ∧
       (Builtin.append_ #[22, 22] 22 #[.slice (some ⟨w.heap.size, 0, none⟩) 0 0, .slice a l.length c]).run Try.prog (World.drew ((w.alloc E).alloc N)) = .ok (.slice aC l.length cC) wC ∧
       (Builtin.append_ #[22, 22] 22 #[.slice aA l.length cA, .slice b m.length c']).run Try.prog wA = .ok (.slice aD (l.length + m.length) cD) wD ∧
       (Builtin.append_ #[22, 22] 22 #[.slice aA l.length cA, .slice b m.length c']).run Try.prog (wA.alloc N) = .ok (.slice aE (l.length + m.length) cE) wE ∧
       (Builtin.append_ #[22, 22] 22 #[.slice aB l.length cB, .slice b m.length c']).run Try.prog wB = .ok (.slice aF (l.length + m.length) cF) wF ∧
       (Builtin.append_ #[22, 22] 22 #[.slice aC l.length cC, .slice b m.length c']).run Try.prog wC = .ok (.slice aG (l.length + m.length) cG) wG) ∧
      (Below w.heap.size w wA ∧ Below w.heap.size w wB ∧ Below w.heap.size w wC ∧ Below w.heap.size w wD ∧ Below w.heap.size w wE ∧ Below w.heap.size w wF ∧ Below w.heap.size w wG) ∧
      (NewInts w.heap.size wD (.slice aD (l ++ m).length cD) (l ++ m) ∧ NewInts w.heap.size wE (.slice aE (l ++ m).length cE) (l ++ m) ∧ NewInts w.heap.size wF (.slice aF (l ++ m).length cF) (l ++ m) ∧ NewInts w.heap.size wG (.slice aG (l ++ m).length cG) (l ++ m)) ∧
      (Box wE wA.heap.size (.slice none 0 0) (.slice none 0 0) 36 ∧ Box wB w.heap.size (.slice none 0 0) (.slice none 0 0) 36 ∧ Box wF w.heap.size (.slice none 0 0) (.slice none 0 0) 36 ∧ Box wC (w.heap.size + 1) (.slice none 0 0) (.slice none 0 0) 36 ∧ Box wG (w.heap.size + 1) (.slice none 0 0) (.slice none 0 0) 36) := by
  have s1 : (w.alloc N).heap.size = w.heap.size + 1 := by simp
  have BA : Below w.heap.size w (World.drew (w.alloc E)) := (bAlloc (Below.refl _ _) _).drew
  have BB : Below w.heap.size w (World.drew ((w.alloc N).alloc E)) := (bAlloc (bAlloc (Below.refl _ _) _) _).drew
  have BC : Below w.heap.size w (World.drew ((w.alloc E).alloc N)) := (bAlloc (bAlloc (Below.refl _ _) _) _).drew
  have NA0 : NewInts w.heap.size (w.alloc E) (.slice (some ⟨w.heap.size, 0, none⟩) 0 0) [] := by rw [hE]; exact newInts_alloc w [] (Nat.le_refl _) (by simp)
  have NA : NewInts w.heap.size (World.drew (w.alloc E)) (.slice (some ⟨w.heap.size, 0, none⟩) 0 0) [] := NA0.keep ((Below.refl _ _).drew)
  have NB : NewInts w.heap.size (World.drew ((w.alloc N).alloc E)) (.slice (some ⟨w.heap.size + 1, 0, none⟩) 0 0) [] := by
    have q : NewInts w.heap.size ((w.alloc N).alloc E) (.slice (some ⟨(w.alloc N).heap.size, 0, none⟩) 0 0) [] := by rw [hE]; exact newInts_alloc (w.alloc N) [] (by omega) (by simp)
    rw [s1] at q
    exact q.keep ((Below.refl _ _).drew)
  have NC : NewInts w.heap.size (World.drew ((w.alloc E).alloc N)) (.slice (some ⟨w.heap.size, 0, none⟩) 0 0) [] := NA0.keep ((bAlloc (Below.refl _ _) N).drew)
  obtain ⟨aA, cA, wA, rA, nA, bA, kA⟩ := growK NA (ha.keep BA) BA.size (by simp; omega) c
  obtain ⟨aB, cB, wB, rB, nB, bB, kB⟩ := growK NB (ha.keep BB) BB.size (by simp; omega) c
  obtain ⟨aC, cC, wC, rC, nC, bC, kC⟩ := growK NC (ha.keep BC) BC.size (by simp; omega) c
  rw [List.nil_append] at rA rB rC nA nB nC
  have bA := BA.trans bA
  have bB := BB.trans bB
  have bC := BC.trans bC
  have bAN : Below w.heap.size w (wA.alloc N) := bAlloc bA _
  obtain ⟨aD, cD, wD, rD, nD, bD, kD⟩ := growK nA (hb.keep bA) bA.size hl c'
  obtain ⟨aE, cE, wE, rE, nE, bE, kE⟩ := growK (nA.keep (bAlloc (Below.refl _ _) N)) (hb.keep bAN) bAN.size hl c'
  obtain ⟨aF, cF, wF, rF, nF, bF, kF⟩ := growK nB (hb.keep bB) bB.size hl c'
  obtain ⟨aG, cG, wG, rG, nG, bG, kG⟩ := growK nC (hb.keep bC) bC.size hl c'
  have xB : Box (World.drew ((w.alloc N).alloc E)) w.heap.size (.slice none 0 0) (.slice none 0 0) 36 := by rw [hN]; exact heap_alloc2_old w _ _
  have xC : Box (World.drew ((w.alloc E).alloc N)) (w.heap.size + 1) (.slice none 0 0) (.slice none 0 0) 36 := by rw [hN]; exact heap_alloc2_new w _ _
  have xE : Box (wA.alloc N) wA.heap.size (.slice none 0 0) (.slice none 0 0) 36 := by rw [hN]; exact box_new wA _ _ _
  have eL : (l ++ m).length = l.length + m.length := List.length_append
  refine ⟨aA, cA, wA, aB, cB, wB, aC, cC, wC, aD, cD, wD, aE, cE, wE, aF, cF, wF, aG, cG, wG, ⟨rA, rB, rC, ?_, ?_, ?_, ?_⟩, ⟨bA, bB, bC, bA.trans bD, bAN.trans bE, bB.trans bF, bC.trans bG⟩, ⟨nD, nE, nF, nG⟩, ⟨kE _ _ _ xE, kB _ _ _ xB, kF _ _ _ (kB _ _ _ xB), kC _ _ _ xC, kG _ _ _ (kC _ _ _ xC)⟩⟩
  · rw [← eL]; exact rD
  · rw [← eL]; exact rE
  · rw [← eL]; exact rF
  · rw [← eL]; exact rG
end Go.Proofs.Ytbkbbafhfeihdaa
