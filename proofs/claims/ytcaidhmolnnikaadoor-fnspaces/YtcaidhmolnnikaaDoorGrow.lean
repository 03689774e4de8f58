/-
  A list of numbers of one's own that grows by another list, or by one number.
-/
import Derived.Test.YtcaidhmolnnikaaDoorAppend
import Derived.Test.YtcaidhmolnnikaaDoorLaw3
import Derived.Deep.Upon
import Derived.Maps.AppendAt
import Derived.Deep.AppendLies
import Derived.Deep.RegionLaw
namespace Go.Proofs.YtcaidhmolnnikaaDoor
open Go.RowKit
set_option linter.unusedVariables false
set_option linter.unusedSimpArgs false
theorem ints_news {w : World} {b off : Nat} {l : List Int} (h : ∀ k, k < l.length → w.cell? ⟨b, off + k, none⟩ = some (.int .i64 (l.getD k 0))) : ∀ (j : Nat) (v : Value), (l.map (Value.int .i64))[j]? = some v → w.cell? ((⟨b, off, none⟩ : Addr).add j) = some v := by
  intro j v hv
  rw [List.getElem?_map] at hv
  cases hx : l[j]? with
  | none => rw [hx] at hv; cases hv
  | some x =>
    rw [hx] at hv
    obtain ⟨hj, rfl⟩ := List.getElem?_eq_some_iff.1 hx
    have e : (⟨b, off, none⟩ : Addr).add j = ⟨b, off + j, none⟩ := by unfold Addr.add; split <;> simp_all
    rw [e, h j hj]
    simpa [hj] using hv
theorem grown_below {B : Nat} {w w' : World} {row : Option Nat} (hg : w.grownBy w' row) (hr : ∀ k, row = some k → B ≤ k) (hB : B ≤ w.heap.size) : Below B w w' :=
  ⟨hg.os, hg.tape, hg.output, hg.size, fun k hk => hg.block k (by omega) (fun e => by have := hr k e.symm; omega)⟩
/-- Growing by a list. -/
theorem growL {B : Nat} {w : World} {v : Value} {l m : List Int} {a : Option Addr} (h : NewInts B w v l) (hm : Ints w a m) (hB : B ≤ w.heap.size) (hl : l.length + m.length ≤ 1048576) (c : Nat) :
    ∃ a' c' w', (Builtin.append_ #[22, 22] 22 #[v, .slice a m.length c]).run Tryd.prog w = .ok (.slice a' (l ++ m).length c') w' ∧ NewInts B w' (.slice a' (l ++ m).length c') (l ++ m) ∧ Below B w w' := by
  obtain ⟨i, hq, z1, z2, z3⟩ : ∃ i, Tryd.prog.info? 3 = some i ∧ i.zero = some (.int .i64 0) ∧ i.size = 1 ∧ i.bytes = 8 := by
    have hi := info_int
    cases hq : Tryd.prog.info? 3 with
    | none => rw [hq] at hi; cases hi
    | some i => rw [hq] at hi; simp at hi; exact ⟨i, rfl, hi.1, hi.2.1, hi.2.2⟩
  cases a with
  | none =>
    obtain rfl : m = [] := by
      rcases hm with h | ⟨b, off, e, _⟩
      · exact h
      · cases e
    obtain ⟨base, cap, rfl, hle⟩ : ∃ base cap, v = .slice base l.length cap ∧ l.length ≤ cap := by
      rcases h.2 with ⟨e, h0⟩ | ⟨g, cap, cur, e, _, _, hle, _⟩
      · exact ⟨none, 0, by rw [e, h0], by omega⟩
      · exact ⟨_, cap, e, hle⟩
    refine ⟨base, cap, w, ?_, by simpa using h, Below.refl _ _⟩
    have := run_append_nothing (P := Tryd.prog) w 22 22 22 3 i Tryd.underlying22 hq base l.length cap hle (.slice none 0 c) (by rw [z2]; exact Src.ofNil w Tryd.underlying22 c)
    simpa using this
  | some ad =>
    have hn : ∀ (j : Nat) (u : Value), (m.map (Value.int .i64))[j]? = some u → w.cell? (ad.add j) = some u := by
      rcases hm with rfl | ⟨b, off, e, _, hc⟩
      · intro j u hu; simp at hu
      · cases e; exact ints_news hc
    obtain ⟨v', w', hr, h2, h3, _, _⟩ := run_append_own_at (P := Tryd.prog) w B 22 22 3 i (.int .i64 0) 1 8 Tryd.underlying22 hq z1 z2 z3 rfl (by decide) v l.length (l.map (Value.int .i64)) h ad m.length c (m.map (Value.int .i64)) (by simp) hn (by intro u hu; obtain ⟨x, _, rfl⟩ := List.mem_map.1 hu; rfl) (by unfold maxLen; omega) (by omega) hB
    have h2' : NewInts B w' v' (l ++ m) := by
      show World.ownsRow _ _ _ _ _ _ _
      simpa using h2
    obtain ⟨a', c', rfl, _⟩ := h2'.ints
    exact ⟨a', c', w', hr, h2', grown_below h3 h.row hB⟩
/-- Growing by one number, which lies in a block of its own. -/
theorem grow1 {B : Nat} {w : World} {v : Value} {l : List Int} (x : Int) (h : NewInts B w v l) (hB : B ≤ w.heap.size) (hl : l.length < 1048576) :
    ∃ a' c' w', (Builtin.append_ #[22, 22] 22 #[v, .slice (some ⟨w.heap.size, 0, none⟩) 1 1]).run Tryd.prog (w.alloc (.cells #[.int .i64 x] 3)) = .ok (.slice a' (l.length + 1) c') w' ∧ NewInts B w' (.slice a' (l.length + 1) c') (l ++ [x]) ∧ Below B w w' := by
  obtain ⟨a', c', w', hr, h2, h3⟩ := growL (ownsRow_keep h (bAlloc (Below.refl _ _) (.cells #[.int .i64 x] 3))) (ints_new w [x] 3) (by simp; omega) (by simp; omega) 1
  refine ⟨a', c', w', by simpa using hr, by simpa using h2, ?_⟩
  have := (bAlloc (Below.refl w.heap.size w) (.cells #[.int .i64 x] 3)).mono hB
  exact this.trans h3
theorem NewInts.keep {B : Nat} {w w' : World} {v : Value} {l : List Int} (h : NewInts B w v l) (hb : Below w.heap.size w w') : NewInts B w' v l := ownsRow_keep h hb
theorem NewInts.nil (B : Nat) (w : World) : NewInts B w (.slice none 0 0) [] := ⟨rfl, .inl ⟨rfl, rfl⟩⟩
/-- An append whose run is known, at the operation's own type. -/
theorem wpList_append_ty {P : Program} {w w' : World} {ops : Array Oper} {rest : List Oper} {o : Oper} {a : Act} {Q : Exit → Act → World → Prop} (hgd : o.guard = none) (d s : Operand) (dT sT : TypeId)
    (ho : o.op = .call { callee := .builtin .append, args := #[d, s], argTypes := #[dT, sT] }) (x y v : Value) (hd : a.eval d = x) (hs : a.eval s = y)
    (hrun : (Builtin.append_ #[dT, sT] o.type #[x, y]).run P w = .ok v w') (h : wpList P ops Q rest (a.put o.dst v) w') : wpList P ops Q (o :: rest) a w := by
  refine wpList_plain hgd fun K hK => ?_
  unfold Oper.wp
  simp [execOp, ho, resolve, invoke, builtin, hd, hs, hrun, Result.andThen]
  exact hK _ _ h
/-- The same, as one step of a region that draws its order. -/
theorem step_append_ty {ops : Array Oper} {o : Oper} {a : Act} {w w' : World} {K : Act → World → Prop} {Q : Exit → Act → World → Prop} {E : Prop} (hgd : o.guard = none) (d s : Operand) (dT sT : TypeId)
    (ho : o.op = .call { callee := .builtin .append, args := #[d, s], argTypes := #[dT, sT] }) (x y v : Value) (hd : a.eval d = x) (hs : a.eval s = y)
    (hrun : (Builtin.append_ #[dT, sT] o.type #[x, y]).run Tryd.prog w = .ok v w') (hK : K (a.put o.dst v) w') :
    if Region.wanted o (yielded ops a.tmps) = true then Oper.wp Tryd.prog o a w K Q else E := by
  have hw : Region.wanted o (yielded ops a.tmps) = true := by simp [Region.wanted, hgd]
  rw [if_pos hw]
  unfold Oper.wp
  simp [execOp, ho, resolve, invoke, builtin, hd, hs, hrun, Result.andThen]
  exact hK
/-- An array that is being made, in a box at block g: its shape stands, its numbers grow, in memory behind the box. -/
structure OutAt (g : Nat) (W0 wr : World) (sv : Value) (ad : Option Addr) (cd k : Nat) (m : List Int) : Prop where
  box : Box wr g sv (.slice ad k cd) 27
  row : NewInts (g + 1) wr (.slice ad k cd) m
  below : Below g W0 wr
  len : m.length = k
theorem outAt_new {w : World} {sv : Value} : OutAt w.heap.size w (w.alloc (.cells #[sv, .slice none 0 0] 27)) sv none 0 0 [] :=
  ⟨box_new w _ _ _, NewInts.nil _ _, bAlloc (Below.refl _ _) _, rfl⟩
theorem OutAt.keep {g cd k : Nat} {W0 wr w' : World} {sv : Value} {ad : Option Addr} {m : List Int} (h : OutAt g W0 wr sv ad cd k m) (hb : Below wr.heap.size wr w') : OutAt g W0 w' sv ad cd k m :=
  ⟨h.box.keep hb, h.row.keep hb, h.below.trans (hb.mono (Nat.le_of_lt h.box.lt)), h.len⟩
theorem OutAt.cells {g cd k : Nat} {W0 wr : World} {sv : Value} {ad : Option Addr} {m : List Int} (h : OutAt g W0 wr sv ad cd k m) : wr.cell? ⟨g, 0, none⟩ = some sv ∧ wr.cell? ⟨g, 1, none⟩ = some (.slice ad k cd) ∧ wr.frozen? ⟨g, 0, none⟩ = false ∧ wr.frozen? ⟨g, 1, none⟩ = false :=
  ⟨h.box.c0, h.box.c1, free_at h.box 0, free_at h.box 1⟩
theorem OutAt.box' {g cd k : Nat} {W0 wr w' : World} {sv : Value} {ad : Option Addr} {m : List Int} (h : OutAt g W0 wr sv ad cd k m) (hb : Below (g + 1) wr w') : Box w' g sv (.slice ad k cd) 27 := by
  unfold Box; rw [hb.block g (Nat.lt_succ_self _)]; exact h.box
theorem OutAt.set {g cd k k' cd' : Nat} {W0 wr w' : World} {sv : Value} {ad ad' : Option Addr} {m m' : List Int} (h : OutAt g W0 wr sv ad cd k m) (hn : NewInts (g + 1) w' (.slice ad' k' cd') m') (hb : Below (g + 1) wr w') (hl : m'.length = k') :
    OutAt g W0 (w'.setCell ⟨g, 1, none⟩ (.slice ad' k' cd')) sv ad' cd' k' m' := by
  refine ⟨?_, ?_, below_setCell (h.below.trans (hb.mono (Nat.le_succ _))) (Nat.le_refl _) _ _, hl⟩
  · have := heap_setCell_same w' g 1 _ _ (.slice ad' k' cd') (h.box' hb)
    unfold Box; simpa using this
  · exact hn.but ((But.refl g w').setCell 1 (.slice ad' k' cd')) (by omega)
/-- One number more. -/
theorem OutAt.grow1 {g cd k : Nat} {W0 wr : World} {sv : Value} {ad : Option Addr} {m : List Int} (h : OutAt g W0 wr sv ad cd k m) (hk : k < 1048576) (x : Int) :
    ∃ a' c' w', (Builtin.append_ #[22, 22] 22 #[.slice ad k cd, .slice (some ⟨wr.heap.size, 0, none⟩) 1 1]).run Tryd.prog (wr.alloc (.cells #[.int .i64 x] 3)) = .ok (.slice a' (k + 1) c') w' ∧ Box w' g sv (.slice ad k cd) 27 ∧ OutAt g W0 (w'.setCell ⟨g, 1, none⟩ (.slice a' (k + 1) c')) sv a' c' (k + 1) (m ++ [x]) := by
  obtain ⟨a', c', w', hr, hn, hb⟩ := Go.Proofs.YtcaidhmolnnikaaDoor.grow1 x h.row h.box.lt (by rw [h.len]; exact hk)
  rw [h.len] at hr hn
  exact ⟨a', c', w', hr, h.box' hb, h.set hn hb (by simp [h.len])⟩
/-- A list more. -/
theorem OutAt.growL {g cd k : Nat} {W0 wr : World} {sv : Value} {ad : Option Addr} {m l : List Int} {a : Option Addr} (h : OutAt g W0 wr sv ad cd k m) (hi : Ints wr a l) (hk : k + l.length ≤ 1048576) (c : Nat) :
    ∃ a' c' w', (Builtin.append_ #[22, 22] 22 #[.slice ad k cd, .slice a l.length c]).run Tryd.prog wr = .ok (.slice a' (k + l.length) c') w' ∧ Box w' g sv (.slice ad k cd) 27 ∧ OutAt g W0 (w'.setCell ⟨g, 1, none⟩ (.slice a' (k + l.length) c')) sv a' c' (k + l.length) (m ++ l) := by
  obtain ⟨a', c', w', hr, hn, hb⟩ := Go.Proofs.YtcaidhmolnnikaaDoor.growL h.row hi h.box.lt (by rw [h.len]; exact hk) c
  rw [List.length_append, h.len] at hr hn
  exact ⟨a', c', w', hr, h.box' hb, h.set hn hb (by simp [h.len])⟩
/-- The array that was made. -/
theorem OutAt.arr {g cd k B E : Nat} {W0 wr : World} {a : Option Addr} {c : Nat} {ad : Option Addr} {m S : List Int} (h : OutAt g W0 wr (.slice a S.length c) ad cd k m) (hS : Piece B E W0 (.slice a S.length c) S) (hE : E ≤ g) (hB : B ≤ g) : Arr B wr.heap.size wr (.agg #[.slice a S.length c, .slice ad k cd]) S m := by
  have p1 : Piece B E wr (.slice a S.length c) S := hS.belowC h.below hE
  have p2 := h.row.piece
  have hz := h.box.lt
  exact ⟨_, _, rfl, p1.mono (Nat.le_refl _) (by omega), p2.mono (by omega) (Nat.le_refl _), p1.apart p2 (.inl (by omega))⟩
end Go.Proofs.YtcaidhmolnnikaaDoor
