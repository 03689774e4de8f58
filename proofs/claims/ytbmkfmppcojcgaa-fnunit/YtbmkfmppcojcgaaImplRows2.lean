
/-
  Walks: the program's Rows.
-/
import Derived.Test.YtbmkfmppcojcgaaImplRows1
import Derived.Test.YtbmkfmppcojcgaaSpecRows2
namespace Go.Proofs.Ytbmkfmppcojcgaa
open Go.RowKit Go.Shelf
set_option linter.unusedVariables false
set_option linter.unusedSimpArgs false
attribute [local go_sem] Oper.semAt_some
/-- An append to a row of one's own, in a round: as 'step_append_lies' says it. -/
theorem stepIn_append {l n' : Nat} {P : Program} {w : World} {ops : Array Oper} {o : Oper} {a : Act} {K : Act → World → Prop} {Q : Exit → Act → World → Prop} {E : Prop} (hgd : o.guard = none) (s x : Operand) (t : TypeId)
    (ho : o.op = .call { callee := .builtin .append, args := #[s, x], argTypes := #[t, t] })
    (base : Nat) (e : TypeId) (i : TypeInfo) (z : Value) (size bytes : Nat) (ht : P.underlying t = some (.slice e)) (hi : P.info? e = some i) (hz : i.zero = some z)
    (hsize : i.size = size) (hby : i.bytes = bytes) (hzs : z.cells.size = size) (hsz : 0 < size)
    (v : Value) (n : Nat) (xs : List Value) (hs : a.eval s = v) (hown : w.ownsRow base e size v n xs)
    (ad : Addr) (m c : Nat) (news : List Value) (hx : a.eval x = .slice (some ad) m c) (hl : news.length = m * size) (hnews : ∀ j u, news[j]? = some u → w.cell? (ad.add j) = some u) (h1 : ∀ u ∈ news, u.oneCell' = true)
    (hm : 0 < m) (h63 : n + m ≤ maxLen) (hbytes : (n + m) * bytes ≤ 140737488355328) (hbase : base ≤ w.heap.size) (H : Nat) (hH : w.heap.size = H)
    (h : ∀ g cap w', w'.ownsRow base e size (.slice (some ⟨g, 0, none⟩) (n + m) cap) (n + m) (xs ++ news) → w.grownBy w' v.ownBlock → (v.ownBlock = some g ∨ g = H) → g < w'.heap.size → K (a.put o.dst (.slice (some ⟨g, 0, none⟩) (n + m) cap)) w') :
    if Region.wanted o (yielded ops a.tmps) = true then Oper.wpIn (Fence.wide.inRound l) n' P o a w K Q else E := by
  have hw : Region.wanted o (yielded ops a.tmps) = true := by simp [Region.wanted, hgd]
  rw [if_pos hw]
  obtain ⟨g, cap, w', hr, h2, h3, h4, h5⟩ := run_append_lies (P := P) w t o.type base e i z size bytes ht hi hz hsize hby hzs hsz v n xs hown ad m c news hl hnews h1 hm h63 hbytes hbase H hH
  refine ⟨fun _ _ => trivial, ?_⟩
  rw [show (Fence.wide.inRound l).round = some l from rfl, Oper.semAt_some l _ _ (fun c e => by rw [ho] at e; cases e)]
  unfold execOp
  simp only [ho, resolve, invoke, builtin, Sem.run_bind, Sem.run_pure, Result.andThen_ok, List.map_toArray, List.map_cons, List.map_nil, hs, hx, hr]
  exact h g cap w' h2 h3 h4 h5
theorem make_arrs (n : Nat) (hn : n ≤ 300) (w : World) :
    (Instr.makeSlice 60 (.int .i64 0) (.int .i64 (n : Int))).run Try.prog w = .ok (.slice (some ⟨w.heap.size, 0, none⟩) 0 n) (w.alloc (.cells (madeCells #[.slice none 0 0, .slice none 0 0] (n * 2)) 26)) := by
  have hi := info_arr
  cases hq : Try.prog.info? 26 with
  | none => rw [hq] at hi; cases hi
  | some i =>
    rw [hq] at hi
    simp at hi
    obtain ⟨z1, z2, z3⟩ := hi
    have := run_make (P := Try.prog) w 60 26 i _ Try.underlying60 hq z1 .i64 .i64 0 n (by omega) (by omega) (by rw [z3]; omega) (by omega)
    rw [z2, Int.toNat_natCast] at this
    exact this
/-- A block that holds no number holds no piece. -/
theorem Piece.notRow {B C g : Nat} {w : World} {u : Value} {m : List Int} (h : Piece B C w u m) (hg : ∀ cur t fr, w.heap[g]? = Option.some (.cells cur t fr) → ∀ (k : Nat) (z : Int), cur[k]? ≠ Option.some (Value.int .i64 z)) : NotAt g u := by
  obtain ⟨a, c, rfl, _, h⟩ := h
  intro off n c' e
  cases e
  rcases h with rfl | ⟨g', off, cur, t, e, _, _, hh, hc⟩
  · rfl
  · cases e
    apply Classical.byContradiction
    intro h0
    exact hg cur t _ hh off (m.getD 0 0) (hc 0 (Nat.pos_of_ne_zero h0))
theorem RI.grown {B : Nat} {w0 W W' : World} {v : Value} {k : Nat} {xs : List Value} {F : List (List Int)} {row : Option Nat} (h : RI B w0 W v k xs F) (hg : W.grownBy W' row) (hB : ∀ r, row = some r → B ≤ r) (ho : ∀ r, row = some r → v.ownBlock ≠ some r) (hp : ∀ r, row = some r → ∀ j, j < 2 * k → NotAt r (xs.getD j undef)) : RI B w0 W' v k xs F := by
  have hz := hg.size
  have hs := h.size
  refine ⟨h.own.kept hg ?_, fun j hj => ((h.piece j hj).grown hg (fun g e => hp g e j hj)).mono (Nat.le_refl _) hz, h.apart, h.far, ?_, by omega⟩
  · rcases h.own.2 with ⟨rfl, _⟩ | ⟨g, cap, cur, rfl, _⟩
    · exact .inl rfl
    · exact .inr (fun e => ho g (by rw [← e]; rfl) rfl)
  · refine ⟨hg.os.trans h.below.os, hg.tape.trans h.below.tape, hg.output.trans h.below.output, Nat.le_trans h.below.size hz, fun q hq => ?_⟩
    rw [hg.block q (by omega) (fun e => by have := hB q e.symm; omega)]
    exact h.below.block q hq
theorem RI.congr {B : Nat} {w0 W : World} {v : Value} {k : Nat} {xs : List Value} {F F' : List (List Int)} (h : RI B w0 W v k xs F) (he : ∀ j, j < 2 * k → F.getD j [] = F'.getD j []) : RI B w0 W v k xs F' :=
  ⟨h.own, fun j hj => by rw [← he j hj]; exact h.piece j hj, h.apart, h.far, h.below, h.size⟩
theorem keepsOthers_below {W W' : World} (h : Below W.heap.size W W') : KeepsOthers W W' := ⟨h.size, fun k o hk _ => by rw [h.block k (Array.getElem?_eq_some_iff.1 hk).1]; exact hk⟩
theorem flat_lenR {cnt : Nat} (f g : Fin cnt → List Int) (pre : List (Fin cnt)) : (pre.flatMap (fun k => [f k, g k])).length = 2 * pre.length := by
  induction pre with
  | nil => rfl
  | cons a l ih => simp [List.flatMap_cons] at ih ⊢; omega
/-- Behind the append, and behind the store of the longer list into its box. -/
theorem round_end {cnt B L q g cap g4 cap4 : Nat} {w0 W w3 w4 : World} {xs : List Value} {pre : List (Fin cnt)} {x : Fin cnt} {f h : Fin cnt → List Int} {u v : Value}
    (hri : RI B w0 W (.slice (some ⟨g, 0, none⟩) pre.length cap) pre.length xs (pre.flatMap (fun k => [f k, h k]))) (hbx : Boxed W L 60 (.slice (some ⟨g, 0, none⟩) pre.length cap))
    (hq : q < W.heap.size) (hgq : g ≠ q) (hLq : L ≠ q) (hBL : B ≤ L) (hb : Below W.heap.size W w3) (ha : Arr W.heap.size w3.heap.size w3 (.agg #[u, v]) (f x) (h x))
    (hown : w4.ownsRow B 26 2 (.slice (some ⟨g4, 0, none⟩) (pre.length + 1) cap4) (pre.length + 1) (xs ++ [u, v]))
    (hgrow : (w3.alloc (.cells #[u, v] 26)).grownBy w4 (Value.slice (some ⟨g, 0, none⟩) pre.length cap).ownBlock)
    (hat : (Value.slice (some ⟨g, 0, none⟩) pre.length cap).ownBlock = some g4 ∨ g4 = w3.heap.size + 1) :
    Boxed w4 L 60 (.slice (some ⟨g, 0, none⟩) pre.length cap) ∧ g4 ≠ q ∧
      RI B w0 (w4.setCell ⟨L, 0, none⟩ (.slice (some ⟨g4, 0, none⟩) (pre.length + 1) cap4)) (.slice (some ⟨g4, 0, none⟩) (pre.length + 1) cap4) (pre.length + 1) (xs ++ [u, v]) ((pre ++ [x]).flatMap (fun k => [f k, h k])) ∧
      Boxed (w4.setCell ⟨L, 0, none⟩ (.slice (some ⟨g4, 0, none⟩) (pre.length + 1) cap4)) L 60 (.slice (some ⟨g4, 0, none⟩) (pre.length + 1) cap4) ∧
      KeepsOthers W (w4.setCell ⟨L, 0, none⟩ (.slice (some ⟨g4, 0, none⟩) (pre.length + 1) cap4)) ∧ KeepsBox q W (w4.setCell ⟨L, 0, none⟩ (.slice (some ⟨g4, 0, none⟩) (pre.length + 1) cap4)) := by
  have eo : (Value.slice (some ⟨g, 0, none⟩) pre.length cap).ownBlock = some g := rfl
  rw [eo] at hgrow hat
  have hl := flat_lenR f h pre
  have hb' : Below W.heap.size W (w3.alloc (.cells #[u, v] 26)) := bAlloc hb _
  have eF : (pre ++ [x]).flatMap (fun k => [f k, h k]) = pre.flatMap (fun k => [f k, h k]) ++ [f x, h x] := by simp [List.flatMap_append]
  have hne : some L ≠ some g := hbx.not_row (by decide) hri.own
  have hne4 : L ≠ g4 := by
    rcases hat with e | e
    · cases e; intro e; exact hne (by rw [e])
    · have := hbx.lt; have := hb.size; omega
  have hbx4 : Boxed w4 L 60 (.slice (some ⟨g, 0, none⟩) pre.length cap) := by
    have : (w3.alloc (.cells #[u, v] 26)).heap[L]? = some (.cells #[.slice (some ⟨g, 0, none⟩) pre.length cap] 60 (0, 0)) := by rw [hb'.block L hbx.lt]; exact hbx
    unfold Boxed
    rw [hgrow.block L (lt_of_heapA this) hne]
    exact this
  obtain ⟨x', y', e', px, py, hap⟩ := ha
  obtain ⟨rfl, rfl⟩ : u = x' ∧ v = y' := by cases e'; exact ⟨rfl, rfl⟩
  have hsz : w3.heap.size ≤ (w3.alloc (.cells #[u, v] 26)).heap.size := by simp
  have R4 : RI B w0 w4 (.slice (some ⟨g4, 0, none⟩) (pre.length + 1) cap4) (pre.length + 1) (xs ++ [u, v]) ((pre ++ [x]).flatMap (fun k => [f k, h k])) := by
    refine (hri.congr (F' := (pre ++ [x]).flatMap (fun k => [f k, h k])) (fun j hj => ?_)).step hb' (x := u) (y := v) ?_ ?_ hap hown (by rw [eo]; exact hgrow) (by rw [eo]; rcases hat with e | e; exact .inl e; exact .inr (by simpa using e))
    · rw [eF, getD_app, if_pos (by omega)]
    · rw [eF, getD_app, if_neg (by omega), hl, Nat.sub_self]
      exact (px.keep (bAlloc (Below.refl _ _) _)).mono (Nat.le_refl _) hsz
    · rw [eF, getD_app, if_neg (by omega), hl, show 2 * pre.length + 1 - 2 * pre.length = 1 by omega]
      exact (py.keep (bAlloc (Below.refl _ _) _)).mono (Nat.le_refl _) hsz
  have hqq : w4.heap[q]? = W.heap[q]? := by
    rw [hgrow.block q (by have := hb'.size; omega) (fun e => hgq (by cases e; rfl)), hb'.block q hq]
  refine ⟨hbx4, ?_, R4.grown (grownBy_setCell' w4 L _) (fun r e => by cases e; exact hBL) (fun r e e2 => ?_) (fun r e j hj => ?_), hbx4.set _, ?_, ?_⟩
  · rcases hat with e | e
    · cases e; exact hgq
    · have := hb.size; omega
  · cases e; cases e2; exact hne4 rfl
  · cases e
    refine (R4.piece j hj).notRow (fun cur t fr hh k z hk => ?_)
    rw [show w4.heap[L]? = _ from hbx4] at hh
    cases hh
    cases k <;> simp at hk
  · refine ((keepsOthers_below hb').trans (KeepsOthers.of_grownBy hgrow ?_)).trans (KeepsOthers.setCell _ _ _)
    intro j o e hj
    cases e
    rcases hri.own.2 with ⟨h0, _⟩ | ⟨g', cap', cur, h0, _, hh, _⟩
    · cases h0
    · cases h0
      rw [hb'.block g (lt_of_heapA hh), hh] at hj
      cases hj
      rfl
  · exact (Below.heap_setCell _ _ _ _ (by show q ≠ L; omega)).trans hqq
end Go.Proofs.Ytbmkfmppcojcgaa
