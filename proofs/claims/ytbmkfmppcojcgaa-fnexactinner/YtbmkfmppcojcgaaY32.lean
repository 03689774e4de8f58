/-
  Several texts, one behind the other: ImplRows2, ImplRows3, ImplRed1.
-/
import Derived.Test.YtbmkfmppcojcgaaY31
import Derived.Test.YtbmkfmppcojcgaaY11
import Derived.RangeFuncBox
import Derived.Maps.AppendAt
import Derived.Test.YtbmkfmppcojcgaaY12
import Derived.Test.YtbmkfmppcojcgaaY17
namespace Go.Proofs.Ytbmkfmppcojcgaa
open Go.RowKit Go.Shelf
set_option linter.unusedVariables false
set_option linter.unusedSimpArgs false
attribute [local go_sem] Oper.semAt_some
/-- An append to a row of one's own, in a round: as 'step_append_lies' says it. -/
theorem stepIn_append {l n' : Nat} {P : Program} {w : World} {ops : Array Oper} {o : Oper} {a : Act} {K : Act → World → Prop} {Q : Exit → Act → World → Prop} {E : Prop} (hgd : o.guard = none) (s x : Operand) (t : TypeId)
    (ho : o.op = .call { callee := .builtin .append, args := #[s, x], argTypes := #[t, t] })
    (base : Nat) (e : TypeId) (i : TypeInfo) (z : Value) (size bytes : Nat) (ht : P.underlying t = some (.slice e)) (hi : P.info? e = some i) (hz : i.zero = some z)
    (hsize : i.size = size) (hby : i.bytes = bytes) (hzs : z.cells.size = size) (hsz : 0 < size)
    (v : Value) (n : Nat) (xs : List Value) (hs : a.eval s = v) (hown : w.ownsRow base e size v n xs)
    (ad : Addr) (m c : Nat) (news : List Value) (hx : a.eval x = .slice (some ad) m c) (hl : news.length = m * size) (hnews : ∀ j u, news[j]? = some u → w.cell? (ad.add j) = some u) (h1 : ∀ u ∈ news, u.oneCell' = true)
    (hm : 0 < m) (h63 : n + m ≤ maxLen) (hbytes : (n + m) * bytes ≤ 140737488355328) (hbase : base ≤ w.heap.size) (H : Nat) (hH : w.heap.size = H)
    (h : ∀ g cap w', w'.ownsRow base e size (.slice (some ⟨g, 0, none⟩) (n + m) cap) (n + m) (xs ++ news) → w.grownBy w' v.ownBlock → (v.ownBlock = some g ∨ g = H) → g < w'.heap.size → K (a.put o.dst (.slice (some ⟨g, 0, none⟩) (n + m) cap)) w') :
    if Region.wanted o (yielded ops a.tmps) = true then Oper.wpIn (Fence.wide.inRound l) n' P o a w K Q else E := by
  have hw : Region.wanted o (yielded ops a.tmps) = true := by simp [Region.wanted, hgd]
  rw [if_pos hw]
  obtain ⟨g, cap, w', hr, h2, h3, h4, h5⟩ := run_append_lies (P := P) w t o.type base e i z size bytes ht hi hz hsize hby hzs hsz v n xs hown ad m c news hl hnews h1 hm h63 hbytes hbase H hH
  refine ⟨fun _ _ => trivial, ?_⟩
  rw [show (Fence.wide.inRound l).round = some l from rfl, Oper.semAt_some l _ _ (fun c e => by rw [ho] at e; cases e)]
  unfold execOp
  simp only [ho, resolve, invoke, builtin, Sem.run_bind, Sem.run_pure, Result.andThen_ok, List.map_toArray, List.map_cons, List.map_nil, hs, hx, hr]
  exact h g cap w' h2 h3 h4 h5
theorem make_arrs (n : Nat) (hn : n ≤ 300) (w : World) :
    (Instr.makeSlice 60 (.int .i64 0) (.int .i64 (n : Int))).run Try.prog w = .ok (.slice (some ⟨w.heap.size, 0, none⟩) 0 n) (w.alloc (.cells (madeCells #[.slice none 0 0, .slice none 0 0] (n * 2)) 26)) := by
  have hi := info_arr
  cases hq : Try.prog.info? 26 with
  | none => rw [hq] at hi; cases hi
  | some i =>
    rw [hq] at hi
    simp at hi
    obtain ⟨z1, z2, z3⟩ := hi
    have := run_make (P := Try.prog) w 60 26 i _ Try.underlying60 hq z1 .i64 .i64 0 n (by omega) (by omega) (by rw [z3]; omega) (by omega)
    rw [z2, Int.toNat_natCast] at this
    exact this
/-- A block that holds no number holds no piece. -/
theorem Piece.notRow {B C g : Nat} {w : World} {u : Value} {m : List Int} (h : Piece B C w u m) (hg : ∀ cur t fr, w.heap[g]? = Option.some (.cells cur t fr) → ∀ (k : Nat) (z : Int), cur[k]? ≠ Option.some (Value.int .i64 z)) : NotAt g u := by
  obtain ⟨a, c, rfl, _, h⟩ := h
  intro off n c' e
  cases e
  rcases h with rfl | ⟨g', off, cur, t, e, _, _, hh, hc⟩
  · rfl
  · cases e
    apply Classical.byContradiction
    intro h0
    exact hg cur t _ hh off (m.getD 0 0) (hc 0 (Nat.pos_of_ne_zero h0))
theorem RI.grown {B : Nat} {w0 W W' : World} {v : Value} {k : Nat} {xs : List Value} {F : List (List Int)} {row : Option Nat} (h : RI B w0 W v k xs F) (hg : W.grownBy W' row) (hB : ∀ r, row = some r → B ≤ r) (ho : ∀ r, row = some r → v.ownBlock ≠ some r) (hp : ∀ r, row = some r → ∀ j, j < 2 * k → NotAt r (xs.getD j undef)) : RI B w0 W' v k xs F := by
  have hz := hg.size
  have hs := h.size
  refine ⟨h.own.kept hg ?_, fun j hj => ((h.piece j hj).grown hg (fun g e => hp g e j hj)).mono (Nat.le_refl _) hz, h.apart, h.far, ?_, by omega⟩
  · rcases h.own.2 with ⟨rfl, _⟩ | ⟨g, cap, cur, rfl, _⟩
    · exact .inl rfl
    · exact .inr (fun e => ho g (by rw [← e]; rfl) rfl)
  · refine ⟨hg.os.trans h.below.os, hg.tape.trans h.below.tape, hg.output.trans h.below.output, Nat.le_trans h.below.size hz, fun q hq => ?_⟩
    rw [hg.block q (by omega) (fun e => by have := hB q e.symm; omega)]
    exact h.below.block q hq
theorem RI.congr {B : Nat} {w0 W : World} {v : Value} {k : Nat} {xs : List Value} {F F' : List (List Int)} (h : RI B w0 W v k xs F) (he : ∀ j, j < 2 * k → F.getD j [] = F'.getD j []) : RI B w0 W v k xs F' :=
  ⟨h.own, fun j hj => by rw [← he j hj]; exact h.piece j hj, h.apart, h.far, h.below, h.size⟩
theorem keepsOthers_below {W W' : World} (h : Below W.heap.size W W') : KeepsOthers W W' := ⟨h.size, fun k o hk _ => by rw [h.block k (Array.getElem?_eq_some_iff.1 hk).1]; exact hk⟩
theorem flat_lenR {cnt : Nat} (f g : Fin cnt → List Int) (pre : List (Fin cnt)) : (pre.flatMap (fun k => [f k, g k])).length = 2 * pre.length := by
  induction pre with
  | nil => rfl
  | cons a l ih => simp [List.flatMap_cons] at ih ⊢; omega
/-- Behind the append, and behind the store of the longer list into its box. -/
theorem round_end {cnt B L q g cap g4 cap4 : Nat} {w0 W w3 w4 : World} {xs : List Value} {pre : List (Fin cnt)} {x : Fin cnt} {f h : Fin cnt → List Int} {u v : Value}
    (hri : RI B w0 W (.slice (some ⟨g, 0, none⟩) pre.length cap) pre.length xs (pre.flatMap (fun k => [f k, h k]))) (hbx : Boxed W L 60 (.slice (some ⟨g, 0, none⟩) pre.length cap))
    (hq : q < W.heap.size) (hgq : g ≠ q) (hLq : L ≠ q) (hBL : B ≤ L) (hb : Below W.heap.size W w3) (ha : Arr W.heap.size w3.heap.size w3 (.agg #[u, v]) (f x) (h x))
    (hown : w4.ownsRow B 26 2 (.slice (some ⟨g4, 0, none⟩) (pre.length + 1) cap4) (pre.length + 1) (xs ++ [u, v]))
    (hgrow : (w3.alloc (.cells #[u, v] 26)).grownBy w4 (Value.slice (some ⟨g, 0, none⟩) pre.length cap).ownBlock)
    (hat : (Value.slice (some ⟨g, 0, none⟩) pre.length cap).ownBlock = some g4 ∨ g4 = w3.heap.size + 1) :
    Boxed w4 L 60 (.slice (some ⟨g, 0, none⟩) pre.length cap) ∧ g4 ≠ q ∧
      RI B w0 (w4.setCell ⟨L, 0, none⟩ (.slice (some ⟨g4, 0, none⟩) (pre.length + 1) cap4)) (.slice (some ⟨g4, 0, none⟩) (pre.length + 1) cap4) (pre.length + 1) (xs ++ [u, v]) ((pre ++ [x]).flatMap (fun k => [f k, h k])) ∧
      Boxed (w4.setCell ⟨L, 0, none⟩ (.slice (some ⟨g4, 0, none⟩) (pre.length + 1) cap4)) L 60 (.slice (some ⟨g4, 0, none⟩) (pre.length + 1) cap4) ∧
      KeepsOthers W (w4.setCell ⟨L, 0, none⟩ (.slice (some ⟨g4, 0, none⟩) (pre.length + 1) cap4)) ∧ KeepsBox q W (w4.setCell ⟨L, 0, none⟩ (.slice (some ⟨g4, 0, none⟩) (pre.length + 1) cap4)) := by
  have eo : (Value.slice (some ⟨g, 0, none⟩) pre.length cap).ownBlock = some g := rfl
  rw [eo] at hgrow hat
  have hl := flat_lenR f h pre
  have hb' : Below W.heap.size W (w3.alloc (.cells #[u, v] 26)) := bAlloc hb _
  have eF : (pre ++ [x]).flatMap (fun k => [f k, h k]) = pre.flatMap (fun k => [f k, h k]) ++ [f x, h x] := by simp [List.flatMap_append]
  have hne : some L ≠ some g := hbx.not_row (by decide) hri.own
  have hne4 : L ≠ g4 := by
    rcases hat with e | e
    · cases e; intro e; exact hne (by rw [e])
    · have := hbx.lt; have := hb.size; omega
  have hbx4 : Boxed w4 L 60 (.slice (some ⟨g, 0, none⟩) pre.length cap) := by
    have : (w3.alloc (.cells #[u, v] 26)).heap[L]? = some (.cells #[.slice (some ⟨g, 0, none⟩) pre.length cap] 60 (0, 0)) := by rw [hb'.block L hbx.lt]; exact hbx
    unfold Boxed
    rw [hgrow.block L (lt_of_heapA this) hne]
    exact this
  obtain ⟨x', y', e', px, py, hap⟩ := ha
  obtain ⟨rfl, rfl⟩ : u = x' ∧ v = y' := by cases e'; exact ⟨rfl, rfl⟩
  have hsz : w3.heap.size ≤ (w3.alloc (.cells #[u, v] 26)).heap.size := by simp
  have R4 : RI B w0 w4 (.slice (some ⟨g4, 0, none⟩) (pre.length + 1) cap4) (pre.length + 1) (xs ++ [u, v]) ((pre ++ [x]).flatMap (fun k => [f k, h k])) := by
    refine (hri.congr (F' := (pre ++ [x]).flatMap (fun k => [f k, h k])) (fun j hj => ?_)).step hb' (x := u) (y := v) ?_ ?_ hap hown (by rw [eo]; exact hgrow) (by rw [eo]; rcases hat with e | e; exact .inl e; exact .inr (by simpa using e))
    · rw [eF, getD_app, if_pos (by omega)]
    · rw [eF, getD_app, if_neg (by omega), hl, Nat.sub_self]
      exact (px.keep (bAlloc (Below.refl _ _) _)).mono (Nat.le_refl _) hsz
    · rw [eF, getD_app, if_neg (by omega), hl, show 2 * pre.length + 1 - 2 * pre.length = 1 by omega]
      exact (py.keep (bAlloc (Below.refl _ _) _)).mono (Nat.le_refl _) hsz
  have hqq : w4.heap[q]? = W.heap[q]? := by
    rw [hgrow.block q (by have := hb'.size; omega) (fun e => hgq (by cases e; rfl)), hb'.block q hq]
  refine ⟨hbx4, ?_, R4.grown (grownBy_setCell' w4 L _) (fun r e => by cases e; exact hBL) (fun r e e2 => ?_) (fun r e j hj => ?_), hbx4.set _, ?_, ?_⟩
  · rcases hat with e | e
    · cases e; exact hgq
    · have := hb.size; omega
  · cases e; cases e2; exact hne4 rfl
  · cases e
    refine (R4.piece j hj).notRow (fun cur t fr hh k z hk => ?_)
    rw [show w4.heap[L]? = _ from hbx4] at hh
    cases hh
    cases k <;> simp at hk
  · refine ((keepsOthers_below hb').trans (KeepsOthers.of_grownBy hgrow ?_)).trans (KeepsOthers.setCell _ _ _)
    intro j o e hj
    cases e
    rcases hri.own.2 with ⟨h0, _⟩ | ⟨g', cap', cur, h0, _, hh, _⟩
    · cases h0
    · cases h0
      rw [hb'.block g (lt_of_heapA hh), hh] at hj
      cases hj
      rfl
  · exact (Below.heap_setCell _ _ _ _ (by show q ≠ L; omega)).trans hqq
end Go.Proofs.Ytbmkfmppcojcgaa
namespace Go.Proofs.Ytbmkfmppcojcgaa
open Go.RowKit
set_option linter.unusedVariables false
set_option linter.unusedSimpArgs false
theorem finRange_val (n : Nat) : (List.finRange n).map (fun k => k.1) = List.range n := by
  apply List.ext_getElem
  · simp
  · intro i h1 h2
    simp
theorem finRange_flat (n : Nat) (f : Nat → List (List Int)) : (List.finRange n).flatMap (fun k => f k.1) = (List.range n).flatMap f := by
  rw [← finRange_val, List.flatMap_map]
theorem slice_tail3 (W : World) (b o n c : Nat) (hc : n + 1 ≤ c) : (Instr.slice 24 (.slice (some ⟨b, o, none⟩) (n + 1) c) (some (.int .i64 1)) (some (.int .i64 ((n : Int) + 1))) (some (.int .i64 ((n : Int) + 1)))).run Try.prog W = .ok (.slice (if n = 0 then some ⟨b, o, none⟩ else some ⟨b, o + 1, none⟩) n n) W := by
  have hs : (sizeOf 3).run Try.prog W = .ok 1 W := by kernel_rfl
  have he : Try.prog.elem 24 = 3 := by kernel_rfl
  rw [run_slice_lhm (P := Try.prog) (w := W) 24 (some ⟨b, o, none⟩) (n + 1) c (by rw [he]; exact Try.underlying24) .i64 .i64 .i64 1 ((n : Int) + 1) ((n : Int) + 1) (by decide) (by omega) (by omega) (by omega), he, hs]
  have e1 : ((n : Int) + 1).toNat = n + 1 := by omega
  by_cases h0 : n = 0
  · subst h0; simp [Result.andThen, sliced, Addr.add]
  · simp [Result.andThen, sliced, Addr.add, e1, h0]
theorem slice_cut3 (W : World) (b : Option Addr) (n e M R N : Nat) (h : M + N = R) (hR : R ≤ e) : (Instr.slice 24 (.slice b n e) (some (.int .i64 (M : Int))) (some (.int .i64 (R : Int))) (some (.int .i64 (R : Int)))).run Try.prog W = .ok (.slice (if N = 0 then b else b.map (·.add M)) N N) W := by
  have hs : (sizeOf 3).run Try.prog W = .ok 1 W := by kernel_rfl
  have he : Try.prog.elem 24 = 3 := by kernel_rfl
  rw [run_slice_lhm (P := Try.prog) (w := W) 24 b n e (by rw [he]; exact Try.underlying24) .i64 .i64 .i64 (M : Int) (R : Int) (R : Int) (by omega) (by omega) (by omega) (by omega), he, hs]
  have e2 : R - M = N := by omega
  by_cases h0 : N = 0
  · have e3 : R = M := by omega
    simp [Result.andThen, sliced, h0, e3]
  · have e3 : ¬ R = M := by omega
    simp [Result.andThen, sliced, h0, e3, e2]
end Go.Proofs.Ytbmkfmppcojcgaa
namespace Go.Proofs.Ytbmkfmppcojcgaa
open Go.RowKit Go.Shelf
set_option linter.unusedVariables false
set_option linter.unusedSimpArgs false
attribute [local go_sem] Oper.semAt_some
theorem keeps_of_below {n0 q : Nat} {W W' : World} (h : Below n0 W W') (hq : q < n0) : KeepsBox q W W' := h.block q hq
theorem flat_snocV {cnt : Nat} (f : Fin cnt → List Value) (pre : List (Fin cnt)) (x : Fin cnt) : (pre ++ [x]).flatMap f = pre.flatMap f ++ f x := by simp [List.flatMap_append]
set_option maxRecDepth 100000 in
set_option maxHeartbeats 4000000 in
theorem appendSeq_in (q cnt N r b1 o1 c dl e ct : Nat) (tl b : Option Addr) (ad : Nat → Option Addr) (cd : Nat → Nat) (hc : cnt ≤ 300) (hN : N ≤ 300) (hr : r ≤ 3)
    (hq : 0 < cnt → (dl : Int) / (cnt : Int) = N)
    (hs1 : ∀ W, (Instr.slice 24 (.slice (some ⟨b1, o1, none⟩) (r + 1) c) (some (.int .i64 1)) (some (.int .i64 ((r : Int) + 1))) (some (.int .i64 ((r : Int) + 1)))).run Try.prog W = .ok (.slice tl r ct) W)
    (hs2 : ∀ (k M R : Nat) W, k < cnt → k * N = M → (k + 1) * N = R → (Instr.slice 24 (.slice b dl e) (some (.int .i64 (M : Int))) (some (.int .i64 (R : Int))) (some (.int .i64 (R : Int)))).run Try.prog W = .ok (.slice (ad k) N (cd k)) W)
    (w : World) (hb1 : b1 < w.heap.size) (hB : Box w q (.slice (some ⟨b1, o1, none⟩) (r + 1) c) (.slice b dl e) 26) (h0 : w.cell? ⟨b1, o1, none⟩ = some (.int .i64 (cnt : Int))) :
    CallsIn Fence.wide 5 Try.prog 87 #[.slice none 0 0, .func (.func 88) #[] #[.pointer (some ⟨q, 0, none⟩)]] w fun e W' => ∃ v, e = .returned v ∧ W'.ownsRow w.heap.size 26 2 v cnt ((List.finRange cnt).flatMap (fun k => [.slice tl r ct, .slice (ad k.1) N (cd k.1)])) ∧ Below w.heap.size w W' := by
  obtain ⟨i0, hi0, z1, z2, z3⟩ : ∃ i0, Try.prog.info? 26 = some i0 ∧ i0.zero = some (.agg #[.slice none 0 0, .slice none 0 0]) ∧ i0.size = 2 ∧ i0.bytes = 48 := by
    have hi := info_arr
    cases hq : Try.prog.info? 26 with
    | none => rw [hq] at hi; cases hi
    | some i => rw [hq] at hi; simp at hi; exact ⟨i, rfl, hi.1, hi.2.1, hi.2.2⟩
  have hqw := hB.lt
  refine callsIn_of_wp_marks Try.func87 rfl trivial ?_ rfl
  simp only [Try.ntmps87, List.size_toArray, List.length_cons, List.length_nil, Nat.reduceAdd, Nat.reduceSub, Array.replicate_succ, Array.replicate_zero, List.push_toArray, List.append_toArray, List.nil_append, List.cons_append]
  gi_wp2_with fail
  have bO := Boxed.new w 60 (.slice none 0 0)
  have hB0 : Below w.heap.size w (w.alloc (.cells #[.slice none 0 0] 60)) := bAlloc (Below.refl _ _) _
  refine wpIn_rangeFunc_ownH rfl (by decide) (gf := 88) (lb := #[.pointer (some ⟨q, 0, none⟩)]) rfl trivial (enters_of Try.func88 (by kernel_rfl) rfl)
    (cut_stops 4 q cnt N r b1 o1 c dl e ct tl b ad cd (by decide) hc hN hr hq hs1 hs2 (w.alloc (.cells #[.slice none 0 0] 60)) (by simp; omega) (hB.keep hB0) ((hB0.cell (p := ⟨b1, o1, none⟩) hb1).trans h0)) keepsBox_t (keepsBox_b (by simp; omega)) (Below.refl _ _) (fun _ => rfl)
    (fun pre W => (∃ v, Boxed W w.heap.size 60 v ∧ W.ownsRow w.heap.size 26 2 v pre.length (pre.flatMap (fun k => [.slice tl r ct, .slice (ad k.1) N (cd k.1)])) ∧ True) ∧ Below w.heap.size w W)
    (fun _ _ _ => False)
    (OwnFrom.and (Own.from (holdsRow_own w.heap.size w.heap.size 60 26 2 (fun pre : List (Fin cnt) => pre.length) (fun pre => pre.flatMap (fun k => [.slice tl r ct, .slice (ad k.1) N (cd k.1)])) (fun _ _ => True)) _) (ownFrom_below (Nat.le_refl _) (by simp)))
    (fun _ _ _ _ _ hs _ _ => hs)
    ⟨⟨_, bO, World.ownsRow_nil _ _ _ _, trivial⟩, hB0⟩
    (fun x a' W => ∃ Bx, w.heap.size < Bx ∧ Box W Bx (.slice tl r ct) (.slice (ad x.1) N (cd x.1)) 26 ∧ a' = { tmps := #[.slice none 0 0, .func (.func 88) #[] #[.pointer (some ⟨q, 0, none⟩)], .pointer (some ⟨w.heap.size, 0, none⟩), undef, .slice none 0 0, .pointer (some ⟨Bx, 0, none⟩), .func (.func 88) #[] #[.pointer (some ⟨q, 0, none⟩)], .agg #[.slice tl r ct, .slice (ad x.1) N (cd x.1)], undef, undef, undef, undef, undef], defers := [] })
    ?hAx ?assign ?body ?done ?stop
  case hAx =>
    rintro x a' _ X Y row ⟨Bx, h1, h2, h3⟩ hg hr'
    refine ⟨Bx, h1, ?_, h3⟩
    unfold Box at h2 ⊢
    rw [hg.block Bx (lt_of_heapA h2) (fun e' => ?_)]
    · exact h2
    · obtain ⟨_, o, ho, hcc⟩ := hr' Bx e'.symm; rw [h2] at ho; cases ho; cases hcc
  case assign =>
    rintro l pre x W K ⟨⟨v, hv, hrow, _⟩, hbl⟩ hK
    gi_wp2
    exact hK _ _ ((KeepsOthers.alloc _ _).from _) (Below.heap_alloc _ _ _ (by have := hbl.size; omega)) ⟨⟨v, hv.alloc _, hrow.alloc _, trivial⟩, bAlloc hbl _⟩ ⟨W.heap.size, hv.lt, box_new W _ _ _, rfl⟩
  case body =>
    rintro l pre x a' W hl _ ⟨⟨v, hv, hrow, _⟩, hbl⟩ ⟨Bx, hBx, hX, rfl⟩ hlt
    have hc' := hv.cell
    have y0 := hX.c0
    have y1 := hX.c1
    have hsz := hbl.size
    gi_wp2_with (gi_at_builtin; refine wpListIn_append_own _ rfl _ _ 60 rfl w.heap.size 26 i0 (.agg #[.slice none 0 0, .slice none 0 0]) 2 48 Try.underlying60 hi0 z1 z2 z3 rfl (by decide) _ _ _ rfl (hrow.alloc _) ⟨W.heap.size, 0, none⟩ 1 1 [.slice tl r ct, .slice (ad x.1) N (cd x.1)] rfl rfl (World.news_of_block (cs := #[.slice tl r ct, .slice (ad x.1) N (cd x.1)]) (heap_alloc_new W _)) (by simp [Value.oneCell']) (by unfold maxLen; omega) (by omega) (by simp; omega) ?_; intro v' w1 hown' hgrow _; obtain ⟨g', cap', rfl⟩ := ownsRow_succ hown'; obtain ⟨hv1, hv2, hr2, hk2, hb2⟩ := hv.appended (by decide) hrow hbl.size (Nat.le_refl _) hown' hgrow; have hc1 := hv1.cell; have hf1 := hv1.frozen)
    exact ⟨hk2.from _, keeps_of_below hb2 hqw, ⟨_, hv2, by rw [flat_snocV]; simpa using hr2, trivial⟩, hbl.trans hb2⟩
  case done =>
    rintro D ys W hD rfl ⟨⟨v, hv, hrow, _⟩, hbl⟩ hK
    have hc' := hv.cell
    gi_wp2
    refine ⟨by simp, .inl ⟨_, _, rfl, run_takeDeferred hK, ?_⟩⟩
    refine ⟨_, results_tmp rfl _ _ _, v, rfl, ?_, hbl.trans (belowK_b (w := w) (Nat.le_refl _) W D _ _ (by simp at hD; omega) hK rfl rfl)⟩
    have q := ownsRow_putObj hrow (.deferred none) hK rfl
    rw [List.length_finRange] at q
    exact q
  case stop =>
    rintro D c' pre W _ _ h _
    exact h.elim
set_option maxHeartbeats 1000000 in
/-- slices.Collect. -/
theorem collect_impl (q cnt N r b1 o1 c dl e ct : Nat) (tl b : Option Addr) (ad : Nat → Option Addr) (cd : Nat → Nat) (hc : cnt ≤ 300) (hN : N ≤ 300) (hr : r ≤ 3)
    (hq : 0 < cnt → (dl : Int) / (cnt : Int) = N)
    (hs1 : ∀ W, (Instr.slice 24 (.slice (some ⟨b1, o1, none⟩) (r + 1) c) (some (.int .i64 1)) (some (.int .i64 ((r : Int) + 1))) (some (.int .i64 ((r : Int) + 1)))).run Try.prog W = .ok (.slice tl r ct) W)
    (hs2 : ∀ (k M R : Nat) W, k < cnt → k * N = M → (k + 1) * N = R → (Instr.slice 24 (.slice b dl e) (some (.int .i64 (M : Int))) (some (.int .i64 (R : Int))) (some (.int .i64 (R : Int)))).run Try.prog W = .ok (.slice (ad k) N (cd k)) W)
    (w : World) (hb1 : b1 < w.heap.size) (hB : Box w q (.slice (some ⟨b1, o1, none⟩) (r + 1) c) (.slice b dl e) 26) (h0 : w.cell? ⟨b1, o1, none⟩ = some (.int .i64 (cnt : Int))) :
    Calls Try.prog 72 #[.func (.func 88) #[] #[.pointer (some ⟨q, 0, none⟩)]] w fun e W' => ∃ v, e = .returned v ∧ W'.ownsRow w.heap.size 26 2 v cnt ((List.finRange cnt).flatMap (fun k => [.slice tl r ct, .slice (ad k.1) N (cd k.1)])) ∧ Below w.heap.size w W' := by
  have HA : Hid (Calls Try.prog 87 #[.slice none 0 0, .func (.func 88) #[] #[.pointer (some ⟨q, 0, none⟩)]] w fun e W' => ∃ v, e = .returned v ∧ W'.ownsRow w.heap.size 26 2 v cnt ((List.finRange cnt).flatMap (fun k => [.slice tl r ct, .slice (ad k.1) N (cd k.1)])) ∧ Below w.heap.size w W') := (callsIn_wide (n := 5)).1 (appendSeq_in q cnt N r b1 o1 c dl e ct tl b ad cd hc hN hr hq hs1 hs2 w hb1 hB h0)
  clear hc hN hr hq hs1 hs2 hb1 hB h0
  go_enter Try.func72, Try.ntmps72
  go_wp2_with fail
  refine (HA.out).mono ?_
  rintro r' w1 ⟨v, rfl, hrow, hb⟩
  have HR : Hid (w1.ownsRow w.heap.size 26 2 v cnt ((List.finRange cnt).flatMap (fun k => [.slice tl r ct, .slice (ad k.1) N (cd k.1)])) ∧ Below w.heap.size w w1) := ⟨hrow, hb⟩
  clear hrow hb
  go_wp2
  go_ret
  exact ⟨v, rfl, HR.out.1, HR.out.2⟩
theorem flat2_atV {α : Type} (n k : Nat) (f g : Nat → α) (z : α) (hk : k < n) : ((List.range n).flatMap (fun i => [f i, g i])).getD (2 * k) z = f k ∧ ((List.range n).flatMap (fun i => [f i, g i])).getD (2 * k + 1) z = g k ∧ ((List.range n).flatMap (fun i => [f i, g i])).length = 2 * n := by
  have hlen : ∀ n, ((List.range n).flatMap (fun i => [f i, g i])).length = 2 * n := by
    intro n
    induction n with
    | zero => rfl
    | succ n ih => rw [List.range_succ, List.flatMap_append, List.length_append, ih]; simp; omega
  refine ⟨?_, ?_, hlen n⟩
  all_goals
    induction n with
    | zero => omega
    | succ n ih =>
      rw [List.range_succ, List.flatMap_append, getD_app, hlen n]
      by_cases e : k < n
      · rw [if_pos (by omega)]; exact ih e
      · obtain rfl : k = n := by omega
        rw [if_neg (by omega)]
        first
        | (rw [show 2 * k - 2 * k = 0 by omega]; simp)
        | (rw [show 2 * k + 1 - 2 * k = 1 by omega]; simp)
theorem finRange_flatV {α : Type} (n : Nat) (f : Nat → List α) : (List.finRange n).flatMap (fun k => f k.1) = (List.range n).flatMap f := by
  rw [← finRange_val, List.flatMap_map]
/-- slices.Collect of what cutRows tells, of an array that is right and of rank 1 and above. -/
theorem collect_rows {n0 : Int} {t d : List Int} {w : World} {x y : Value} {q : Nat} (h : ArrI w (.agg #[x, y]) (n0 :: t) d) (ho : arrOk (n0 :: t) d = true) (hB : Box w q x y 26) :
    Calls Try.prog 72 #[.func (.func 88) #[] #[.pointer (some ⟨q, 0, none⟩)]] w fun e w' => ∃ v xs, e = .returned v ∧ ListAt w w' v (rowsN (n0 :: t)) xs (flatR t (rowsD (n0 :: t) d)) := by
  have H := h
  obtain ⟨a, c, b, e, ev, h1, h2, g1, g2⟩ := h
  cases ev
  obtain ⟨b1, o1, rfl, hb1, c0⟩ := h1.at (k := 0) (by simp)
  have hh := head_bd ho
  simp only [List.getD_cons_zero] at hh c0
  rw [Nat.add_zero] at c0
  obtain ⟨cnt, rfl⟩ : ∃ cnt : Nat, n0 = (cnt : Int) := ⟨n0.toNat, by omega⟩
  have k1 := (sizeV_ok (arrOk_shape ho)).1
  simp at k1
  have hdl := arrOk_len ho
  obtain ⟨N, hN⟩ : ∃ N : Nat, (0 < cnt → sizeV t = (N : Int)) ∧ (¬ 0 < cnt → N = 0) := by
    by_cases hp : 0 < cnt
    · exact ⟨(sizeV t).toNat, fun _ => by have := tail_size ho (by omega); omega, fun h => absurd hp h⟩
    · exact ⟨0, fun h => absurd h hp, fun _ => rfl⟩
  have hmul : 0 < cnt → cnt * N = d.length := fun hp => by
    have q := (tail_size ho (by omega)).2.1
    rw [hN.1 hp] at q
    have : ((cnt * N : Nat) : Int) = (d.length : Int) := by simpa using q
    omega
  have hN3 : N ≤ 300 := by
    by_cases hp : 0 < cnt
    · have := (tail_size ho (by omega)).2.2; have := hN.1 hp; omega
    · have := hN.2 hp; omega
  have hle : ∀ k, k < cnt → k * N + N ≤ d.length := fun k hk => by
    have q : (k + 1) * N ≤ cnt * N := Nat.mul_le_mul_right N (by omega)
    rw [hmul (by omega), Nat.add_mul, Nat.one_mul] at q
    exact q
  have ht : Ints w (some ⟨b1, o1 + 1, none⟩) t := by
    rcases h1 with h1 | ⟨b', off', e', hb', hc'⟩
    · cases h1
    · cases e'
      refine .inr ⟨b1, o1 + 1, rfl, hb', fun k hk => ?_⟩
      have q := hc' (k + 1) (by simp; omega)
      rw [show o1 + (k + 1) = o1 + 1 + k by omega] at q
      simpa using q
  have hlen : ∀ k, k < cnt → ((d.drop (k * N)).take N).length = N := fun k hk => by have := hle k hk; simp; omega
  have hF : flatR t (rowsD ((cnt : Int) :: t) d) = (List.range cnt).flatMap (fun k => [t, (d.drop (k * N)).take N]) := by
    unfold flatR rowsD
    rw [List.flatMap_map, show rowsN ((cnt : Int) :: t) = cnt by simp [rowsN]]
    by_cases hp : 0 < cnt
    · unfold rowAt
      rw [show rowN ((cnt : Int) :: t) = N by simp [rowN, hN.1 hp]]
    · obtain rfl : cnt = 0 := by omega
      rfl
  have hrow : ∀ k, k < cnt → IntsI w (.slice (if t.length = 0 then some ⟨b1, o1, none⟩ else some ⟨b1, o1 + 1, none⟩) t.length t.length) t ∧ IntsI w (.slice (if N = 0 then b else b.map (·.add (k * N))) N N) ((d.drop (k * N)).take N) := by
    intro k hk
    refine ⟨⟨_, _, rfl, Nat.le_refl _, ?_⟩, ⟨_, _, by rw [hlen k hk], by rw [hlen k hk]; exact Nat.le_refl _, ?_⟩⟩
    · by_cases h0 : t.length = 0
      · exact .inl (List.eq_nil_of_length_eq_zero h0)
      · rw [if_neg h0]; exact ht
    · by_cases h0 : N = 0
      · subst h0; exact .inl (by simp)
      · have hd0 : 0 < d.length := by have := hle k hk; omega
        obtain ⟨b2, o2, rfl, hb2, _⟩ := h2.at hd0
        rw [if_neg h0]
        have e : (⟨b2, o2, none⟩ : Addr).add (k * N) = ⟨b2, o2 + k * N, none⟩ := by unfold Addr.add; split <;> simp_all
        simp only [Option.map_some, e]
        exact ints_cut h2 (hle k hk)
  rw [hF, show rowsN ((cnt : Int) :: t) = cnt by simp [rowsN]]
  refine (collect_impl q cnt N t.length b1 o1 c d.length e t.length (if t.length = 0 then some ⟨b1, o1, none⟩ else some ⟨b1, o1 + 1, none⟩) b (fun k => if N = 0 then b else b.map (·.add (k * N))) (fun _ => N) (by omega) hN3 (by omega) ?_ ?_ ?_ w hb1 hB c0).mono ?_
  · intro hp
    rw [← hmul hp]
    rw [Int.natCast_mul, Int.mul_ediv_cancel_left _ (by omega)]
  · exact fun W => slice_tail3 W b1 o1 t.length c (by simpa using g1)
  · intro k M R W hk hM hR
    rw [← hM]
    exact slice_cut3 W b d.length e (k * N) R N (by rw [← hR, Nat.add_mul, Nat.one_mul]) (by have := hle k hk; rw [← hR, Nat.add_mul, Nat.one_mul]; omega)
  · rintro r' w1 ⟨v, rfl, hrow', hb⟩
    rw [finRange_flatV cnt (fun k => [Value.slice (if t.length = 0 then some ⟨b1, o1, none⟩ else some ⟨b1, o1 + 1, none⟩) t.length t.length, .slice (if N = 0 then b else b.map (·.add (k * N))) N N])] at hrow'
    refine ⟨v, _, rfl, hrow', fun j hj => ?_, flat2_length cnt _ (fun _ => rfl), hb⟩
    obtain ⟨k, hk, hj2⟩ : ∃ k, k < cnt ∧ (j = 2 * k ∨ j = 2 * k + 1) := ⟨j / 2, by omega, by omega⟩
    obtain ⟨v1, v2, _⟩ := flat2_atV cnt k (fun _ => Value.slice (if t.length = 0 then some ⟨b1, o1, none⟩ else some ⟨b1, o1 + 1, none⟩) t.length t.length) (fun k => Value.slice (if N = 0 then b else b.map (·.add (k * N))) N N) undef hk
    obtain ⟨l1, l2⟩ := flat2_at cnt k (fun _ => t) (fun k => (d.drop (k * N)).take N) hk
    obtain ⟨i1, i2⟩ := hrow k hk
    rcases hj2 with rfl | rfl
    · rw [v1, l1]; exact i1
    · rw [v2, l2]; exact i2
end Go.Proofs.Ytbmkfmppcojcgaa
