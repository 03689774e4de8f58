/-
  Walks: the program's Rows.
-/
import Derived.Test.YtlbmbjgbihljhadImplRows1
import Derived.Test.YtlbmbjgbihljhadSpecRows
namespace Go.Proofs.Ytlbmbjgbihljhad
open Go.RowKit Go.Shelf
set_option linter.unusedVariables false
set_option linter.unusedSimpArgs false
attribute [local go_sem] Oper.semAt_some
/-- An append to a row of one's own, in a round: as 'step_append_lies' says it. -/
theorem stepIn_append {l n' : Nat} {P : Program} {w : World} {ops : Array Oper} {o : Oper} {a : Act} {K : Act → World → Prop} {Q : Exit → Act → World → Prop} {E : Prop} (hgd : o.guard = none) (s x : Operand) (t : TypeId)
    (ho : o.op = .call { callee := .builtin .append, args := #[s, x], argTypes := #[t, t] })
    (base : Nat) (e : TypeId) (i : TypeInfo) (z : Value) (size bytes : Nat) (ht : P.underlying t = some (.slice e)) (hi : P.info? e = some i) (hz : i.zero = some z)
    (hsize : i.size = size) (hby : i.bytes = bytes) (hzs : z.cells.size = size) (hsz : 0 < size)
    (v : Value) (n : Nat) (xs : List Value) (hs : a.eval s = v) (hown : w.ownsRow base e size v n xs)
    (ad : Addr) (m c : Nat) (news : List Value) (hx : a.eval x = .slice (some ad) m c) (hl : news.length = m * size) (hnews : ∀ j u, news[j]? = some u → w.cell? (ad.add j) = some u) (h1 : ∀ u ∈ news, u.oneCell' = true)
    (hm : 0 < m) (h63 : n + m ≤ maxLen) (hbytes : (n + m) * bytes ≤ 140737488355328) (hbase : base ≤ w.heap.size) (H : Nat) (hH : w.heap.size = H)
    (h : ∀ g cap w', w'.ownsRow base e size (.slice (some ⟨g, 0, none⟩) (n + m) cap) (n + m) (xs ++ news) → w.grownBy w' v.ownBlock → (v.ownBlock = some g ∨ g = H) → g < w'.heap.size → K (a.put o.dst (.slice (some ⟨g, 0, none⟩) (n + m) cap)) w') :
    if Region.wanted o (yielded ops a.tmps) = true then Oper.wpIn (Fence.wide.inRound l) n' P o a w K Q else E := by
  have hw : Region.wanted o (yielded ops a.tmps) = true := by simp [Region.wanted, hgd]
  rw [if_pos hw]
  obtain ⟨g, cap, w', hr, h2, h3, h4, h5⟩ := run_append_lies (P := P) w t o.type base e i z size bytes ht hi hz hsize hby hzs hsz v n xs hown ad m c news hl hnews h1 hm h63 hbytes hbase H hH
  refine ⟨fun _ _ => trivial, ?_⟩
  rw [show (Fence.wide.inRound l).round = some l from rfl, Oper.semAt_some l _ _ (fun c e => by rw [ho] at e; cases e)]
  unfold execOp
  simp only [ho, resolve, invoke, builtin, Sem.run_bind, Sem.run_pure, Result.andThen_ok, List.map_toArray, List.map_cons, List.map_nil, hs, hx, hr]
  exact h g cap w' h2 h3 h4 h5
theorem make_arrs (n : Nat) (hn : n ≤ 300) (w : World) :
    (Instr.makeSlice 38 (.int .i64 0) (.int .i64 (n : Int))).run Try.prog w = .ok (.slice (some ⟨w.heap.size, 0, none⟩) 0 n) (w.alloc (.cells (madeCells #[.slice none 0 0, .slice none 0 0] (n * 2)) 26)) := by
  have hi := info_arr
  cases hq : Try.prog.info? 26 with
  | none => rw [hq] at hi; cases hi
  | some i =>
    rw [hq] at hi
    simp at hi
    obtain ⟨z1, z2, z3⟩ := hi
    have := run_make (P := Try.prog) w 38 26 i _ Try.underlying38 hq z1 .i64 .i64 0 n (by omega) (by omega) (by rw [z3]; omega) (by omega)
    rw [z2, Int.toNat_natCast] at this
    exact this
/-- A block that holds no number holds no piece. -/
theorem Piece.notRow {B C g : Nat} {w : World} {u : Value} {m : List Int} (h : Piece B C w u m) (hg : ∀ cur t fr, w.heap[g]? = some (.cells cur t fr) → ∀ (k : Nat) (z : Int), cur[k]? ≠ some (Value.int .i64 z)) : NotAt g u := by
  obtain ⟨a, c, rfl, _, h⟩ := h
  intro off n c' e
  cases e
  rcases h with rfl | ⟨g', off, cur, t, e, _, _, hh, hc⟩
  · rfl
  · cases e
    apply Classical.byContradiction
    intro h0
    exact hg cur t _ hh off (m.getD 0 0) (hc 0 (Nat.pos_of_ne_zero h0))
theorem RI.grown {B : Nat} {w0 W W' : World} {v : Value} {k : Nat} {xs : List Value} {F : List (List Int)} {row : Option Nat} (h : RI B w0 W v k xs F) (hg : W.grownBy W' row) (hB : ∀ r, row = some r → B ≤ r) (ho : ∀ r, row = some r → v.ownBlock ≠ some r) (hp : ∀ r, row = some r → ∀ j, j < 2 * k → NotAt r (xs.getD j undef)) : RI B w0 W' v k xs F := by
  have hz := hg.size
  have hs := h.size
  refine ⟨h.own.kept hg ?_, fun j hj => ((h.piece j hj).grown hg (fun g e => hp g e j hj)).mono (Nat.le_refl _) hz, h.apart, h.far, ?_, by omega⟩
  · rcases h.own.2 with ⟨rfl, _⟩ | ⟨g, cap, cur, rfl, _⟩
    · exact .inl rfl
    · exact .inr (fun e => ho g (by rw [← e]; rfl) rfl)
  · refine ⟨hg.os.trans h.below.os, hg.tape.trans h.below.tape, hg.output.trans h.below.output, Nat.le_trans h.below.size hz, fun q hq => ?_⟩
    rw [hg.block q (by omega) (fun e => by have := hB q e.symm; omega)]
    exact h.below.block q hq
theorem RI.congr {B : Nat} {w0 W : World} {v : Value} {k : Nat} {xs : List Value} {F F' : List (List Int)} (h : RI B w0 W v k xs F) (he : ∀ j, j < 2 * k → F.getD j [] = F'.getD j []) : RI B w0 W v k xs F' :=
  ⟨h.own, fun j hj => by rw [← he j hj]; exact h.piece j hj, h.apart, h.far, h.below, h.size⟩
theorem keepsOthers_below {W W' : World} (h : Below W.heap.size W W') : KeepsOthers W W' := ⟨h.size, fun k o hk _ => by rw [h.block k (Array.getElem?_eq_some_iff.1 hk).1]; exact hk⟩
theorem flat_lenR {cnt : Nat} (f g : Fin cnt → List Int) (pre : List (Fin cnt)) : (pre.flatMap (fun k => [f k, g k])).length = 2 * pre.length := by
  induction pre with
  | nil => rfl
  | cons a l ih => simp [List.flatMap_cons] at ih ⊢; omega
/-- Behind the append, and behind the store of the longer list into its box. -/
theorem round_end {cnt B L q g cap g4 cap4 : Nat} {w0 W w3 w4 : World} {xs : List Value} {pre : List (Fin cnt)} {x : Fin cnt} {f h : Fin cnt → List Int} {u v : Value}
    (hri : RI B w0 W (.slice (some ⟨g, 0, none⟩) pre.length cap) pre.length xs (pre.flatMap (fun k => [f k, h k]))) (hbx : Boxed W L 38 (.slice (some ⟨g, 0, none⟩) pre.length cap))
    (hq : q < W.heap.size) (hgq : g ≠ q) (hLq : L ≠ q) (hBL : B ≤ L) (hb : Below W.heap.size W w3) (ha : Arr W.heap.size w3.heap.size w3 (.agg #[u, v]) (f x) (h x))
    (hown : w4.ownsRow B 26 2 (.slice (some ⟨g4, 0, none⟩) (pre.length + 1) cap4) (pre.length + 1) (xs ++ [u, v]))
    (hgrow : (w3.alloc (.cells #[u, v] 26)).grownBy w4 (Value.slice (some ⟨g, 0, none⟩) pre.length cap).ownBlock)
    (hat : (Value.slice (some ⟨g, 0, none⟩) pre.length cap).ownBlock = some g4 ∨ g4 = w3.heap.size + 1) :
    Boxed w4 L 38 (.slice (some ⟨g, 0, none⟩) pre.length cap) ∧ g4 ≠ q ∧
      RI B w0 (w4.setCell ⟨L, 0, none⟩ (.slice (some ⟨g4, 0, none⟩) (pre.length + 1) cap4)) (.slice (some ⟨g4, 0, none⟩) (pre.length + 1) cap4) (pre.length + 1) (xs ++ [u, v]) ((pre ++ [x]).flatMap (fun k => [f k, h k])) ∧
      Boxed (w4.setCell ⟨L, 0, none⟩ (.slice (some ⟨g4, 0, none⟩) (pre.length + 1) cap4)) L 38 (.slice (some ⟨g4, 0, none⟩) (pre.length + 1) cap4) ∧
      KeepsOthers W (w4.setCell ⟨L, 0, none⟩ (.slice (some ⟨g4, 0, none⟩) (pre.length + 1) cap4)) ∧ KeepsBox q W (w4.setCell ⟨L, 0, none⟩ (.slice (some ⟨g4, 0, none⟩) (pre.length + 1) cap4)) := by
  have eo : (Value.slice (some ⟨g, 0, none⟩) pre.length cap).ownBlock = some g := rfl
  rw [eo] at hgrow hat
  have hl := flat_lenR f h pre
  have hb' : Below W.heap.size W (w3.alloc (.cells #[u, v] 26)) := bAlloc hb _
  have eF : (pre ++ [x]).flatMap (fun k => [f k, h k]) = pre.flatMap (fun k => [f k, h k]) ++ [f x, h x] := by simp [List.flatMap_append]
  have hne : some L ≠ some g := hbx.not_row (by decide) hri.own
  have hne4 : L ≠ g4 := by
    rcases hat with e | e
    · cases e; intro e; exact hne (by rw [e])
    · have := hbx.lt; have := hb.size; omega
  have hbx4 : Boxed w4 L 38 (.slice (some ⟨g, 0, none⟩) pre.length cap) := by
    have : (w3.alloc (.cells #[u, v] 26)).heap[L]? = some (.cells #[.slice (some ⟨g, 0, none⟩) pre.length cap] 38 (0, 0)) := by rw [hb'.block L hbx.lt]; exact hbx
    unfold Boxed
    rw [hgrow.block L (lt_of_heapA this) hne]
    exact this
  obtain ⟨x', y', e', px, py, hap⟩ := ha
  obtain ⟨rfl, rfl⟩ : u = x' ∧ v = y' := by cases e'; exact ⟨rfl, rfl⟩
  have hsz : w3.heap.size ≤ (w3.alloc (.cells #[u, v] 26)).heap.size := by simp
  have R4 : RI B w0 w4 (.slice (some ⟨g4, 0, none⟩) (pre.length + 1) cap4) (pre.length + 1) (xs ++ [u, v]) ((pre ++ [x]).flatMap (fun k => [f k, h k])) := by
    refine (hri.congr (F' := (pre ++ [x]).flatMap (fun k => [f k, h k])) (fun j hj => ?_)).step hb' (x := u) (y := v) ?_ ?_ hap hown (by rw [eo]; exact hgrow) (by rw [eo]; rcases hat with e | e; exact .inl e; exact .inr (by simpa using e))
    · rw [eF, getD_app, if_pos (by omega)]
    · rw [eF, getD_app, if_neg (by omega), hl, Nat.sub_self]
      exact (px.keep (bAlloc (Below.refl _ _) _)).mono (Nat.le_refl _) hsz
    · rw [eF, getD_app, if_neg (by omega), hl, show 2 * pre.length + 1 - 2 * pre.length = 1 by omega]
      exact (py.keep (bAlloc (Below.refl _ _) _)).mono (Nat.le_refl _) hsz
  have hqq : w4.heap[q]? = W.heap[q]? := by
    rw [hgrow.block q (by have := hb'.size; omega) (fun e => hgq (by cases e; rfl)), hb'.block q hq]
  refine ⟨hbx4, ?_, R4.grown (grownBy_setCell' w4 L _) (fun r e => by cases e; exact hBL) (fun r e e2 => ?_) (fun r e j hj => ?_), hbx4.set _, ?_, ?_⟩
  · rcases hat with e | e
    · cases e; exact hgq
    · have := hb.size; omega
  · cases e; cases e2; exact hne4 rfl
  · cases e
    refine (R4.piece j hj).notRow (fun cur t fr hh k z hk => ?_)
    rw [show w4.heap[L]? = _ from hbx4] at hh
    cases hh
    cases k <;> simp at hk
  · refine ((keepsOthers_below hb').trans (KeepsOthers.of_grownBy hgrow ?_)).trans (KeepsOthers.setCell _ _ _)
    intro j o e hj
    cases e
    rcases hri.own.2 with ⟨h0, _⟩ | ⟨g', cap', cur, h0, _, hh, _⟩
    · cases h0
    · cases h0
      rw [hb'.block g (lt_of_heapA hh), hh] at hj
      cases hj
      rfl
  · exact (Below.heap_setCell _ _ _ _ (by show q ≠ L; omega)).trans hqq
set_option maxRecDepth 100000 in
set_option maxHeartbeats 4000000 in
theorem rows_walk (n0 cnt N r b1 o1 c e ct : Nat) (t d : List Int) (tl b : Option Addr) (ad : Nat → Option Addr) (cd : Nat → Nat) (D : Nat → List Int) (w : World) (hc : cnt ≤ 300) (hN : N ≤ 300) (hr : r ≤ 3) (htl : t.length = r)
    (hq : 0 < cnt → (d.length : Int) / (cnt : Int) = N) (ho : arrOk ((cnt : Int) :: t) d = true) (hd : d.length ≤ 300)
    (hs1 : ∀ W, (Instr.slice 24 (.slice (some ⟨b1, o1, none⟩) (r + 1) c) (some (.int .i64 1)) (some (.int .i64 ((r : Int) + 1))) (some (.int .i64 ((r : Int) + 1)))).run Try.prog W = .ok (.slice tl r ct) W)
    (hs2 : ∀ (k M R : Nat) W, k < cnt → k * N = M → (k + 1) * N = R → (Instr.slice 24 (.slice b d.length e) (some (.int .i64 (M : Int))) (some (.int .i64 (R : Int))) (some (.int .i64 (R : Int)))).run Try.prog W = .ok (.slice (ad k) N (cd k)) W)
    (hA : ArrI w (.agg #[.slice (some ⟨b1, o1, none⟩) (r + 1) c, .slice b d.length e]) ((cnt : Int) :: t) d) (hb1 : b1 < w.heap.size) (h0 : w.cell? ⟨b1, o1, none⟩ = some (.int .i64 (cnt : Int)))
    (hrow : ∀ k, k < cnt → ArrI w (.agg #[.slice tl r ct, .slice (ad k) N (cd k)]) t (D k)) (hDl : ∀ k, k < cnt → (D k).length ≤ 1048576) :
    Calls Try.prog 26 #[.agg #[.slice (some ⟨b1, o1, none⟩) (r + 1) c, .slice b d.length e]] w fun e w' => ∃ v', e = .returned v' ∧ Arrs w.heap.size w'.heap.size w' v' ((List.finRange cnt).flatMap (fun k => [t, D k.1])) ∧ Below w.heap.size w w' := by
  have HA : Hid (ArrI w (.agg #[.slice (some ⟨b1, o1, none⟩) (r + 1) c, .slice b d.length e]) ((cnt : Int) :: t) d) := hA
  have HO : Hid (arrOk ((cnt : Int) :: t) d = true) := ho
  have HR : Hid (∀ k, k < cnt → ArrI w (.agg #[.slice tl r ct, .slice (ad k) N (cd k)]) t (D k)) := hrow
  have hmk := make_arrs cnt hc
  obtain ⟨i0, hq0, z1, z2, z3⟩ : ∃ i0, Try.prog.info? 26 = some i0 ∧ i0.zero = some (.agg #[.slice none 0 0, .slice none 0 0]) ∧ i0.size = 2 ∧ i0.bytes = 48 := by
    have hi := info_arr
    cases hq : Try.prog.info? 26 with
    | none => rw [hq] at hi; cases hi
    | some i => rw [hq] at hi; simp at hi; exact ⟨i, rfl, hi.1, hi.2.1, hi.2.2⟩
  have hne : ((r : Int) + 1 == 0) = false := by simp; omega
  clear hA ho hrow
  refine (callsIn_wide (n := 6)).1 ?_
  refine callsIn_of_wp_marks Try.func26 rfl trivial ?_ rfl
  simp only [Try.ntmps26, List.size_toArray, List.length_cons, List.length_nil, Nat.reduceAdd, Nat.reduceSub, Array.replicate_succ, Array.replicate_zero, List.push_toArray, List.append_toArray, List.nil_append, List.cons_append]
  gi_wp2_with fail
  refine ⟨trivial, (callsIn_wide.2 (arrOk_impl (HA.out.keep (bAlloc (Below.refl _ _) _)) (by omega))).mono ?_⟩
  rintro rr w1 ⟨rfl, hb⟩
  have HB1 : Hid (Below w.heap.size w w1) := bTrans (bAlloc (Below.refl _ _) _) hb
  have X1 : Hid (Box w1 w.heap.size (.slice (some ⟨b1, o1, none⟩) (r + 1) c) (.slice b d.length e) 26) := (box_new w _ _ _).keep hb
  have x0 := X1.out.c0
  have x1 := X1.out.c1
  have z0 : w1.cell? ⟨b1, o1, none⟩ = some (.int .i64 (cnt : Int)) := by rw [HB1.out.cell (p := ⟨b1, o1, none⟩) hb1]; exact h0
  have e0 : ∀ O O' : Obj, ((w1.alloc O).alloc O').cell? ⟨w.heap.size, 0, none⟩ = some (.slice (some ⟨b1, o1, none⟩) (r + 1) c) := fun O O' => (X1.out.keep (bAlloc (bAlloc (Below.refl _ _) O) O')).c0
  have e1 : ∀ O O' : Obj, ((w1.alloc O).alloc O').cell? ⟨w.heap.size, 1, none⟩ = some (.slice b d.length e) := fun O O' => (X1.out.keep (bAlloc (bAlloc (Below.refl _ _) O) O')).c1
  clear hb
  rw [HO.out]
  gi_wp2_with fail
  refine ⟨trivial, (cutRows_in _ _ _ _ rfl rfl).mono ?_⟩
  rintro rr w2 ⟨rfl, hw⟩
  generalize hM : madeCells #[Value.slice none 0 0, Value.slice none 0 0] (cnt * 2) = Z at hw ⊢
  have bL : Boxed w2 (w1.heap.size + 1) 38 (.slice (some ⟨w1.heap.size, 0, none⟩) 0 cnt) := by rw [hw]; have := (Boxed.new (w1.alloc (.cells Z 26)) 38 (.slice (some ⟨w1.heap.size, 0, none⟩) 0 cnt)).alloc (.cells #[.slice (some ⟨b1, o1, none⟩) (r + 1) c, .slice b d.length e] 26); simpa using this
  have Q2 : Hid (Box w2 (w1.heap.size + 2) (.slice (some ⟨b1, o1, none⟩) (r + 1) c) (.slice b d.length e) 26) := by rw [hw]; show Box _ _ _ _ _; have := box_new ((w1.alloc (.cells Z 26)).alloc (.cells #[.slice (some ⟨w1.heap.size, 0, none⟩) 0 cnt] 38)) (.slice (some ⟨b1, o1, none⟩) (r + 1) c) (.slice b d.length e) 26; simpa using this
  have HB2 : Hid (Below w1.heap.size w1 w2) := by rw [hw]; exact bAlloc (bAlloc (bAlloc (Below.refl _ _) _) _) _
  have hsz : w2.heap.size = w1.heap.size + 3 := by rw [hw]; simp
  have RI0 : Hid (RI w1.heap.size w2 w2 (.slice (some ⟨w1.heap.size, 0, none⟩) 0 cnt) 0 [] []) := by
    have hh : w2.heap[w1.heap.size]? = some (.cells Z 26 (0, 0)) := by rw [hw, (bAlloc (bAlloc (Below.refl _ (w1.alloc (.cells Z 26))) _) _).block w1.heap.size (by simp)]; exact heap_alloc_new w1 _
    exact ⟨⟨rfl, .inr ⟨_, cnt, Z, rfl, Nat.le_refl _, hh, Nat.zero_le _, by unfold maxLen; omega, by rw [← hM]; simp [size_madeCells], by simp⟩⟩, fun j hj => by omega, fun i j _ hj => by omega, fun j hj => by omega, Below.refl _ _, by omega⟩
  have HBW : Hid (Below w.heap.size w w2) := bTrans HB1.out HB2.out
  have hz2 : w2.cell? ⟨b1, o1, none⟩ = some (.int .i64 (cnt : Int)) := by rw [HBW.out.cell (p := ⟨b1, o1, none⟩) hb1]; exact h0
  have hb2 : b1 < w2.heap.size := by have := HBW.out.size; omega
  clear hw hM e0 e1 x0 x1 hmk
  gi_wp2_with fail
  refine wpIn_rangeFunc_ownH rfl (by decide) (gf := 101) (lb := #[.pointer (some ⟨w1.heap.size + 1 + 1, 0, none⟩)]) rfl trivial (enters_of Try.func101 (by kernel_rfl) rfl)
    (cut_stops 5 (w1.heap.size + 2) cnt N r b1 o1 c d.length e ct tl b ad cd (by decide) hc hN hr hq hs1 hs2 w2 hb2 Q2.out hz2) keepsBox_t (keepsBox_b (by omega)) (Below.refl _ _) (fun _ => rfl)
    (fun pre W => ∃ g cap xs, Boxed W (w1.heap.size + 1) 38 (.slice (some ⟨g, 0, none⟩) pre.length cap) ∧ g ≠ w1.heap.size + 2 ∧ RI w1.heap.size w2 W (.slice (some ⟨g, 0, none⟩) pre.length cap) pre.length xs (pre.flatMap (fun k => [t, D k.1])))
    (fun _ _ _ => False)
    ?hI (fun _ _ _ _ _ hs _ _ => hs)
    ⟨_, _, _, bL, by omega, RI0.out⟩
    (fun x a' W => ∃ Bx, w1.heap.size + 2 < Bx ∧ Box W Bx (.slice tl r ct) (.slice (ad x.1) N (cd x.1)) 26 ∧ a' = { tmps := #[.agg #[.slice (some ⟨b1, o1, none⟩) (r + 1) c, .slice b d.length e], .pointer (some ⟨w.heap.size, 0, none⟩), .slice none 0 0, .pointer (some ⟨w1.heap.size + 1, 0, none⟩), .pointer (some ⟨Bx, 0, none⟩), .agg #[.slice (some ⟨b1, o1, none⟩) (r + 1) c, .slice b d.length e], .bool true, .bool false, .bool false, .pointer (some ⟨w.heap.size, 0, none⟩), .slice (some ⟨b1, o1, none⟩) (r + 1) c, .int .i64 ((r : Int) + 1), .bool false, .bool false, .pointer (some ⟨w.heap.size, 0, none⟩), .slice (some ⟨b1, o1, none⟩) (r + 1) c, .pointer (some ⟨b1, o1, none⟩), .int .i64 (cnt : Int), .slice (some ⟨w1.heap.size, 0, none⟩) 0 cnt, .agg #[.slice (some ⟨b1, o1, none⟩) (r + 1) c, .slice b d.length e], .func (.func 101) #[] #[.pointer (some ⟨w1.heap.size + 1 + 1, 0, none⟩)], .agg #[.slice tl r ct, .slice (ad x.1) N (cd x.1)], undef, undef, undef, undef, undef, undef], defers := [] })
    ?hAx ?assign ?body ?done ?stop
  case hI =>
    rintro pre X Y row ⟨g, cap, xs, hbx, hgq, hri⟩ hg hrow
    refine ⟨g, cap, xs, hbx.kept hg (fun e' => ?_), hgq, hri.grown hg (fun r' e' => ?_) (fun r' e' e2 => ?_) (fun r' e' j hj => ?_)⟩
    · obtain ⟨_, o, ho, hcc⟩ := hrow _ e'.symm; rw [show X.heap[_]? = _ from hbx] at ho; cases ho; cases hcc
    · have := (hrow r' e').1; omega
    · obtain ⟨_, o, ho, hcc⟩ := hrow r' e'
      rcases hri.own.2 with ⟨h, _⟩ | ⟨g', cap', cur, h, _, hh, _⟩
      · cases h
      · cases h; cases e2; rw [hh] at ho; cases ho; cases hcc
    · obtain ⟨_, o, ho, hcc⟩ := hrow r' e'
      exact (hri.piece j hj).notRow (fun cur t' fr hh => by rw [hh] at ho; cases ho; cases hcc)
  case hAx =>
    rintro x a' _ X Y row ⟨Bx, h1, h2, h3⟩ hg hr'
    refine ⟨Bx, h1, ?_, h3⟩
    unfold Box at h2 ⊢
    rw [hg.block Bx (lt_of_heapA h2) (fun e' => ?_)]
    · exact h2
    · obtain ⟨_, o, ho, hcc⟩ := hr' Bx e'.symm; rw [h2] at ho; cases ho; cases hcc
  case assign =>
    rintro l pre x W K ⟨g, cap, xs, hbx, hgq, hri⟩ hK
    gi_wp2
    exact hK _ _ ((KeepsOthers.alloc _ _).from _) (Below.heap_alloc _ _ _ (by have := hbx.lt; have := hri.below.size; omega)) ⟨g, cap, xs, hbx.alloc _, hgq, hri.grown (World.grownBy_alloc W _ none) (fun _ e' => by cases e') (fun _ e' => by cases e') (fun _ e' => by cases e')⟩ ⟨W.heap.size, by have := hri.below.size; omega, box_new W _ _ _, rfl⟩
  case body =>
    rintro l pre x a' W hl _ ⟨g, cap, xs, hbx, hgq, hri⟩ ⟨Bx, hBx, hX, rfl⟩ hlt
    have c0 := hbx.cell
    have y0 := hX.c0
    have y1 := hX.c1
    have HRI : Hid (RI w1.heap.size w2 W (.slice (some ⟨g, 0, none⟩) pre.length cap) pre.length xs (pre.flatMap (fun k => [t, D k.1]))) := hri
    have HBD : Hid (Below w.heap.size w W.drew) := ((bTrans HB1.out (HB2.out.trans hri.below))).drew
    have HRX : Hid (ArrI w (.agg #[.slice tl r ct, .slice (ad x.1) N (cd x.1)]) t (D x.1)) := HR.out x.1 x.2
    have HDL : Hid ((D x.1).length ≤ 1048576) := hDl x.1 x.2
    have HTL : Hid (t.length ≤ 1048576) := by show _ ≤ _; omega
    have H63 : Hid (pre.length + 1 ≤ maxLen) := by show _ ≤ _; unfold maxLen; omega
    have HBYT : Hid ((pre.length + 1) * 48 ≤ 140737488355328) := by show _ ≤ _; omega
    have HQL : Hid (w1.heap.size + 2 < W.heap.size) := by have := hri.below.size; show _ < _; omega
    clear hri
    gi_wp2_with fail
    refine wpIn_region_any (by kernel_rfl) ?_
    change wpAnyIn _ _ _ _ _ _ _ _ _ (World.drew _)
    refine wpAnyIn_ready (rs := [0, 1]) (by kernel_rfl) (by simp) ?_
    refine AllReadyIn.cons rfl (fun K hK => ?_) (AllReadyIn.cons rfl (fun K hK => ?_) AllReadyIn.nil)
    · -- 0
      go_simp
      refine hK _ _ ?_
      clear hK K
      refine wpAnyIn_ready (rs := [1]) (by kernel_rfl) (by simp) ?_
      refine AllReadyIn.cons rfl (fun K hK => ?_) AllReadyIn.nil
      go_simp
      refine hK _ _ ?_
      clear hK K
      refine wpAnyIn_ready (rs := [2]) (by kernel_rfl) (by simp) ?_
      refine AllReadyIn.cons rfl (fun K hK => ?_) AllReadyIn.nil
      go_simp
      refine ⟨trivial, (CallsIn.inRound l (callsIn_wide.2 (copyOf_impl (HRX.out.keep HBD.out) HTL.out HDL.out))).mono ?_⟩
      rintro rr w3 ⟨v3, rfl, ha, hb⟩
      obtain ⟨ax, cx, ay, cy, rfl, _, _, _, _⟩ := ha.arrI
      have HA3 : Hid (Arr W.heap.size w3.heap.size w3 (.agg #[.slice ax r cx, .slice ay (D x.1).length cy]) t (D x.1)) := by rw [htl] at ha; exact ha
      have HB3 : Hid (Below W.heap.size W w3) := bTrans ((Below.refl W.heap.size W).drew) hb
      have c3 : w3.cell? ⟨w1.heap.size + 1, 0, none⟩ = some (.slice (some ⟨g, 0, none⟩) pre.length cap) := (HB3.out.cell (p := ⟨w1.heap.size + 1, 0, none⟩) hbx.lt).trans c0
      have c3n : ∀ O : Obj, (w3.alloc O).cell? ⟨w1.heap.size + 1, 0, none⟩ = some (.slice (some ⟨g, 0, none⟩) pre.length cap) := fun O => ((bAlloc HB3.out O).cell (p := ⟨w1.heap.size + 1, 0, none⟩) hbx.lt).trans c0
      clear ha hb
      refine hK _ _ ?_
      clear hK K
      refine wpAnyIn_ready (rs := [3]) (by kernel_rfl) (by simp) ?_
      refine AllReadyIn.cons rfl (fun K hK => ?_) AllReadyIn.nil
      go_simp
      refine hK _ _ ?_
      clear hK K
      refine wpAnyIn_ready (rs := [4]) (by kernel_rfl) (by simp) ?_
      refine AllReadyIn.cons rfl (fun K hK => ?_) AllReadyIn.nil
      refine stepIn_append rfl (.tmp 22) (.tmp 25) 38 rfl w1.heap.size 26 i0 (.agg #[.slice none 0 0, .slice none 0 0]) 2 48 Try.underlying38 hq0 z1 z2 z3 rfl (by decide) (.slice (some ⟨g, 0, none⟩) pre.length cap) pre.length xs rfl (ownsRow_keep HRI.out.own (bAlloc HB3.out _)) ⟨w3.heap.size, 0, none⟩ 1 1 [.slice ax r cx, .slice ay (D x.1).length cy] rfl rfl (World.news_of_block (cs := #[.slice ax r cx, .slice ay (D x.1).length cy]) (heap_alloc_new w3 _)) (by simp [Value.oneCell']) (by decide) H63.out HBYT.out (Nat.le_trans HRI.out.size (bAlloc HB3.out _).size) (w3.heap.size + 1) (by simp) ?_
      intro g4 cap4 w4 hown hgrow hat hlt4
      obtain ⟨hbx4, hg4, R5, hbx5, hk5, hq5⟩ := round_end (q := w1.heap.size + 2) HRI.out hbx HQL.out hgq (by omega) (by omega) HB3.out HA3.out hown hgrow hat
      have c4 := hbx4.cell
      have f4 := hbx4.frozen
      refine hK _ _ ?_
      clear hK K
      refine wpAnyIn_ready (rs := [5]) (by kernel_rfl) (by simp) ?_
      refine AllReadyIn.cons rfl (fun K hK => ?_) AllReadyIn.nil
      go_simp
      refine hK _ _ ?_
      clear hK K
      refine wpAnyIn_done (by kernel_rfl) ?_ _
      gi_wp2
      exact ⟨hk5.from _, hq5, g4, cap4, _, by simpa using hbx5, hg4, by simpa using R5⟩
    · -- 1
      go_simp
      refine hK _ _ ?_
      clear hK K
      refine wpAnyIn_ready (rs := [0, 2]) (by kernel_rfl) (by simp) ?_
      refine AllReadyIn.cons rfl (fun K hK => ?_) (AllReadyIn.cons rfl (fun K hK => ?_) AllReadyIn.nil)
      · -- 0
        go_simp
        refine hK _ _ ?_
        clear hK K
        refine wpAnyIn_ready (rs := [2]) (by kernel_rfl) (by simp) ?_
        refine AllReadyIn.cons rfl (fun K hK => ?_) AllReadyIn.nil
        go_simp
        refine ⟨trivial, (CallsIn.inRound l (callsIn_wide.2 (copyOf_impl (HRX.out.keep HBD.out) HTL.out HDL.out))).mono ?_⟩
        rintro rr w3 ⟨v3, rfl, ha, hb⟩
        obtain ⟨ax, cx, ay, cy, rfl, _, _, _, _⟩ := ha.arrI
        have HA3 : Hid (Arr W.heap.size w3.heap.size w3 (.agg #[.slice ax r cx, .slice ay (D x.1).length cy]) t (D x.1)) := by rw [htl] at ha; exact ha
        have HB3 : Hid (Below W.heap.size W w3) := bTrans ((Below.refl W.heap.size W).drew) hb
        have c3 : w3.cell? ⟨w1.heap.size + 1, 0, none⟩ = some (.slice (some ⟨g, 0, none⟩) pre.length cap) := (HB3.out.cell (p := ⟨w1.heap.size + 1, 0, none⟩) hbx.lt).trans c0
        have c3n : ∀ O : Obj, (w3.alloc O).cell? ⟨w1.heap.size + 1, 0, none⟩ = some (.slice (some ⟨g, 0, none⟩) pre.length cap) := fun O => ((bAlloc HB3.out O).cell (p := ⟨w1.heap.size + 1, 0, none⟩) hbx.lt).trans c0
        clear ha hb
        refine hK _ _ ?_
        clear hK K
        refine wpAnyIn_ready (rs := [3]) (by kernel_rfl) (by simp) ?_
        refine AllReadyIn.cons rfl (fun K hK => ?_) AllReadyIn.nil
        go_simp
        refine hK _ _ ?_
        clear hK K
        refine wpAnyIn_ready (rs := [4]) (by kernel_rfl) (by simp) ?_
        refine AllReadyIn.cons rfl (fun K hK => ?_) AllReadyIn.nil
        refine stepIn_append rfl (.tmp 22) (.tmp 25) 38 rfl w1.heap.size 26 i0 (.agg #[.slice none 0 0, .slice none 0 0]) 2 48 Try.underlying38 hq0 z1 z2 z3 rfl (by decide) (.slice (some ⟨g, 0, none⟩) pre.length cap) pre.length xs rfl (ownsRow_keep HRI.out.own (bAlloc HB3.out _)) ⟨w3.heap.size, 0, none⟩ 1 1 [.slice ax r cx, .slice ay (D x.1).length cy] rfl rfl (World.news_of_block (cs := #[.slice ax r cx, .slice ay (D x.1).length cy]) (heap_alloc_new w3 _)) (by simp [Value.oneCell']) (by decide) H63.out HBYT.out (Nat.le_trans HRI.out.size (bAlloc HB3.out _).size) (w3.heap.size + 1) (by simp) ?_
        intro g4 cap4 w4 hown hgrow hat hlt4
        obtain ⟨hbx4, hg4, R5, hbx5, hk5, hq5⟩ := round_end (q := w1.heap.size + 2) HRI.out hbx HQL.out hgq (by omega) (by omega) HB3.out HA3.out hown hgrow hat
        have c4 := hbx4.cell
        have f4 := hbx4.frozen
        refine hK _ _ ?_
        clear hK K
        refine wpAnyIn_ready (rs := [5]) (by kernel_rfl) (by simp) ?_
        refine AllReadyIn.cons rfl (fun K hK => ?_) AllReadyIn.nil
        go_simp
        refine hK _ _ ?_
        clear hK K
        refine wpAnyIn_done (by kernel_rfl) ?_ _
        gi_wp2
        exact ⟨hk5.from _, hq5, g4, cap4, _, by simpa using hbx5, hg4, by simpa using R5⟩
      · -- 2
        go_simp
        refine ⟨trivial, (CallsIn.inRound l (callsIn_wide.2 (copyOf_impl (HRX.out.keep HBD.out) HTL.out HDL.out))).mono ?_⟩
        rintro rr w3 ⟨v3, rfl, ha, hb⟩
        obtain ⟨ax, cx, ay, cy, rfl, _, _, _, _⟩ := ha.arrI
        have HA3 : Hid (Arr W.heap.size w3.heap.size w3 (.agg #[.slice ax r cx, .slice ay (D x.1).length cy]) t (D x.1)) := by rw [htl] at ha; exact ha
        have HB3 : Hid (Below W.heap.size W w3) := bTrans ((Below.refl W.heap.size W).drew) hb
        have c3 : w3.cell? ⟨w1.heap.size + 1, 0, none⟩ = some (.slice (some ⟨g, 0, none⟩) pre.length cap) := (HB3.out.cell (p := ⟨w1.heap.size + 1, 0, none⟩) hbx.lt).trans c0
        have c3n : ∀ O : Obj, (w3.alloc O).cell? ⟨w1.heap.size + 1, 0, none⟩ = some (.slice (some ⟨g, 0, none⟩) pre.length cap) := fun O => ((bAlloc HB3.out O).cell (p := ⟨w1.heap.size + 1, 0, none⟩) hbx.lt).trans c0
        clear ha hb
        refine hK _ _ ?_
        clear hK K
        refine wpAnyIn_ready (rs := [0, 3]) (by kernel_rfl) (by simp) ?_
        refine AllReadyIn.cons rfl (fun K hK => ?_) (AllReadyIn.cons rfl (fun K hK => ?_) AllReadyIn.nil)
        · -- 0
          go_simp
          refine hK _ _ ?_
          clear hK K
          refine wpAnyIn_ready (rs := [3]) (by kernel_rfl) (by simp) ?_
          refine AllReadyIn.cons rfl (fun K hK => ?_) AllReadyIn.nil
          go_simp
          refine hK _ _ ?_
          clear hK K
          refine wpAnyIn_ready (rs := [4]) (by kernel_rfl) (by simp) ?_
          refine AllReadyIn.cons rfl (fun K hK => ?_) AllReadyIn.nil
          refine stepIn_append rfl (.tmp 22) (.tmp 25) 38 rfl w1.heap.size 26 i0 (.agg #[.slice none 0 0, .slice none 0 0]) 2 48 Try.underlying38 hq0 z1 z2 z3 rfl (by decide) (.slice (some ⟨g, 0, none⟩) pre.length cap) pre.length xs rfl (ownsRow_keep HRI.out.own (bAlloc HB3.out _)) ⟨w3.heap.size, 0, none⟩ 1 1 [.slice ax r cx, .slice ay (D x.1).length cy] rfl rfl (World.news_of_block (cs := #[.slice ax r cx, .slice ay (D x.1).length cy]) (heap_alloc_new w3 _)) (by simp [Value.oneCell']) (by decide) H63.out HBYT.out (Nat.le_trans HRI.out.size (bAlloc HB3.out _).size) (w3.heap.size + 1) (by simp) ?_
          intro g4 cap4 w4 hown hgrow hat hlt4
          obtain ⟨hbx4, hg4, R5, hbx5, hk5, hq5⟩ := round_end (q := w1.heap.size + 2) HRI.out hbx HQL.out hgq (by omega) (by omega) HB3.out HA3.out hown hgrow hat
          have c4 := hbx4.cell
          have f4 := hbx4.frozen
          refine hK _ _ ?_
          clear hK K
          refine wpAnyIn_ready (rs := [5]) (by kernel_rfl) (by simp) ?_
          refine AllReadyIn.cons rfl (fun K hK => ?_) AllReadyIn.nil
          go_simp
          refine hK _ _ ?_
          clear hK K
          refine wpAnyIn_done (by kernel_rfl) ?_ _
          gi_wp2
          exact ⟨hk5.from _, hq5, g4, cap4, _, by simpa using hbx5, hg4, by simpa using R5⟩
        · -- 3
          go_simp
          refine hK _ _ ?_
          clear hK K
          refine wpAnyIn_ready (rs := [0]) (by kernel_rfl) (by simp) ?_
          refine AllReadyIn.cons rfl (fun K hK => ?_) AllReadyIn.nil
          go_simp
          refine hK _ _ ?_
          clear hK K
          refine wpAnyIn_ready (rs := [4]) (by kernel_rfl) (by simp) ?_
          refine AllReadyIn.cons rfl (fun K hK => ?_) AllReadyIn.nil
          refine stepIn_append rfl (.tmp 22) (.tmp 25) 38 rfl w1.heap.size 26 i0 (.agg #[.slice none 0 0, .slice none 0 0]) 2 48 Try.underlying38 hq0 z1 z2 z3 rfl (by decide) (.slice (some ⟨g, 0, none⟩) pre.length cap) pre.length xs rfl (ownsRow_keep HRI.out.own (bAlloc HB3.out _)) ⟨w3.heap.size, 0, none⟩ 1 1 [.slice ax r cx, .slice ay (D x.1).length cy] rfl rfl (World.news_of_block (cs := #[.slice ax r cx, .slice ay (D x.1).length cy]) (heap_alloc_new w3 _)) (by simp [Value.oneCell']) (by decide) H63.out HBYT.out (Nat.le_trans HRI.out.size (bAlloc HB3.out _).size) (w3.heap.size + 1) (by simp) ?_
          intro g4 cap4 w4 hown hgrow hat hlt4
          obtain ⟨hbx4, hg4, R5, hbx5, hk5, hq5⟩ := round_end (q := w1.heap.size + 2) HRI.out hbx HQL.out hgq (by omega) (by omega) HB3.out HA3.out hown hgrow hat
          have c4 := hbx4.cell
          have f4 := hbx4.frozen
          refine hK _ _ ?_
          clear hK K
          refine wpAnyIn_ready (rs := [5]) (by kernel_rfl) (by simp) ?_
          refine AllReadyIn.cons rfl (fun K hK => ?_) AllReadyIn.nil
          go_simp
          refine hK _ _ ?_
          clear hK K
          refine wpAnyIn_done (by kernel_rfl) ?_ _
          gi_wp2
          exact ⟨hk5.from _, hq5, g4, cap4, _, by simpa using hbx5, hg4, by simpa using R5⟩
  case done =>
    rintro D' zs W hD rfl ⟨g, cap, xs, hbx, hgq, hri⟩ hK
    have c0 := hbx.cell
    have R9 := hri.grown (grownBy_putObj' W D' (.deferred none)) (fun r' e' => by cases e'; omega) (fun r' e' e2 => by
      cases e'
      rcases hri.own.2 with ⟨h, _⟩ | ⟨g', cap', cur, h, _, hh, _⟩
      · cases h
      · cases h; cases e2; rw [hh] at hK; cases hK) (fun r' e' j hj => by
      cases e'
      exact (hri.piece j hj).notRow (fun cur t' fr hh => by rw [hh] at hK; cases hK))
    have HA9 := (R9.done (by rw [flat_lenR])).mono (B' := w.heap.size) HB1.out.size (Nat.le_refl _)
    have HB9 : Below w.heap.size w (W.putObj D' (.deferred none)) := bTrans HB1.out (HB2.out.trans R9.below)
    clear R9 hri
    gi_wp2
    refine ⟨by simp, .inl ⟨_, _, rfl, run_takeDeferred hK, ?_⟩⟩
    exact ⟨_, results_tmp rfl _ _ _, _, rfl, by simpa using HA9, HB9⟩
  case stop =>
    rintro D' c' pre W _ _ h _
    exact h.elim
end Go.Proofs.Ytlbmbjgbihljhad
namespace Go.Proofs.Ytlbmbjgbihljhad
open Go.RowKit
set_option linter.unusedVariables false
set_option linter.unusedSimpArgs false
theorem finRange_val (n : Nat) : (List.finRange n).map (fun k => k.1) = List.range n := by
  apply List.ext_getElem
  · simp
  · intro i h1 h2
    simp
theorem finRange_flat (n : Nat) (f : Nat → List (List Int)) : (List.finRange n).flatMap (fun k => f k.1) = (List.range n).flatMap f := by
  rw [← finRange_val, List.flatMap_map]
theorem slice_tail3 (W : World) (b o n c : Nat) (hc : n + 1 ≤ c) : (Instr.slice 24 (.slice (some ⟨b, o, none⟩) (n + 1) c) (some (.int .i64 1)) (some (.int .i64 ((n : Int) + 1))) (some (.int .i64 ((n : Int) + 1)))).run Try.prog W = .ok (.slice (if n = 0 then some ⟨b, o, none⟩ else some ⟨b, o + 1, none⟩) n n) W := by
  have hs : (sizeOf 3).run Try.prog W = .ok 1 W := by kernel_rfl
  have he : Try.prog.elem 24 = 3 := by kernel_rfl
  rw [run_slice_lhm (P := Try.prog) (w := W) 24 (some ⟨b, o, none⟩) (n + 1) c (by rw [he]; exact Try.underlying24) .i64 .i64 .i64 1 ((n : Int) + 1) ((n : Int) + 1) (by decide) (by omega) (by omega) (by omega), he, hs]
  have e1 : ((n : Int) + 1).toNat = n + 1 := by omega
  by_cases h0 : n = 0
  · subst h0; simp [Result.andThen, sliced, Addr.add]
  · simp [Result.andThen, sliced, Addr.add, e1, h0]
theorem slice_cut3 (W : World) (b : Option Addr) (n e M R N : Nat) (h : M + N = R) (hR : R ≤ e) : (Instr.slice 24 (.slice b n e) (some (.int .i64 (M : Int))) (some (.int .i64 (R : Int))) (some (.int .i64 (R : Int)))).run Try.prog W = .ok (.slice (if N = 0 then b else b.map (·.add M)) N N) W := by
  have hs : (sizeOf 3).run Try.prog W = .ok 1 W := by kernel_rfl
  have he : Try.prog.elem 24 = 3 := by kernel_rfl
  rw [run_slice_lhm (P := Try.prog) (w := W) 24 b n e (by rw [he]; exact Try.underlying24) .i64 .i64 .i64 (M : Int) (R : Int) (R : Int) (by omega) (by omega) (by omega) (by omega), he, hs]
  have e2 : R - M = N := by omega
  by_cases h0 : N = 0
  · have e3 : R = M := by omega
    simp [Result.andThen, sliced, h0, e3]
  · have e3 : ¬ R = M := by omega
    simp [Result.andThen, sliced, h0, e3, e2]
theorem rows_good {n0 : Int} {t d : List Int} {w : World} {v : Value} (h : ArrI w v (n0 :: t) d) (ho : arrOk (n0 :: t) d = true) :
    Calls Try.prog 26 #[v] w fun e w' => ∃ v', e = .returned v' ∧ Arrs w.heap.size w'.heap.size w' v' (rowsF (n0 :: t) d) ∧ Below w.heap.size w w' := by
  have H := h
  obtain ⟨a, c, b, e, rfl, h1, h2, g1, g2⟩ := h
  obtain ⟨b1, o1, rfl, hb1, c0⟩ := h1.at (k := 0) (by simp)
  have hh := head_bd ho
  simp only [List.getD_cons_zero] at hh c0
  rw [Nat.add_zero] at c0
  obtain ⟨cnt, rfl⟩ : ∃ cnt : Nat, n0 = (cnt : Int) := ⟨n0.toNat, by omega⟩
  have k1 := (sizeV_ok (arrOk_shape ho)).1
  simp at k1
  have hdl := arrOk_len ho
  obtain ⟨N, hN⟩ : ∃ N : Nat, (0 < cnt → sizeV t = (N : Int)) ∧ (¬ 0 < cnt → N = 0) := by
    by_cases hp : 0 < cnt
    · exact ⟨(sizeV t).toNat, fun _ => by have := tail_size ho (by omega); omega, fun h => absurd hp h⟩
    · exact ⟨0, fun h => absurd h hp, fun _ => rfl⟩
  have hmul : 0 < cnt → cnt * N = d.length := fun hp => by
    have q := (tail_size ho (by omega)).2.1
    rw [hN.1 hp] at q
    have : ((cnt * N : Nat) : Int) = (d.length : Int) := by simpa using q
    omega
  have hN3 : N ≤ 300 := by
    by_cases hp : 0 < cnt
    · have := (tail_size ho (by omega)).2.2; have := hN.1 hp; omega
    · have := hN.2 hp; omega
  have hle : ∀ k, k < cnt → k * N + N ≤ d.length := fun k hk => by
    have q : (k + 1) * N ≤ cnt * N := Nat.mul_le_mul_right N (by omega)
    rw [hmul (by omega), Nat.add_mul, Nat.one_mul] at q
    exact q
  have ht : Ints w (some ⟨b1, o1 + 1, none⟩) t := by
    rcases h1 with h1 | ⟨b', off', e', hb', hc'⟩
    · cases h1
    · cases e'
      refine .inr ⟨b1, o1 + 1, rfl, hb', fun k hk => ?_⟩
      have q := hc' (k + 1) (by simp; omega)
      rw [show o1 + (k + 1) = o1 + 1 + k by omega] at q
      simpa using q
  have hlen : ∀ k, k < cnt → ((d.drop (k * N)).take N).length = N := fun k hk => by have := hle k hk; simp; omega
  have hF : (List.finRange cnt).flatMap (fun k => [t, (d.drop (k.1 * N)).take N]) = rowsF ((cnt : Int) :: t) d := by
    rw [finRange_flat cnt (fun i => [t, (d.drop (i * N)).take N])]
    unfold rowsF
    rw [if_pos ⟨ho, by simp⟩]
    by_cases hp : 0 < cnt
    · simp [hN.1 hp]
    · obtain rfl : cnt = 0 := by omega
      rfl
  rw [← hF]
  refine rows_walk 0 cnt N t.length b1 o1 c e t.length t d (if t.length = 0 then some ⟨b1, o1, none⟩ else some ⟨b1, o1 + 1, none⟩) b (fun k => if N = 0 then b else b.map (·.add (k * N))) (fun _ => N) (fun k => (d.drop (k * N)).take N) w (by omega) hN3 (by omega) rfl ?_ ho hdl ?_ ?_ H hb1 c0 ?_ ?_
  · intro hp
    rw [← hmul hp]
    rw [Int.natCast_mul, Int.mul_ediv_cancel_left _ (by omega)]
  · exact fun W => slice_tail3 W b1 o1 t.length c (by simpa using g1)
  · intro k M R W hk hM hR
    rw [← hM]
    exact slice_cut3 W b d.length e (k * N) R N (by rw [← hR, Nat.add_mul, Nat.one_mul]) (by have := hle k hk; rw [← hR, Nat.add_mul, Nat.one_mul]; omega)
  · intro k hk
    refine ⟨_, _, _, _, by rw [hlen k hk], ?_, ?_, Nat.le_refl _, by rw [hlen k hk]; exact Nat.le_refl _⟩
    · by_cases h0 : t.length = 0
      · exact .inl (List.eq_nil_of_length_eq_zero h0)
      · rw [if_neg h0]; exact ht
    · by_cases h0 : N = 0
      · subst h0; exact .inl (by simp)
      · have hd0 : 0 < d.length := by have := hle k hk; omega
        obtain ⟨b2, o2, rfl, hb2, _⟩ := h2.at hd0
        rw [if_neg h0]
        have e : (⟨b2, o2, none⟩ : Addr).add (k * N) = ⟨b2, o2 + k * N, none⟩ := by unfold Addr.add; split <;> simp_all
        simp only [Option.map_some, e]
        exact ints_cut h2 (hle k hk)
  · intro k hk
    rw [hlen k hk]; omega
set_option maxRecDepth 20000 in
set_option maxHeartbeats 1000000 in
/-- Rows. -/
theorem rows_impl {s d : List Int} {w : World} {v : Value} (h : ArrI w v s d) (hs : s.length ≤ 1048576) (hd : d.length ≤ 1048576) :
    Calls Try.prog 26 #[v] w fun e w' => ∃ v, e = .returned v ∧ Arrs w.heap.size w'.heap.size w' v (rowsF s d) ∧ Below w.heap.size w w' := by
  by_cases hg : arrOk s d = true ∧ s ≠ []
  · obtain ⟨ho, hne⟩ := hg
    cases s with
    | nil => exact absurd rfl hne
    | cons n0 t => exact rows_good h ho
  · have HF : Hid (rowsF s d = []) := by show _ = _; unfold rowsF; rw [if_neg hg]
    have H : Hid (ArrI w v s d) := h
    obtain ⟨a, c, b, e, rfl, _, _, _, _⟩ := h
    have HD : Hid (d.length ≤ 1048576) := hd
    have hq : arrOk s d = false ∨ (arrOk s d = true ∧ s = []) := by
      cases ho : arrOk s d
      · exact .inl rfl
      · exact .inr ⟨rfl, Classical.byContradiction fun e => hg ⟨ho, e⟩⟩
    clear hd hs hg
    rcases hq with hq | ⟨hq, rfl⟩
    all_goals
      have HO : Hid (arrOk _ d = _) := hq
      clear hq
      go_enter Try.func26, Try.ntmps26
      go_wp2_with fail
      refine (arrOk_impl (H.out.keep (bAlloc (Below.refl _ _) _)) HD.out).mono ?_
      rintro r w1 ⟨rfl, hb⟩
      have HB : Hid (Below w.heap.size w w1) := bTrans (bAlloc (Below.refl _ _) _) hb
      have X : Hid (Box w1 w.heap.size _ (.slice b d.length e) 26) := (box_new w _ _ _).keep hb
      have p0 := X.out.c0
      have p1 := X.out.c1
      clear hb
      rw [HO.out]
      go_wp2
      go_ret
      exact ⟨_, rfl, by rw [HF.out]; exact arrs_none _ _ _ _ _, HB.out⟩
end Go.Proofs.Ytlbmbjgbihljhad
