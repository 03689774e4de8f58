/-
  Several texts, one behind the other: ImplRed1, ImplBack, ImplRed2.
-/
import Derived.RangeFuncBox
import Derived.Maps.AppendAt
import Derived.Test.YtnkacfgbkfkhdaaGreatY26
import Derived.Test.YtnkacfgbkfkhdaaGreatY12
import Derived.Test.YtnkacfgbkfkhdaaGreatY25
namespace Go.Proofs.YtnkacfgbkfkhdaaGreat
open Go.RowKit Go.Shelf
set_option linter.unusedVariables false
set_option linter.unusedSimpArgs false
attribute [local go_sem] Oper.semAt_some
theorem keeps_of_below {n0 q : Nat} {W W' : World} (h : Below n0 W W') (hq : q < n0) : KeepsBox q W W' := h.block q hq
theorem flat_snocV {cnt : Nat} (f : Fin cnt → List Value) (pre : List (Fin cnt)) (x : Fin cnt) : (pre ++ [x]).flatMap f = pre.flatMap f ++ f x := by simp [List.flatMap_append]
set_option maxRecDepth 100000 in
set_option maxHeartbeats 4000000 in
theorem appendSeq_in (q cnt N r b1 o1 c dl e ct : Nat) (tl b : Option Addr) (ad : Nat → Option Addr) (cd : Nat → Nat) (hc : cnt ≤ 300) (hN : N ≤ 300) (hr : r ≤ 3)
    (hq : 0 < cnt → (dl : Int) / (cnt : Int) = N)
    (hs1 : ∀ W, (Instr.slice 24 (.slice (some ⟨b1, o1, none⟩) (r + 1) c) (some (.int .i64 1)) (some (.int .i64 ((r : Int) + 1))) (some (.int .i64 ((r : Int) + 1)))).run Tryz.prog W = .ok (.slice tl r ct) W)
    (hs2 : ∀ (k M R : Nat) W, k < cnt → k * N = M → (k + 1) * N = R → (Instr.slice 24 (.slice b dl e) (some (.int .i64 (M : Int))) (some (.int .i64 (R : Int))) (some (.int .i64 (R : Int)))).run Tryz.prog W = .ok (.slice (ad k) N (cd k)) W)
    (w : World) (hb1 : b1 < w.heap.size) (hB : Box w q (.slice (some ⟨b1, o1, none⟩) (r + 1) c) (.slice b dl e) 26) (h0 : w.cell? ⟨b1, o1, none⟩ = some (.int .i64 (cnt : Int))) :
    CallsIn Fence.wide 5 Tryz.prog 75 #[.slice none 0 0, .func (.func 76) #[] #[.pointer (some ⟨q, 0, none⟩)]] w fun e W' => ∃ v, e = .returned v ∧ W'.ownsRow w.heap.size 26 2 v cnt ((List.finRange cnt).flatMap (fun k => [.slice tl r ct, .slice (ad k.1) N (cd k.1)])) ∧ Below w.heap.size w W' := by
  obtain ⟨i0, hi0, z1, z2, z3⟩ : ∃ i0, Tryz.prog.info? 26 = some i0 ∧ i0.zero = some (.agg #[.slice none 0 0, .slice none 0 0]) ∧ i0.size = 2 ∧ i0.bytes = 48 := by
    have hi := info_arr
    cases hq : Tryz.prog.info? 26 with
    | none => rw [hq] at hi; cases hi
    | some i => rw [hq] at hi; simp at hi; exact ⟨i, rfl, hi.1, hi.2.1, hi.2.2⟩
  have hqw := hB.lt
  refine callsIn_of_wp_marks Tryz.func75 rfl trivial ?_ rfl
  simp only [Tryz.ntmps75, List.size_toArray, List.length_cons, List.length_nil, Nat.reduceAdd, Nat.reduceSub, Array.replicate_succ, Array.replicate_zero, List.push_toArray, List.append_toArray, List.nil_append, List.cons_append]
  gi_wp2_with fail
  have bO := Boxed.new w 48 (.slice none 0 0)
  have hB0 : Below w.heap.size w (w.alloc (.cells #[.slice none 0 0] 48)) := bAlloc (Below.refl _ _) _
  refine wpIn_rangeFunc_ownH rfl (by decide) (gf := 76) (lb := #[.pointer (some ⟨q, 0, none⟩)]) rfl trivial (enters_of Tryz.func76 (by kernel_rfl) rfl)
    (cut_stops 4 q cnt N r b1 o1 c dl e ct tl b ad cd (by decide) hc hN hr hq hs1 hs2 (w.alloc (.cells #[.slice none 0 0] 48)) (by simp; omega) (hB.keep hB0) ((hB0.cell (p := ⟨b1, o1, none⟩) hb1).trans h0)) keepsBox_t (keepsBox_b (by simp; omega)) (Below.refl _ _) (fun _ => rfl)
    (fun pre W => (∃ v, Boxed W w.heap.size 48 v ∧ W.ownsRow w.heap.size 26 2 v pre.length (pre.flatMap (fun k => [.slice tl r ct, .slice (ad k.1) N (cd k.1)])) ∧ True) ∧ Below w.heap.size w W)
    (fun _ _ _ => False)
    (OwnFrom.and (Own.from (holdsRow_own w.heap.size w.heap.size 48 26 2 (fun pre : List (Fin cnt) => pre.length) (fun pre => pre.flatMap (fun k => [.slice tl r ct, .slice (ad k.1) N (cd k.1)])) (fun _ _ => True)) _) (ownFrom_below (Nat.le_refl _) (by simp)))
    (fun _ _ _ _ _ hs _ _ => hs)
    ⟨⟨_, bO, World.ownsRow_nil _ _ _ _, trivial⟩, hB0⟩
    (fun x a' W => ∃ Bx, w.heap.size < Bx ∧ Box W Bx (.slice tl r ct) (.slice (ad x.1) N (cd x.1)) 26 ∧ a' = { tmps := #[.slice none 0 0, .func (.func 76) #[] #[.pointer (some ⟨q, 0, none⟩)], .pointer (some ⟨w.heap.size, 0, none⟩), undef, .slice none 0 0, .pointer (some ⟨Bx, 0, none⟩), .func (.func 76) #[] #[.pointer (some ⟨q, 0, none⟩)], .agg #[.slice tl r ct, .slice (ad x.1) N (cd x.1)], undef, undef, undef, undef, undef], defers := [] })
    ?hAx ?assign ?body ?done ?stop
  case hAx =>
    rintro x a' _ X Y row ⟨Bx, h1, h2, h3⟩ hg hr'
    refine ⟨Bx, h1, ?_, h3⟩
    unfold Box at h2 ⊢
    rw [hg.block Bx (lt_of_heapA h2) (fun e' => ?_)]
    · exact h2
    · obtain ⟨_, o, ho, hcc⟩ := hr' Bx e'.symm; rw [h2] at ho; cases ho; cases hcc
  case assign =>
    rintro l pre x W K ⟨⟨v, hv, hrow, _⟩, hbl⟩ hK
    gi_wp2
    exact hK _ _ ((KeepsOthers.alloc _ _).from _) (Below.heap_alloc _ _ _ (by have := hbl.size; omega)) ⟨⟨v, hv.alloc _, hrow.alloc _, trivial⟩, bAlloc hbl _⟩ ⟨W.heap.size, hv.lt, box_new W _ _ _, rfl⟩
  case body =>
    rintro l pre x a' W hl _ ⟨⟨v, hv, hrow, _⟩, hbl⟩ ⟨Bx, hBx, hX, rfl⟩ hlt
    have hc' := hv.cell
    have y0 := hX.c0
    have y1 := hX.c1
    have hsz := hbl.size
    gi_wp2_with (gi_at_builtin; refine wpListIn_append_own _ rfl _ _ 48 rfl w.heap.size 26 i0 (.agg #[.slice none 0 0, .slice none 0 0]) 2 48 Tryz.underlying48 hi0 z1 z2 z3 rfl (by decide) _ _ _ rfl (hrow.alloc _) ⟨W.heap.size, 0, none⟩ 1 1 [.slice tl r ct, .slice (ad x.1) N (cd x.1)] rfl rfl (World.news_of_block (cs := #[.slice tl r ct, .slice (ad x.1) N (cd x.1)]) (heap_alloc_new W _)) (by simp [Value.oneCell']) (by unfold maxLen; omega) (by omega) (by simp; omega) ?_; intro v' w1 hown' hgrow _; obtain ⟨g', cap', rfl⟩ := ownsRow_succ hown'; obtain ⟨hv1, hv2, hr2, hk2, hb2⟩ := hv.appended (by decide) hrow hbl.size (Nat.le_refl _) hown' hgrow; have hc1 := hv1.cell; have hf1 := hv1.frozen)
    exact ⟨hk2.from _, keeps_of_below hb2 hqw, ⟨_, hv2, by rw [flat_snocV]; simpa using hr2, trivial⟩, hbl.trans hb2⟩
  case done =>
    rintro D ys W hD rfl ⟨⟨v, hv, hrow, _⟩, hbl⟩ hK
    have hc' := hv.cell
    gi_wp2
    refine ⟨by simp, .inl ⟨_, _, rfl, run_takeDeferred hK, ?_⟩⟩
    refine ⟨_, results_tmp rfl _ _ _, v, rfl, ?_, hbl.trans (belowK_b (w := w) (Nat.le_refl _) W D _ _ (by simp at hD; omega) hK rfl rfl)⟩
    have q := ownsRow_putObj hrow (.deferred none) hK rfl
    rw [List.length_finRange] at q
    exact q
  case stop =>
    rintro D c' pre W _ _ h _
    exact h.elim
set_option maxHeartbeats 1000000 in
/-- slices.Collect. -/
theorem collect_impl (q cnt N r b1 o1 c dl e ct : Nat) (tl b : Option Addr) (ad : Nat → Option Addr) (cd : Nat → Nat) (hc : cnt ≤ 300) (hN : N ≤ 300) (hr : r ≤ 3)
    (hq : 0 < cnt → (dl : Int) / (cnt : Int) = N)
    (hs1 : ∀ W, (Instr.slice 24 (.slice (some ⟨b1, o1, none⟩) (r + 1) c) (some (.int .i64 1)) (some (.int .i64 ((r : Int) + 1))) (some (.int .i64 ((r : Int) + 1)))).run Tryz.prog W = .ok (.slice tl r ct) W)
    (hs2 : ∀ (k M R : Nat) W, k < cnt → k * N = M → (k + 1) * N = R → (Instr.slice 24 (.slice b dl e) (some (.int .i64 (M : Int))) (some (.int .i64 (R : Int))) (some (.int .i64 (R : Int)))).run Tryz.prog W = .ok (.slice (ad k) N (cd k)) W)
    (w : World) (hb1 : b1 < w.heap.size) (hB : Box w q (.slice (some ⟨b1, o1, none⟩) (r + 1) c) (.slice b dl e) 26) (h0 : w.cell? ⟨b1, o1, none⟩ = some (.int .i64 (cnt : Int))) :
    Calls Tryz.prog 55 #[.func (.func 76) #[] #[.pointer (some ⟨q, 0, none⟩)]] w fun e W' => ∃ v, e = .returned v ∧ W'.ownsRow w.heap.size 26 2 v cnt ((List.finRange cnt).flatMap (fun k => [.slice tl r ct, .slice (ad k.1) N (cd k.1)])) ∧ Below w.heap.size w W' := by
  have HA : Hid (Calls Tryz.prog 75 #[.slice none 0 0, .func (.func 76) #[] #[.pointer (some ⟨q, 0, none⟩)]] w fun e W' => ∃ v, e = .returned v ∧ W'.ownsRow w.heap.size 26 2 v cnt ((List.finRange cnt).flatMap (fun k => [.slice tl r ct, .slice (ad k.1) N (cd k.1)])) ∧ Below w.heap.size w W') := (callsIn_wide (n := 5)).1 (appendSeq_in q cnt N r b1 o1 c dl e ct tl b ad cd hc hN hr hq hs1 hs2 w hb1 hB h0)
  clear hc hN hr hq hs1 hs2 hb1 hB h0
  go_enter Tryz.func55, Tryz.ntmps55
  go_wp2_with fail
  refine (HA.out).mono ?_
  rintro r' w1 ⟨v, rfl, hrow, hb⟩
  have HR : Hid (w1.ownsRow w.heap.size 26 2 v cnt ((List.finRange cnt).flatMap (fun k => [.slice tl r ct, .slice (ad k.1) N (cd k.1)])) ∧ Below w.heap.size w w1) := ⟨hrow, hb⟩
  clear hrow hb
  go_wp2
  go_ret
  exact ⟨v, rfl, HR.out.1, HR.out.2⟩
theorem flat2_atV {α : Type} (n k : Nat) (f g : Nat → α) (z : α) (hk : k < n) : ((List.range n).flatMap (fun i => [f i, g i])).getD (2 * k) z = f k ∧ ((List.range n).flatMap (fun i => [f i, g i])).getD (2 * k + 1) z = g k ∧ ((List.range n).flatMap (fun i => [f i, g i])).length = 2 * n := by
  have hlen : ∀ n, ((List.range n).flatMap (fun i => [f i, g i])).length = 2 * n := by
    intro n
    induction n with
    | zero => rfl
    | succ n ih => rw [List.range_succ, List.flatMap_append, List.length_append, ih]; simp; omega
  refine ⟨?_, ?_, hlen n⟩
  all_goals
    induction n with
    | zero => omega
    | succ n ih =>
      rw [List.range_succ, List.flatMap_append, getD_app, hlen n]
      by_cases e : k < n
      · rw [if_pos (by omega)]; exact ih e
      · obtain rfl : k = n := by omega
        rw [if_neg (by omega)]
        first
        | (rw [show 2 * k - 2 * k = 0 by omega]; simp)
        | (rw [show 2 * k + 1 - 2 * k = 1 by omega]; simp)
theorem finRange_flatV {α : Type} (n : Nat) (f : Nat → List α) : (List.finRange n).flatMap (fun k => f k.1) = (List.range n).flatMap f := by
  rw [← finRange_val, List.flatMap_map]
/-- slices.Collect of what cutRows tells, of an array that is right and of rank 1 and above. -/
theorem collect_rows {n0 : Int} {t d : List Int} {w : World} {x y : Value} {q : Nat} (h : ArrI w (.agg #[x, y]) (n0 :: t) d) (ho : arrOk (n0 :: t) d = true) (hB : Box w q x y 26) :
    Calls Tryz.prog 55 #[.func (.func 76) #[] #[.pointer (some ⟨q, 0, none⟩)]] w fun e w' => ∃ v xs, e = .returned v ∧ ListAt w w' v (rowsN (n0 :: t)) xs (flatR t (rowsD (n0 :: t) d)) := by
  have H := h
  obtain ⟨a, c, b, e, ev, h1, h2, g1, g2⟩ := h
  cases ev
  obtain ⟨b1, o1, rfl, hb1, c0⟩ := h1.at (k := 0) (by simp)
  have hh := head_bd ho
  simp only [List.getD_cons_zero] at hh c0
  rw [Nat.add_zero] at c0
  obtain ⟨cnt, rfl⟩ : ∃ cnt : Nat, n0 = (cnt : Int) := ⟨n0.toNat, by omega⟩
  have k1 := (sizeV_ok (arrOk_shape ho)).1
  simp at k1
  have hdl := arrOk_len ho
  obtain ⟨N, hN⟩ : ∃ N : Nat, (0 < cnt → sizeV t = (N : Int)) ∧ (¬ 0 < cnt → N = 0) := by
    by_cases hp : 0 < cnt
    · exact ⟨(sizeV t).toNat, fun _ => by have := tail_size ho (by omega); omega, fun h => absurd hp h⟩
    · exact ⟨0, fun h => absurd h hp, fun _ => rfl⟩
  have hmul : 0 < cnt → cnt * N = d.length := fun hp => by
    have q := (tail_size ho (by omega)).2.1
    rw [hN.1 hp] at q
    have : ((cnt * N : Nat) : Int) = (d.length : Int) := by simpa using q
    omega
  have hN3 : N ≤ 300 := by
    by_cases hp : 0 < cnt
    · have := (tail_size ho (by omega)).2.2; have := hN.1 hp; omega
    · have := hN.2 hp; omega
  have hle : ∀ k, k < cnt → k * N + N ≤ d.length := fun k hk => by
    have q : (k + 1) * N ≤ cnt * N := Nat.mul_le_mul_right N (by omega)
    rw [hmul (by omega), Nat.add_mul, Nat.one_mul] at q
    exact q
  have ht : Ints w (some ⟨b1, o1 + 1, none⟩) t := by
    rcases h1 with h1 | ⟨b', off', e', hb', hc'⟩
    · cases h1
    · cases e'
      refine .inr ⟨b1, o1 + 1, rfl, hb', fun k hk => ?_⟩
      have q := hc' (k + 1) (by simp; omega)
      rw [show o1 + (k + 1) = o1 + 1 + k by omega] at q
      simpa using q
  have hlen : ∀ k, k < cnt → ((d.drop (k * N)).take N).length = N := fun k hk => by have := hle k hk; simp; omega
  have hF : flatR t (rowsD ((cnt : Int) :: t) d) = (List.range cnt).flatMap (fun k => [t, (d.drop (k * N)).take N]) := by
    unfold flatR rowsD
    rw [List.flatMap_map, show rowsN ((cnt : Int) :: t) = cnt by simp [rowsN]]
    by_cases hp : 0 < cnt
    · unfold rowAt
      rw [show rowN ((cnt : Int) :: t) = N by simp [rowN, hN.1 hp]]
    · obtain rfl : cnt = 0 := by omega
      rfl
  have hrow : ∀ k, k < cnt → IntsI w (.slice (if t.length = 0 then some ⟨b1, o1, none⟩ else some ⟨b1, o1 + 1, none⟩) t.length t.length) t ∧ IntsI w (.slice (if N = 0 then b else b.map (·.add (k * N))) N N) ((d.drop (k * N)).take N) := by
    intro k hk
    refine ⟨⟨_, _, rfl, Nat.le_refl _, ?_⟩, ⟨_, _, by rw [hlen k hk], by rw [hlen k hk]; exact Nat.le_refl _, ?_⟩⟩
    · by_cases h0 : t.length = 0
      · exact .inl (List.eq_nil_of_length_eq_zero h0)
      · rw [if_neg h0]; exact ht
    · by_cases h0 : N = 0
      · subst h0; exact .inl (by simp)
      · have hd0 : 0 < d.length := by have := hle k hk; omega
        obtain ⟨b2, o2, rfl, hb2, _⟩ := h2.at hd0
        rw [if_neg h0]
        have e : (⟨b2, o2, none⟩ : Addr).add (k * N) = ⟨b2, o2 + k * N, none⟩ := by unfold Addr.add; split <;> simp_all
        simp only [Option.map_some, e]
        exact ints_cut h2 (hle k hk)
  rw [hF, show rowsN ((cnt : Int) :: t) = cnt by simp [rowsN]]
  refine (collect_impl q cnt N t.length b1 o1 c d.length e t.length (if t.length = 0 then some ⟨b1, o1, none⟩ else some ⟨b1, o1 + 1, none⟩) b (fun k => if N = 0 then b else b.map (·.add (k * N))) (fun _ => N) (by omega) hN3 (by omega) ?_ ?_ ?_ w hb1 hB c0).mono ?_
  · intro hp
    rw [← hmul hp]
    rw [Int.natCast_mul, Int.mul_ediv_cancel_left _ (by omega)]
  · exact fun W => slice_tail3 W b1 o1 t.length c (by simpa using g1)
  · intro k M R W hk hM hR
    rw [← hM]
    exact slice_cut3 W b d.length e (k * N) R N (by rw [← hR, Nat.add_mul, Nat.one_mul]) (by have := hle k hk; rw [← hR, Nat.add_mul, Nat.one_mul]; omega)
  · rintro r' w1 ⟨v, rfl, hrow', hb⟩
    rw [finRange_flatV cnt (fun k => [Value.slice (if t.length = 0 then some ⟨b1, o1, none⟩ else some ⟨b1, o1 + 1, none⟩) t.length t.length, .slice (if N = 0 then b else b.map (·.add (k * N))) N N])] at hrow'
    refine ⟨v, _, rfl, hrow', fun j hj => ?_, flat2_length cnt _ (fun _ => rfl), hb⟩
    obtain ⟨k, hk, hj2⟩ : ∃ k, k < cnt ∧ (j = 2 * k ∨ j = 2 * k + 1) := ⟨j / 2, by omega, by omega⟩
    obtain ⟨v1, v2, _⟩ := flat2_atV cnt k (fun _ => Value.slice (if t.length = 0 then some ⟨b1, o1, none⟩ else some ⟨b1, o1 + 1, none⟩) t.length t.length) (fun k => Value.slice (if N = 0 then b else b.map (·.add (k * N))) N N) undef hk
    obtain ⟨l1, l2⟩ := flat2_at cnt k (fun _ => t) (fun k => (d.drop (k * N)).take N) hk
    obtain ⟨i1, i2⟩ := hrow k hk
    rcases hj2 with rfl | rfl
    · rw [v1, l1]; exact i1
    · rw [v2, l2]; exact i2
end Go.Proofs.YtnkacfgbkfkhdaaGreat
namespace Go.Proofs.YtnkacfgbkfkhdaaGreat
open Go.RowKit Go.Shelf
set_option linter.unusedVariables false
set_option linter.unusedSimpArgs false
attribute [local go_sem] Oper.semAt_some
/-- What a round keeps: the box of the list, and the list. -/
def KeepsTwo (q b : Nat) (W W' : World) : Prop := W'.heap[q]? = W.heap[q]? ∧ W'.heap[b]? = W.heap[b]?
theorem keepsTwo_t {q b : Nat} {A B C : World} (h : KeepsTwo q b A B) (k : KeepsTwo q b B C) : KeepsTwo q b A C := ⟨k.1.trans h.1, k.2.trans h.2⟩
theorem keepsTwo_b {q b : Nat} {w : World} (hq : q < w.heap.size) (hb : b < w.heap.size) (W : World) (l : Nat) (o o' : Obj) (hl : w.heap.size ≤ l) (_ : W.heap[l]? = some o) (_ : o.isCells = false) (_ : o.isWalk = false) : KeepsTwo q b W (W.putObj l o') :=
  ⟨World.putObj_heap_other (by omega), World.putObj_heap_other (by omega)⟩
theorem cell_same {W W' : World} {b o : Nat} (h : W'.heap[b]? = W.heap[b]?) : W'.cell? ⟨b, o, none⟩ = W.cell? ⟨b, o, none⟩ := World.cell?_of_block (w := W) (w' := W') (a := ⟨b, o, none⟩) h
end Go.Proofs.YtnkacfgbkfkhdaaGreat
namespace Go.Proofs.YtnkacfgbkfkhdaaGreat
open Go.RowKit Go.Shelf
set_option linter.unusedVariables false
set_option linter.unusedSimpArgs false
attribute [local go_sem] Oper.semAt_some
set_option maxRecDepth 100000 in
set_option maxHeartbeats 4000000 in
theorem backA_in (n l q b1 o1 c m : Nat) (a : Option Addr) (xa ya : Nat → Option Addr) (xl xc yl yc : Nat → Nat) (hn : 1 ≤ n) (hc : m ≤ 300) (ha : 0 < m → a = some ⟨b1, o1, none⟩)
    (J Jx : List (Fin m) → World → Prop)
    (hY : ∀ pre x W, J pre W → pre.length < m → YieldAt Fence.wide (n - 1) Tryz.prog l #[.int .i64 ((m - 1 - x.1 : Nat) : Int), .agg #[.slice (xa (m - 1 - x.1)) (xl (m - 1 - x.1)) (xc (m - 1 - x.1)), .slice (ya (m - 1 - x.1)) (yl (m - 1 - x.1)) (yc (m - 1 - x.1))]] W fun e W' =>
      (e = .returned (.bool true) ∧ J (pre ++ [x]) W' ∧ KeepsTwo q b1 W W') ∨ (e = .returned (.bool false) ∧ Jx (pre ++ [x]) W'))
    (W : World) (hJ : AbidesFrom W.heap.size J) (hB : W.cell? ⟨q, 0, none⟩ = some (.slice a m c)) (h0 : ∀ j, j < m → W.cell? ⟨b1, o1 + j * 2, none⟩ = some (.slice (xa j) (xl j) (xc j)) ∧ W.cell? ⟨b1, o1 + j * 2 + 1, none⟩ = some (.slice (ya j) (yl j) (yc j))) (hj : J [] W) :
    CallsIn Fence.wide n Tryz.prog 100 #[.func (.yield l) #[] #[], .pointer (some ⟨q, 0, none⟩)] W fun e W' => (∃ v, e = .returned v) ∧
      ((∃ ys, ys = List.finRange m ∧ J ys W') ∨ (∃ pre, (∃ k, k ≤ m ∧ pre = upto m k) ∧ Jx pre W')) := by
  have HB : Hid (W.cell? ⟨q, 0, none⟩ = some (.slice a m c)) := hB
  have HA : Hid (0 < m → a = some ⟨b1, o1, none⟩) := ha
  have H0 : Hid (∀ j, j < m → W.cell? ⟨b1, o1 + j * 2, none⟩ = some (.slice (xa j) (xl j) (xc j)) ∧ W.cell? ⟨b1, o1 + j * 2 + 1, none⟩ = some (.slice (ya j) (yl j) (yc j))) := h0
  have HJ : Hid (AbidesFrom W.heap.size J) := hJ
  clear h0 hJ ha
  refine callsIn_of_wp Tryz.func100 rfl trivial ?_ rfl
  simp only [Tryz.ntmps100, List.size_toArray, List.length_cons, List.length_nil, Nat.reduceAdd, Nat.reduceSub, Array.replicate_succ, Array.replicate_zero, List.push_toArray, List.append_toArray, List.nil_append, List.cons_append]
  gi_wp2
  clear hB
  gi_loopw [3] (fun i wr => ∃ k : Nat, k ≤ m ∧ i = .int .i64 ((m : Int) - 1 - (k : Int)) ∧ J (upto m k) wr ∧ KeepsTwo q b1 W wr)
    (fun i _ => (intOf i + 1).toNat)
  case atStart => exact ⟨0, by omega, by simp, HJ.out _ _ _ none hj ⟨rfl, rfl, rfl, Nat.le_refl _, fun _ _ _ => rfl⟩ (fun r e => by cases e), rfl, rfl⟩
  case round =>
    obtain ⟨k, hk, rfl, hJs, hnx⟩ := hrel
    have x0 : wr.cell? ⟨q, 0, none⟩ = some (.slice a m c) := (cell_same hnx.1).trans HB.out
    by_cases hlt : (k : Int) < (m : Int)
    · rw [HA.out (by omega)] at x0
      obtain ⟨M, hM⟩ : ∃ M : Nat, M = m - 1 - k := ⟨_, rfl⟩
      have eM : (m : Int) - 1 - (k : Int) = (M : Int) := by omega
      have hMl : (M : Int) < (m : Int) := by omega
      have c1 : wr.cell? ⟨b1, o1 + M * 2, none⟩ = some (.slice (xa M) (xl M) (xc M)) := (cell_same hnx.2).trans (H0.out M (by omega)).1
      have c2 : wr.cell? ⟨b1, o1 + M * 2 + 1, none⟩ = some (.slice (ya M) (yl M) (yc M)) := (cell_same hnx.2).trans (H0.out M (by omega)).2
      have HL : Hid (k < m) := by show _ < _; omega
      have HJS : Hid (J (upto m k) wr) := hJs
      have HNX : Hid (KeepsTwo q b1 W wr) := hnx
      have hY' := hY (upto m k) ⟨k, HL.out⟩
      rw [← hM] at hY'
      have HM : Hid (M = m - 1 - k) := hM
      rw [eM]
      generalize xa M = xaM at *
      generalize xl M = xlM at *
      generalize xc M = xcM at *
      generalize ya M = yaM at *
      generalize yl M = ylM at *
      generalize yc M = ycM at *
      clear hM hJs hnx hY
      obtain ⟨fn, tmps, assign, body, hy, hRd⟩ := hY' wr HJS.out (by rw [upto_length hk]; exact HL.out)
      try dsimp only at hy
      clear hY'
      gi_wp2
      refine hRd.mono ?_
      rintro e' W4 (⟨rfl, hJ4, hk4⟩ | ⟨rfl, hJx4⟩)
      · have HJ4 : Hid (J (upto m (k + 1)) W4) := by show J _ _; rw [upto_succ HL.out]; exact hJ4
        have HK4 : Hid (KeepsTwo q b1 W W4) := keepsTwo_t HNX.out hk4
        clear hJ4 hk4
        gi_wp2
        go_roundw
        case rel => exact ⟨k + 1, by have := HL.out; omega, by first | go_num | (congr 1; omega) | (simp; omega), HJ4.out, HK4.out⟩
        case measure => simp [intOf]
      · have HX : Hid (Jx (upto m (k + 1)) W4) := by show Jx _ _; rw [upto_succ HL.out]; exact hJx4
        clear hJx4
        gi_wp2
        refine bodyPost_ret (results_none rfl _ _ _) rfl ?_
        exact ⟨⟨_, rfl⟩, .inr ⟨_, ⟨k + 1, HL.out, rfl⟩, HX.out⟩⟩
    · obtain rfl : k = m := by omega
      rw [upto_all] at hJs
      have e0 : (k : Int) - 1 - (k : Int) = -1 := by omega
      rw [e0]
      gi_wp2
      go_end0
      first
        | exact ⟨⟨_, rfl⟩, .inl ⟨_, rfl, hJs⟩⟩
        | exact ⟨⟨_, rfl⟩, .inl hJs⟩
/-- slices.Backward: the list is boxed; the function value captures the box. -/
theorem backwardA_in (n : Nat) (v : Value) (w : World) (hv : v.oneCell' = true) :
    CallsIn Fence.wide n Tryz.prog 70 #[v] w fun e w' => e = .returned (.func (.func 100) #[] #[.pointer (some ⟨w.heap.size, 0, none⟩)]) ∧ w' = w.alloc (.cells #[v] 48) := by
  refine callsIn_of_wp Tryz.func70 rfl trivial ?_ rfl
  simp only [Tryz.ntmps70, List.size_toArray, List.length_cons, List.length_nil, Nat.reduceAdd, Nat.reduceSub, Array.replicate_succ, Array.replicate_zero, List.push_toArray, List.append_toArray, List.nil_append, List.cons_append]
  gi_wp2
  go_ret
  exact ⟨rfl, rfl⟩
/-- The value that slices.Backward hands back tells the arrays from the end. -/
theorem backA_stops (n q b1 o1 c m : Nat) (a : Option Addr) (xa ya : Nat → Option Addr) (xl xc yl yc : Nat → Nat) (hn : 1 ≤ n) (hc : m ≤ 300) (ha : 0 < m → a = some ⟨b1, o1, none⟩) (w : World) (hq : q < w.heap.size) (hb1 : b1 < w.heap.size) (hB : w.cell? ⟨q, 0, none⟩ = some (.slice a m c)) (h0 : ∀ j, j < m → w.cell? ⟨b1, o1 + j * 2, none⟩ = some (.slice (xa j) (xl j) (xc j)) ∧ w.cell? ⟨b1, o1 + j * 2 + 1, none⟩ = some (.slice (ya j) (yl j) (yc j))) :
    SeqStopsK Fence.wide n Tryz.prog 100 #[.pointer (some ⟨q, 0, none⟩)] (fun x : Fin m => #[.int .i64 ((m - 1 - x.1 : Nat) : Int), .agg #[.slice (xa (m - 1 - x.1)) (xl (m - 1 - x.1)) (xc (m - 1 - x.1)), .slice (ya (m - 1 - x.1)) (yl (m - 1 - x.1)) (yc (m - 1 - x.1))]]) (KeepsTwo q b1) (fun ys => ys = List.finRange m) (fun pre => ∃ k, k ≤ m ∧ pre = upto m k) m w := fun l J Jx W hW hJ _ hY hj =>
  backA_in n l q b1 o1 c m a xa ya xl xc yl yc hn hc ha J Jx hY W hJ ((hW.cell (p := ⟨q, 0, none⟩) hq).trans hB) (fun j hj => ⟨(hW.cell (p := ⟨b1, o1 + j * 2, none⟩) hb1).trans (h0 j hj).1, (hW.cell (p := ⟨b1, o1 + j * 2 + 1, none⟩) hb1).trans (h0 j hj).2⟩) hj
end Go.Proofs.YtnkacfgbkfkhdaaGreat
