/-
  Walks: the program's cutRows: the rows of an array, told one by one to whatever loop asks for them.
-/
import Derived.RangeFuncNested
import Derived.RangeFuncBound
import Derived.RangeFuncCalls
import Derived.RangeFuncLeaves
import Derived.Shelf.Abstract
import Derived.Shelf.RegionOpen
import Derived.WalkKit
import Derived.OwnWalkIn
import Derived.TacticsInMore
import Derived.LoopNIn
import Derived.LoopIn
import Derived.Test.YthjjjnapcbkhjaaRowsIM
import Derived.Test.YthjjjnapcbkhjaaLaw3
import Derived.Test.YthjjjnapcbkhjaaImplArr3M
import Derived.Deep.RegionHeld3
namespace Go.Proofs.Ythjjjnapcbkhjaa
open Go.RowKit Go.Shelf
set_option linter.unusedVariables false
set_option linter.unusedSimpArgs false
attribute [local go_sem] Oper.semAt_some
theorem wrapJ {a : Int} (h0 : 0 ≤ a) (h1 : a ≤ 1099511627776) : IntKind.i64.wrap a = a := by rw [IntKind.wrap_i64]; omega
/-- The first k numbers. -/
def upto (cnt k : Nat) : List (Fin cnt) := (List.finRange cnt).take k
theorem upto_succ {cnt k : Nat} (h : k < cnt) : upto cnt (k + 1) = upto cnt k ++ [⟨k, h⟩] := by
  unfold upto
  rw [List.take_succ_eq_append_getElem (by simpa using h)]
  simp
theorem upto_length {cnt k : Nat} (h : k ≤ cnt) : (upto cnt k).length = k := by simp [upto, h]
theorem upto_all (cnt : Nat) : upto cnt cnt = List.finRange cnt := by unfold upto; exact List.take_of_length_le (by simp)
/-- What a round keeps: the box of the array that is cut. -/
def KeepsBox (q : Nat) (W W' : World) : Prop := W'.heap[q]? = W.heap[q]?
theorem keepsBox_t {q : Nat} {A B C : World} (h : KeepsBox q A B) (k : KeepsBox q B C) : KeepsBox q A C := Eq.trans k h
theorem keepsBox_b {q : Nat} {w : World} (hq : q < w.heap.size) (W : World) (l : Nat) (o o' : Obj) (hl : w.heap.size ≤ l) (_ : W.heap[l]? = some o) (_ : o.isCells = false) (_ : o.isWalk = false) : KeepsBox q W (W.putObj l o') :=
  World.putObj_heap_other (by omega)
set_option maxRecDepth 100000 in
set_option maxHeartbeats 4000000 in
theorem cut_in (n l q cnt N r b1 o1 c dl e ct : Nat) (tl b : Option Addr) (ad : Nat → Option Addr) (cd : Nat → Nat) (hn : 1 ≤ n) (hc : cnt ≤ 300) (hN : N ≤ 300) (hr : r ≤ 3)
    (hq : 0 < cnt → (dl : Int) / (cnt : Int) = N)
    (hs1 : ∀ W, (Instr.slice 24 (.slice (some ⟨b1, o1, none⟩) (r + 1) c) (some (.int .i64 1)) (some (.int .i64 ((r : Int) + 1))) (some (.int .i64 ((r : Int) + 1)))).run Try.prog W = .ok (.slice tl r ct) W)
    (hs2 : ∀ (k M R : Nat) W, k < cnt → k * N = M → (k + 1) * N = R → (Instr.slice 24 (.slice b dl e) (some (.int .i64 (M : Int))) (some (.int .i64 (R : Int))) (some (.int .i64 (R : Int)))).run Try.prog W = .ok (.slice (ad k) N (cd k)) W)
    (J Jx : List (Fin cnt) → World → Prop)
    (hY : ∀ pre x W, J pre W → pre.length < cnt → YieldAt Fence.wide (n - 1) Try.prog l #[.agg #[.slice tl r ct, .slice (ad x.1) N (cd x.1)]] W fun e W' =>
      (e = .returned (.bool true) ∧ J (pre ++ [x]) W' ∧ KeepsBox q W W') ∨ (e = .returned (.bool false) ∧ Jx (pre ++ [x]) W'))
    (W : World) (hJ : AbidesFrom W.heap.size J) (hB : Box W q (.slice (some ⟨b1, o1, none⟩) (r + 1) c) (.slice b dl e) 26) (h0 : W.cell? ⟨b1, o1, none⟩ = some (.int .i64 (cnt : Int))) (hj : J [] W) :
    CallsIn Fence.wide n Try.prog 94 #[.func (.yield l) #[] #[], .pointer (some ⟨q, 0, none⟩)] W fun e W' => (∃ v, e = .returned v) ∧
      ((∃ ys, ys = List.finRange cnt ∧ J ys W') ∨ (∃ pre, True ∧ Jx pre W')) := by
  have HB : Hid (Box W q (.slice (some ⟨b1, o1, none⟩) (r + 1) c) (.slice b dl e) 26) := hB
  have x0 := hB.c0
  have x1 := hB.c1
  clear hB
  refine callsIn_of_wp Try.func94 rfl trivial ?_ rfl
  simp only [Try.ntmps94, List.size_toArray, List.length_cons, List.length_nil, Nat.reduceAdd, Nat.reduceSub, Array.replicate_succ, Array.replicate_zero, List.push_toArray, List.append_toArray, List.nil_append, List.cons_append]
  gi_wp2
  gi_region
  gi_wp2
  have HQ : Hid (0 < cnt → (dl : Int) / (cnt : Int) = N) := hq
  have HS2 : Hid (∀ (k M R : Nat) W, k < cnt → k * N = M → (k + 1) * N = R → (Instr.slice 24 (.slice b dl e) (some (.int .i64 (M : Int))) (some (.int .i64 (R : Int))) (some (.int .i64 (R : Int)))).run Try.prog W = .ok (.slice (ad k) N (cd k)) W) := hs2
  have HJ : Hid (AbidesFrom W.heap.size J) := hJ
  clear hq hs2 x0 x1 hJ
  gi_loopw [18] (fun i wr => ∃ k : Nat, k ≤ cnt ∧ i = .int .i64 k ∧ J (upto cnt k) wr ∧ KeepsBox q W wr)
    (fun i _ => cnt - (intOf i).toNat)
  case atStart => exact ⟨0, by omega, rfl, HJ.out _ _ _ none hj ⟨rfl, rfl, rfl, Nat.le_refl _, fun _ _ _ => rfl⟩ (fun r e => by cases e), rfl⟩
  case round =>
    obtain ⟨k, hk, rfl, hJs, hnx⟩ := hrel
    have X : Hid (Box wr q (.slice (some ⟨b1, o1, none⟩) (r + 1) c) (.slice b dl e) 26) := by
      have := HB.out; unfold Box at this; show wr.heap[q]? = _; rw [show wr.heap[q]? = W.heap[q]? from hnx]; exact this
    by_cases hlt : (k : Int) < (cnt : Int)
    · obtain ⟨M, hM⟩ : ∃ M : Nat, k * N = M := ⟨_, rfl⟩
      obtain ⟨R, hR⟩ : ∃ R : Nat, (k + 1) * N = R := ⟨_, rfl⟩
      have hs2 := fun W => HS2.out k M R W (by omega) hM hR
      have hR1 : R ≤ 90000 := by
        have h1 : (k + 1) * N ≤ 300 * 300 := Nat.mul_le_mul (by omega) hN
        omega
      have hM1 : M ≤ 90000 := by
        have h1 : k * N ≤ 300 * 300 := Nat.mul_le_mul (by omega) hN
        omega
      have eM : (k : Int) * (N : Int) = (M : Int) := by rw [← hM]; simp
      have eR : ((k : Int) + 1) * (N : Int) = (R : Int) := by rw [← hR]; simp
      have hwM : IntKind.i64.wrap (M : Int) = (M : Int) := wrapJ (by omega) (by omega)
      have hwR : IntKind.i64.wrap (R : Int) = (R : Int) := wrapJ (by omega) (by omega)
      have hdv : (dl : Int) / (cnt : Int) = N := HQ.out (by omega)
      have hpos : (0 : Int) < (cnt : Int) := by omega
      have HL : Hid (k < cnt) := by show _ < _; omega
      have x0 := X.out.c0
      have x1 := X.out.c1
      have HJS : Hid (J (upto cnt k) wr) := hJs
      have HNX : Hid (KeepsBox q W wr) := hnx
      clear hM hR hJs hnx
      have d0 : ∀ O : Obj, (wr.alloc O).drew.cell? ⟨q, 0, none⟩ = some (.slice (some ⟨b1, o1, none⟩) (r + 1) c) := fun O => (X.out.keep (bAlloc (Below.refl _ _) O)).c0
      have d1 : ∀ O : Obj, (wr.alloc O).drew.cell? ⟨q, 1, none⟩ = some (.slice b dl e) := fun O => (X.out.keep (bAlloc (Below.refl _ _) O)).c1
      gi_wp2
      gi_region
      generalize hW3 : (wr.alloc (.cells #[.slice tl r ct, .slice (ad k) N (cd k)] 26)).drew = W3
      have hJ3 : J (upto cnt k) W3 := by
        rw [← hW3]
        exact HJ.out _ _ _ none HJS.out ⟨rfl, rfl, rfl, by show wr.heap.size ≤ (wr.alloc _).heap.size; simp, fun j hj _ => Below.heap_alloc _ _ _ hj⟩ (fun r e => by cases e)
      have y0 : W3.cell? ⟨wr.heap.size, 0, none⟩ = some (.slice tl r ct) := by rw [← hW3]; exact cell_newA _ _ _ rfl
      have y1 : W3.cell? ⟨wr.heap.size, 1, none⟩ = some (.slice (ad k) N (cd k)) := by rw [← hW3]; exact cell_newA _ _ _ rfl
      have HK3 : Hid (KeepsBox q W W3) := keepsBox_t HNX.out (by rw [← hW3]; exact Below.heap_alloc _ _ _ X.out.lt)
      clear hW3 d0 d1
      obtain ⟨fn, tmps, assign, body, hy, hRd⟩ := hY (upto cnt k) ⟨k, HL.out⟩ W3 hJ3 (by rw [upto_length hk]; exact HL.out)
      dsimp only at hy
      clear hY
      gi_wp2
      refine hRd.mono ?_
      rintro e' W4 (⟨rfl, hJ4, hk4⟩ | ⟨rfl, hJx4⟩)
      · have HJ4 : Hid (J (upto cnt (k + 1)) W4) := by show J _ _; rw [upto_succ HL.out]; exact hJ4
        have HK4 : Hid (KeepsBox q W W4) := keepsBox_t HK3.out hk4
        clear hJ4 hk4
        gi_wp2
        go_roundw
        case rel => exact ⟨k + 1, by have := HL.out; omega, by go_num, HJ4.out, HK4.out⟩
        case measure => simp [intOf]; omega
      · gi_wp2
        refine bodyPost_ret (results_none rfl _ _ _) rfl ?_
        exact ⟨⟨_, rfl⟩, .inr ⟨_, trivial, hJx4⟩⟩
    · obtain rfl : k = cnt := by omega
      rw [upto_all] at hJs
      gi_wp2
      go_end0
      first
        | exact ⟨⟨_, rfl⟩, .inl ⟨_, rfl, hJs⟩⟩
        | exact ⟨⟨_, rfl⟩, .inl hJs⟩
/-- cutRows: the array is boxed; the function value captures the box. -/
theorem cutRows_in (n : Nat) (x y : Value) (w : World) (hx : x.oneCell' = true) (hy : y.oneCell' = true) :
    CallsIn Fence.wide n Try.prog 59 #[.agg #[x, y]] w fun e w' => e = .returned (.func (.func 94) #[] #[.pointer (some ⟨w.heap.size, 0, none⟩)]) ∧ w' = w.alloc (.cells #[x, y] 26) := by
  refine callsIn_of_wp Try.func59 rfl trivial ?_ rfl
  simp only [Try.ntmps59, List.size_toArray, List.length_cons, List.length_nil, Nat.reduceAdd, Nat.reduceSub, Array.replicate_succ, Array.replicate_zero, List.push_toArray, List.append_toArray, List.nil_append, List.cons_append]
  gi_wp2
  go_ret
  exact ⟨rfl, rfl⟩
/-- The value that cutRows hands back tells the rows in order. -/
theorem cut_stops (n q cnt N r b1 o1 c dl e ct : Nat) (tl b : Option Addr) (ad : Nat → Option Addr) (cd : Nat → Nat) (hn : 1 ≤ n) (hc : cnt ≤ 300) (hN : N ≤ 300) (hr : r ≤ 3)
    (hq : 0 < cnt → (dl : Int) / (cnt : Int) = N)
    (hs1 : ∀ W, (Instr.slice 24 (.slice (some ⟨b1, o1, none⟩) (r + 1) c) (some (.int .i64 1)) (some (.int .i64 ((r : Int) + 1))) (some (.int .i64 ((r : Int) + 1)))).run Try.prog W = .ok (.slice tl r ct) W)
    (hs2 : ∀ (k M R : Nat) W, k < cnt → k * N = M → (k + 1) * N = R → (Instr.slice 24 (.slice b dl e) (some (.int .i64 (M : Int))) (some (.int .i64 (R : Int))) (some (.int .i64 (R : Int)))).run Try.prog W = .ok (.slice (ad k) N (cd k)) W)
    (w : World) (hb1 : b1 < w.heap.size) (hB : Box w q (.slice (some ⟨b1, o1, none⟩) (r + 1) c) (.slice b dl e) 26) (h0 : w.cell? ⟨b1, o1, none⟩ = some (.int .i64 (cnt : Int))) :
    SeqStopsK Fence.wide n Try.prog 94 #[.pointer (some ⟨q, 0, none⟩)] (fun x : Fin cnt => #[.agg #[.slice tl r ct, .slice (ad x.1) N (cd x.1)]]) (KeepsBox q) (fun ys => ys = List.finRange cnt) (fun _ => True) cnt w := fun l J Jx W hW hJ _ hY hj =>
  cut_in n l q cnt N r b1 o1 c dl e ct tl b ad cd hn hc hN hr hq hs1 hs2 J Jx hY W hJ (hB.keep hW) ((hW.cell (p := ⟨b1, o1, none⟩) hb1).trans h0) hj
end Go.Proofs.Ythjjjnapcbkhjaa
namespace Go.Proofs.Ythjjjnapcbkhjaa
open Go.RowKit Go.Shelf
set_option linter.unusedVariables false
set_option linter.unusedSimpArgs false
attribute [local go_sem] Oper.semAt_some
/-- What a round keeps: the box of the list, and the list. -/
def KeepsTwo (q b : Nat) (W W' : World) : Prop := W'.heap[q]? = W.heap[q]? ∧ W'.heap[b]? = W.heap[b]?
theorem keepsTwo_t {q b : Nat} {A B C : World} (h : KeepsTwo q b A B) (k : KeepsTwo q b B C) : KeepsTwo q b A C := ⟨k.1.trans h.1, k.2.trans h.2⟩
theorem keepsTwo_b {q b : Nat} {w : World} (hq : q < w.heap.size) (hb : b < w.heap.size) (W : World) (l : Nat) (o o' : Obj) (hl : w.heap.size ≤ l) (_ : W.heap[l]? = some o) (_ : o.isCells = false) (_ : o.isWalk = false) : KeepsTwo q b W (W.putObj l o') :=
  ⟨World.putObj_heap_other (by omega), World.putObj_heap_other (by omega)⟩
theorem cell_same {W W' : World} {b o : Nat} (h : W'.heap[b]? = W.heap[b]?) : W'.cell? ⟨b, o, none⟩ = W.cell? ⟨b, o, none⟩ := World.cell?_of_block (w := W) (w' := W') (a := ⟨b, o, none⟩) h
set_option maxRecDepth 100000 in
set_option maxHeartbeats 4000000 in
theorem back_in (n l q b1 o1 c : Nat) (a : Option Addr) (d : List Int) (hn : 1 ≤ n) (hc : d.length ≤ 300) (ha : 0 < d.length → a = some ⟨b1, o1, none⟩)
    (J Jx : List (Fin d.length) → World → Prop)
    (hY : ∀ pre x W, J pre W → pre.length < d.length → YieldAt Fence.wide (n - 1) Try.prog l #[.int .i64 ((d.length - 1 - x.1 : Nat) : Int), .int .i64 (d.getD (d.length - 1 - x.1) 0)] W fun e W' =>
      (e = .returned (.bool true) ∧ J (pre ++ [x]) W' ∧ KeepsTwo q b1 W W') ∨ (e = .returned (.bool false) ∧ Jx (pre ++ [x]) W'))
    (W : World) (hJ : AbidesFrom W.heap.size J) (hB : W.cell? ⟨q, 0, none⟩ = some (.slice a d.length c)) (h0 : ∀ j, j < d.length → W.cell? ⟨b1, o1 + j, none⟩ = some (.int .i64 (d.getD j 0))) (hj : J [] W) :
    CallsIn Fence.wide n Try.prog 98 #[.func (.yield l) #[] #[], .pointer (some ⟨q, 0, none⟩)] W fun e W' => (∃ v, e = .returned v) ∧
      ((∃ ys, ys = List.finRange d.length ∧ J ys W') ∨ (∃ pre, True ∧ Jx pre W')) := by
  have HB : Hid (W.cell? ⟨q, 0, none⟩ = some (.slice a d.length c)) := hB
  have HA : Hid (0 < d.length → a = some ⟨b1, o1, none⟩) := ha
  have H0 : Hid (∀ j, j < d.length → W.cell? ⟨b1, o1 + j, none⟩ = some (.int .i64 (d.getD j 0))) := h0
  have HJ : Hid (AbidesFrom W.heap.size J) := hJ
  clear h0 hJ ha
  refine callsIn_of_wp Try.func98 rfl trivial ?_ rfl
  simp only [Try.ntmps98, List.size_toArray, List.length_cons, List.length_nil, Nat.reduceAdd, Nat.reduceSub, Array.replicate_succ, Array.replicate_zero, List.push_toArray, List.append_toArray, List.nil_append, List.cons_append]
  gi_wp2
  clear hB
  gi_loopw [3] (fun i wr => ∃ k : Nat, k ≤ d.length ∧ i = .int .i64 ((d.length : Int) - 1 - (k : Int)) ∧ J (upto d.length k) wr ∧ KeepsTwo q b1 W wr)
    (fun i _ => (intOf i + 1).toNat)
  case atStart => exact ⟨0, by omega, by simp, HJ.out _ _ _ none hj ⟨rfl, rfl, rfl, Nat.le_refl _, fun _ _ _ => rfl⟩ (fun r e => by cases e), rfl, rfl⟩
  case round =>
    obtain ⟨k, hk, rfl, hJs, hnx⟩ := hrel
    have x0 : wr.cell? ⟨q, 0, none⟩ = some (.slice a d.length c) := (cell_same hnx.1).trans HB.out
    by_cases hlt : (k : Int) < (d.length : Int)
    · rw [HA.out (by omega)] at x0
      obtain ⟨M, hM⟩ : ∃ M : Nat, M = d.length - 1 - k := ⟨_, rfl⟩
      have eM : (d.length : Int) - 1 - (k : Int) = (M : Int) := by omega
      have hMl : (M : Int) < (d.length : Int) := by omega
      have c1 : wr.cell? ⟨b1, o1 + M, none⟩ = some (.int .i64 (d.getD M 0)) := (cell_same hnx.2).trans (H0.out M (by omega))
      have HL : Hid (k < d.length) := by show _ < _; omega
      have HJS : Hid (J (upto d.length k) wr) := hJs
      have HNX : Hid (KeepsTwo q b1 W wr) := hnx
      have hY' := hY (upto d.length k) ⟨k, HL.out⟩
      rw [← hM] at hY'
      have HM : Hid (M = d.length - 1 - k) := hM
      rw [eM]
      generalize d.getD M 0 = y at *
      clear hM hJs hnx hY
      obtain ⟨fn, tmps, assign, body, hy, hRd⟩ := hY' wr HJS.out (by rw [upto_length hk]; exact HL.out)
      try dsimp only at hy
      clear hY'
      gi_wp2
      refine hRd.mono ?_
      rintro e' W4 (⟨rfl, hJ4, hk4⟩ | ⟨rfl, hJx4⟩)
      · have HJ4 : Hid (J (upto d.length (k + 1)) W4) := by show J _ _; rw [upto_succ HL.out]; exact hJ4
        have HK4 : Hid (KeepsTwo q b1 W W4) := keepsTwo_t HNX.out hk4
        clear hJ4 hk4
        gi_wp2
        go_roundw
        case rel => exact ⟨k + 1, by have := HL.out; omega, by first | go_num | (congr 1; omega) | (simp; omega), HJ4.out, HK4.out⟩
        case measure => simp [intOf]
      · gi_wp2
        refine bodyPost_ret (results_none rfl _ _ _) rfl ?_
        exact ⟨⟨_, rfl⟩, .inr ⟨_, trivial, hJx4⟩⟩
    · obtain rfl : k = d.length := by omega
      rw [upto_all] at hJs
      have e0 : (d.length : Int) - 1 - (d.length : Int) = -1 := by omega
      rw [e0]
      gi_wp2
      go_end0
      first
        | exact ⟨⟨_, rfl⟩, .inl ⟨_, rfl, hJs⟩⟩
        | exact ⟨⟨_, rfl⟩, .inl hJs⟩
/-- slices.Backward: the list is boxed; the function value captures the box. -/
theorem backward_in (n : Nat) (v : Value) (w : World) (hv : v.oneCell' = true) :
    CallsIn Fence.wide n Try.prog 85 #[v] w fun e w' => e = .returned (.func (.func 98) #[] #[.pointer (some ⟨w.heap.size, 0, none⟩)]) ∧ w' = w.alloc (.cells #[v] 24) := by
  refine callsIn_of_wp Try.func85 rfl trivial ?_ rfl
  simp only [Try.ntmps85, List.size_toArray, List.length_cons, List.length_nil, Nat.reduceAdd, Nat.reduceSub, Array.replicate_succ, Array.replicate_zero, List.push_toArray, List.append_toArray, List.nil_append, List.cons_append]
  gi_wp2
  go_ret
  exact ⟨rfl, rfl⟩
/-- The value that slices.Backward hands back tells the numbers from the end. -/
theorem back_stops (n q b1 o1 c : Nat) (a : Option Addr) (d : List Int) (hn : 1 ≤ n) (hc : d.length ≤ 300) (ha : 0 < d.length → a = some ⟨b1, o1, none⟩) (w : World) (hq : q < w.heap.size) (hb1 : b1 < w.heap.size) (hB : w.cell? ⟨q, 0, none⟩ = some (.slice a d.length c)) (h0 : ∀ j, j < d.length → w.cell? ⟨b1, o1 + j, none⟩ = some (.int .i64 (d.getD j 0))) :
    SeqStopsK Fence.wide n Try.prog 98 #[.pointer (some ⟨q, 0, none⟩)] (fun x : Fin d.length => #[.int .i64 ((d.length - 1 - x.1 : Nat) : Int), .int .i64 (d.getD (d.length - 1 - x.1) 0)]) (KeepsTwo q b1) (fun ys => ys = List.finRange d.length) (fun _ => True) d.length w := fun l J Jx W hW hJ _ hY hj =>
  back_in n l q b1 o1 c a d hn hc ha J Jx hY W hJ ((hW.cell (p := ⟨q, 0, none⟩) hq).trans hB) (fun j hj => (hW.cell (p := ⟨b1, o1 + j, none⟩) hb1).trans (h0 j hj)) hj
end Go.Proofs.Ythjjjnapcbkhjaa
namespace Go.Proofs.Ythjjjnapcbkhjaa
open Go.RowKit Go.Shelf
set_option linter.unusedVariables false
set_option linter.unusedSimpArgs false
theorem op_in {P : Program} {ops : Array Oper} {Q : Exit → Act → World → Prop} {l n i : Nat} (hQ : ¬ LetsOut Q) (hd : ∀ (i : Nat) (o : Oper), ops[i]? = some o → ∀ c, o.op ≠ Op.defer c) {K K' : Act → World → Prop} (hK : ∀ a w, K a w → K' a w) {a : Act} {w : World} (h : wpOp P ops Q i K a w) :
    wpOpIn (Fence.wide.inRound l) n P ops Q i K' a w := by
  unfold wpOp at h
  unfold wpOpIn
  cases hi : ops[i]? with
  | none => rw [hi] at h; exact hK _ _ h
  | some o =>
    rw [hi] at h
    dsimp only at h ⊢
    by_cases hw : Region.wanted o (yielded ops a.tmps) = true
    · rw [if_pos hw] at h ⊢
      rcases h with h | ⟨_, h⟩
      · refine ⟨fun _ _ => trivial, ?_⟩
        rw [show (Fence.wide.inRound l).round = some l from rfl, Oper.semAt_some l _ _ (hd i o hi)]
        unfold Oper.wp at h
        generalize (execOp a.eval o).run P w = r at h ⊢
        cases r with
        | ok x w' =>
          cases x with
          | value v => exact hK _ _ h
          | skip => exact hK _ _ h
          | defer d => exact hK _ _ h
          | enter f args =>
            refine And.intro (fun q => (by cases q)) (CallsIn.inRound l (callsIn_wide.2 (Calls.mono h ?_)))
            intro e w'' he
            cases e with
            | returned v => exact hK _ _ he
            | panicked c => exact he
            | outgrown => exact he
          | row row args =>
            refine And.intro (fun q => (by cases q)) (fun c cs _ => ?_)
            obtain ⟨v, w3, q, s⟩ := h c cs
            exact ⟨v, w3, hK _ _ q, stepsIn_wide.2 s⟩
          | _ => exact False.elim h
        | halt x w' =>
          cases x <;> exact h
      · exact absurd h hQ
    · rw [if_neg hw] at h ⊢
      exact ⟨fun _ _ => trivial, hK _ _ h⟩
theorem any_in {P : Program} {md : Region.Mode} {ops : Array Oper} {Q : Exit → Act → World → Prop} {l n : Nat} (hQ : ¬ LetsOut Q) (hd : ∀ (i : Nat) (o : Oper), ops[i]? = some o → ∀ c, o.op ≠ Op.defer c) :
    ∀ (fuel : Nat) (listed : Array Bool) (a : Act) (w : World), wpAny P md ops Q fuel listed a w → wpAnyIn (Fence.wide.inRound l) n P md ops Q fuel listed a w := by
  intro fuel
  induction fuel with
  | zero => intro listed a w h; exact h
  | succ fuel ih =>
    intro listed a w h
    exact ⟨h.1, fun i hi => op_in hQ hd (fun a w q => ih _ a w q) (h.2 i hi)⟩
/-- The beginning of such a region, under a condition that holds throughout. -/
theorem region_in {P : Program} {ops : Array Oper} {Q : Exit → Act → World → Prop} {S : World → Prop} {l n id : Nat} {a : Act} {w : World} (hQ : ¬ LetsOut Q) (hd : ∀ (i : Nat) (o : Oper), ops[i]? = some o → ∀ c, o.op ≠ Op.defer c) (hm : P.follows .mixedOrders = true) (hS : S w.drew)
    (h : S w.drew → wpAnyH P .any ops Q S ops.size (Array.replicate ops.size false) a w.drew) : (Code.region id ops true).wpIn (Fence.wide.inRound l) n P Q a w :=
  wpIn_region_any hm (any_in hQ hd _ _ _ _ (wpAny_of_held _ _ _ _ (h hS)))
def noDefer (o : Oper) : Bool := match o.op with | .defer _ => false | _ => true
theorem noDefer_spec {ops : Array Oper} (h : ops.all noDefer = true) : ∀ (i : Nat) (o : Oper), ops[i]? = some o → ∀ c, o.op ≠ Op.defer c := by
  intro i o hi c e
  have hm : o ∈ ops := Array.mem_of_getElem? hi
  have := (Array.all_eq_true_iff_forall_mem.1 h) o hm
  unfold noDefer at this
  rw [e] at this
  cases this
end Go.Proofs.Ythjjjnapcbkhjaa
