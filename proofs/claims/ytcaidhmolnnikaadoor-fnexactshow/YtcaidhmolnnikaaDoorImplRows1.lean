/-
  Walks: the program's cutRows: the rows of an array, told one by one to whatever loop asks for them.
-/
import Derived.RangeFuncNested
import Derived.RangeFuncBound
import Derived.RangeFuncCalls
import Derived.RangeFuncLeaves
import Derived.Shelf.Abstract
import Derived.Shelf.RegionOpen
import Derived.WalkKit
import Derived.OwnWalkIn
import Derived.TacticsInMore
import Derived.LoopNIn
import Derived.LoopIn
import Derived.Test.YtcaidhmolnnikaaDoorRowsI
import Derived.Test.YtcaidhmolnnikaaDoorLaw3
import Derived.Test.YtcaidhmolnnikaaDoorImplArr3
namespace Go.Proofs.YtcaidhmolnnikaaDoor
open Go.RowKit Go.Shelf
set_option linter.unusedVariables false
set_option linter.unusedSimpArgs false
attribute [local go_sem] Oper.semAt_some
theorem wrapJ {a : Int} (h0 : 0 ≤ a) (h1 : a ≤ 1099511627776) : IntKind.i64.wrap a = a := by rw [IntKind.wrap_i64]; omega
/-- The first k numbers. -/
def upto (cnt k : Nat) : List (Fin cnt) := (List.finRange cnt).take k
theorem upto_succ {cnt k : Nat} (h : k < cnt) : upto cnt (k + 1) = upto cnt k ++ [⟨k, h⟩] := by
  unfold upto
  rw [List.take_succ_eq_append_getElem (by simpa using h)]
  simp
theorem upto_length {cnt k : Nat} (h : k ≤ cnt) : (upto cnt k).length = k := by simp [upto, h]
theorem upto_all (cnt : Nat) : upto cnt cnt = List.finRange cnt := by unfold upto; exact List.take_of_length_le (by simp)
/-- What a round keeps: the box of the array that is cut. -/
def KeepsBox (q : Nat) (W W' : World) : Prop := W'.heap[q]? = W.heap[q]?
theorem keepsBox_t {q : Nat} {A B C : World} (h : KeepsBox q A B) (k : KeepsBox q B C) : KeepsBox q A C := Eq.trans k h
theorem keepsBox_b {q : Nat} {w : World} (hq : q < w.heap.size) (W : World) (l : Nat) (o o' : Obj) (hl : w.heap.size ≤ l) (_ : W.heap[l]? = some o) (_ : o.isCells = false) (_ : o.isWalk = false) : KeepsBox q W (W.putObj l o') :=
  World.putObj_heap_other (by omega)
set_option maxRecDepth 100000 in
set_option maxHeartbeats 4000000 in
theorem cut_in (n l q cnt N r b1 o1 c dl e ct : Nat) (tl b : Option Addr) (ad : Nat → Option Addr) (cd : Nat → Nat) (hn : 1 ≤ n) (hc : cnt ≤ 300) (hN : N ≤ 300) (hr : r ≤ 3)
    (hq : 0 < cnt → (dl : Int) / (cnt : Int) = N)
    (hs1 : ∀ W, (Instr.slice 22 (.slice (some ⟨b1, o1, none⟩) (r + 1) c) (some (.int .i64 1)) (some (.int .i64 ((r : Int) + 1))) (some (.int .i64 ((r : Int) + 1)))).run Tryd.prog W = .ok (.slice tl r ct) W)
    (hs2 : ∀ (k M R : Nat) W, k < cnt → k * N = M → (k + 1) * N = R → (Instr.slice 22 (.slice b dl e) (some (.int .i64 (M : Int))) (some (.int .i64 (R : Int))) (some (.int .i64 (R : Int)))).run Tryd.prog W = .ok (.slice (ad k) N (cd k)) W)
    (J Jx : List (Fin cnt) → World → Prop)
    (hY : ∀ pre x W, J pre W → pre.length < cnt → YieldAt Fence.wide (n - 1) Tryd.prog l #[.agg #[.slice tl r ct, .slice (ad x.1) N (cd x.1)]] W fun e W' =>
      (e = .returned (.bool true) ∧ J (pre ++ [x]) W' ∧ KeepsBox q W W') ∨ (e = .returned (.bool false) ∧ Jx (pre ++ [x]) W'))
    (W : World) (hJ : AbidesFrom W.heap.size J) (hB : Box W q (.slice (some ⟨b1, o1, none⟩) (r + 1) c) (.slice b dl e) 27) (h0 : W.cell? ⟨b1, o1, none⟩ = some (.int .i64 (cnt : Int))) (hj : J [] W) :
    CallsIn Fence.wide n Tryd.prog 90 #[.func (.yield l) #[] #[], .pointer (some ⟨q, 0, none⟩)] W fun e W' => (∃ v, e = .returned v) ∧
      ((∃ ys, ys = List.finRange cnt ∧ J ys W') ∨ (∃ pre, True ∧ Jx pre W')) := by
  have HB : Hid (Box W q (.slice (some ⟨b1, o1, none⟩) (r + 1) c) (.slice b dl e) 27) := hB
  have x0 := hB.c0
  have x1 := hB.c1
  clear hB
  refine callsIn_of_wp Tryd.func90 rfl trivial ?_ rfl
  simp only [Tryd.ntmps90, List.size_toArray, List.length_cons, List.length_nil, Nat.reduceAdd, Nat.reduceSub, Array.replicate_succ, Array.replicate_zero, List.push_toArray, List.append_toArray, List.nil_append, List.cons_append]
  gi_wp2
  gi_region
  gi_wp2
  have HQ : Hid (0 < cnt → (dl : Int) / (cnt : Int) = N) := hq
  have HS2 : Hid (∀ (k M R : Nat) W, k < cnt → k * N = M → (k + 1) * N = R → (Instr.slice 22 (.slice b dl e) (some (.int .i64 (M : Int))) (some (.int .i64 (R : Int))) (some (.int .i64 (R : Int)))).run Tryd.prog W = .ok (.slice (ad k) N (cd k)) W) := hs2
  have HJ : Hid (AbidesFrom W.heap.size J) := hJ
  clear hq hs2 x0 x1 hJ
  gi_loopw [18] (fun i wr => ∃ k : Nat, k ≤ cnt ∧ i = .int .i64 k ∧ J (upto cnt k) wr ∧ KeepsBox q W wr)
    (fun i _ => cnt - (intOf i).toNat)
  case atStart => exact ⟨0, by omega, rfl, HJ.out _ _ _ none hj ⟨rfl, rfl, rfl, Nat.le_refl _, fun _ _ _ => rfl⟩ (fun r e => by cases e), rfl⟩
  case round =>
    obtain ⟨k, hk, rfl, hJs, hnx⟩ := hrel
    have X : Hid (Box wr q (.slice (some ⟨b1, o1, none⟩) (r + 1) c) (.slice b dl e) 27) := by
      have := HB.out; unfold Box at this; show wr.heap[q]? = _; rw [show wr.heap[q]? = W.heap[q]? from hnx]; exact this
    by_cases hlt : (k : Int) < (cnt : Int)
    · obtain ⟨M, hM⟩ : ∃ M : Nat, k * N = M := ⟨_, rfl⟩
      obtain ⟨R, hR⟩ : ∃ R : Nat, (k + 1) * N = R := ⟨_, rfl⟩
      have hs2 := fun W => HS2.out k M R W (by omega) hM hR
      have hR1 : R ≤ 90000 := by
        have h1 : (k + 1) * N ≤ 300 * 300 := Nat.mul_le_mul (by omega) hN
        omega
      have hM1 : M ≤ 90000 := by
        have h1 : k * N ≤ 300 * 300 := Nat.mul_le_mul (by omega) hN
        omega
      have eM : (k : Int) * (N : Int) = (M : Int) := by rw [← hM]; simp
      have eR : ((k : Int) + 1) * (N : Int) = (R : Int) := by rw [← hR]; simp
      have hwM : IntKind.i64.wrap (M : Int) = (M : Int) := wrapJ (by omega) (by omega)
      have hwR : IntKind.i64.wrap (R : Int) = (R : Int) := wrapJ (by omega) (by omega)
      have hdv : (dl : Int) / (cnt : Int) = N := HQ.out (by omega)
      have hpos : (0 : Int) < (cnt : Int) := by omega
      have HL : Hid (k < cnt) := by show _ < _; omega
      have x0 := X.out.c0
      have x1 := X.out.c1
      have HJS : Hid (J (upto cnt k) wr) := hJs
      have HNX : Hid (KeepsBox q W wr) := hnx
      clear hM hR hJs hnx
      have d0 : ∀ O : Obj, (wr.alloc O).drew.cell? ⟨q, 0, none⟩ = some (.slice (some ⟨b1, o1, none⟩) (r + 1) c) := fun O => (X.out.keep (bAlloc (Below.refl _ _) O)).c0
      have d1 : ∀ O : Obj, (wr.alloc O).drew.cell? ⟨q, 1, none⟩ = some (.slice b dl e) := fun O => (X.out.keep (bAlloc (Below.refl _ _) O)).c1
      gi_wp2
      gi_region
      generalize hW3 : (wr.alloc (.cells #[.slice tl r ct, .slice (ad k) N (cd k)] 27)).drew = W3
      have hJ3 : J (upto cnt k) W3 := by
        rw [← hW3]
        exact HJ.out _ _ _ none HJS.out ⟨rfl, rfl, rfl, by show wr.heap.size ≤ (wr.alloc _).heap.size; simp, fun j hj _ => Below.heap_alloc _ _ _ hj⟩ (fun r e => by cases e)
      have y0 : W3.cell? ⟨wr.heap.size, 0, none⟩ = some (.slice tl r ct) := by rw [← hW3]; exact cell_newA _ _ _ rfl
      have y1 : W3.cell? ⟨wr.heap.size, 1, none⟩ = some (.slice (ad k) N (cd k)) := by rw [← hW3]; exact cell_newA _ _ _ rfl
      have HK3 : Hid (KeepsBox q W W3) := keepsBox_t HNX.out (by rw [← hW3]; exact Below.heap_alloc _ _ _ X.out.lt)
      clear hW3 d0 d1
      obtain ⟨fn, tmps, assign, body, hy, hRd⟩ := hY (upto cnt k) ⟨k, HL.out⟩ W3 hJ3 (by rw [upto_length hk]; exact HL.out)
      dsimp only at hy
      clear hY
      gi_wp2
      refine hRd.mono ?_
      rintro e' W4 (⟨rfl, hJ4, hk4⟩ | ⟨rfl, hJx4⟩)
      · have HJ4 : Hid (J (upto cnt (k + 1)) W4) := by show J _ _; rw [upto_succ HL.out]; exact hJ4
        have HK4 : Hid (KeepsBox q W W4) := keepsBox_t HK3.out hk4
        clear hJ4 hk4
        gi_wp2
        go_roundw
        case rel => exact ⟨k + 1, by have := HL.out; omega, by go_num, HJ4.out, HK4.out⟩
        case measure => simp [intOf]; omega
      · gi_wp2
        refine bodyPost_ret (results_none rfl _ _ _) rfl ?_
        exact ⟨⟨_, rfl⟩, .inr ⟨_, trivial, hJx4⟩⟩
    · obtain rfl : k = cnt := by omega
      rw [upto_all] at hJs
      gi_wp2
      go_end0
      first
        | exact ⟨⟨_, rfl⟩, .inl ⟨_, rfl, hJs⟩⟩
        | exact ⟨⟨_, rfl⟩, .inl hJs⟩
/-- cutRows: the array is boxed; the function value captures the box. -/
theorem cutRows_in (n : Nat) (x y : Value) (w : World) (hx : x.oneCell' = true) (hy : y.oneCell' = true) :
    CallsIn Fence.wide n Tryd.prog 67 #[.agg #[x, y]] w fun e w' => e = .returned (.func (.func 90) #[] #[.pointer (some ⟨w.heap.size, 0, none⟩)]) ∧ w' = w.alloc (.cells #[x, y] 27) := by
  refine callsIn_of_wp Tryd.func67 rfl trivial ?_ rfl
  simp only [Tryd.ntmps67, List.size_toArray, List.length_cons, List.length_nil, Nat.reduceAdd, Nat.reduceSub, Array.replicate_succ, Array.replicate_zero, List.push_toArray, List.append_toArray, List.nil_append, List.cons_append]
  gi_wp2
  go_ret
  exact ⟨rfl, rfl⟩
/-- The value that cutRows hands back tells the rows in order. -/
theorem cut_stops (n q cnt N r b1 o1 c dl e ct : Nat) (tl b : Option Addr) (ad : Nat → Option Addr) (cd : Nat → Nat) (hn : 1 ≤ n) (hc : cnt ≤ 300) (hN : N ≤ 300) (hr : r ≤ 3)
    (hq : 0 < cnt → (dl : Int) / (cnt : Int) = N)
    (hs1 : ∀ W, (Instr.slice 22 (.slice (some ⟨b1, o1, none⟩) (r + 1) c) (some (.int .i64 1)) (some (.int .i64 ((r : Int) + 1))) (some (.int .i64 ((r : Int) + 1)))).run Tryd.prog W = .ok (.slice tl r ct) W)
    (hs2 : ∀ (k M R : Nat) W, k < cnt → k * N = M → (k + 1) * N = R → (Instr.slice 22 (.slice b dl e) (some (.int .i64 (M : Int))) (some (.int .i64 (R : Int))) (some (.int .i64 (R : Int)))).run Tryd.prog W = .ok (.slice (ad k) N (cd k)) W)
    (w : World) (hb1 : b1 < w.heap.size) (hB : Box w q (.slice (some ⟨b1, o1, none⟩) (r + 1) c) (.slice b dl e) 27) (h0 : w.cell? ⟨b1, o1, none⟩ = some (.int .i64 (cnt : Int))) :
    SeqStopsK Fence.wide n Tryd.prog 90 #[.pointer (some ⟨q, 0, none⟩)] (fun x : Fin cnt => #[.agg #[.slice tl r ct, .slice (ad x.1) N (cd x.1)]]) (KeepsBox q) (fun ys => ys = List.finRange cnt) (fun _ => True) cnt w := fun l J Jx W hW hJ _ hY hj =>
  cut_in n l q cnt N r b1 o1 c dl e ct tl b ad cd hn hc hN hr hq hs1 hs2 J Jx hY W hJ (hB.keep hW) ((hW.cell (p := ⟨b1, o1, none⟩) hb1).trans h0) hj
end Go.Proofs.YtcaidhmolnnikaaDoor
