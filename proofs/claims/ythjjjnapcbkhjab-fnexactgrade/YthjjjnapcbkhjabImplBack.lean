/-
  Walks: slices.Backward: the numbers of a list, told one by one from its end to whatever loop asks for them.
-/
import Derived.Test.YthjjjnapcbkhjabImplRows1
namespace Go.Proofs.Ythjjjnapcbkhjab
open Go.RowKit Go.Shelf
set_option linter.unusedVariables false
set_option linter.unusedSimpArgs false
attribute [local go_sem] Oper.semAt_some
/-- What a round keeps: the box of the list, and the list. -/
def KeepsTwo (q b : Nat) (W W' : World) : Prop := W'.heap[q]? = W.heap[q]? ∧ W'.heap[b]? = W.heap[b]?
theorem keepsTwo_t {q b : Nat} {A B C : World} (h : KeepsTwo q b A B) (k : KeepsTwo q b B C) : KeepsTwo q b A C := ⟨k.1.trans h.1, k.2.trans h.2⟩
theorem keepsTwo_b {q b : Nat} {w : World} (hq : q < w.heap.size) (hb : b < w.heap.size) (W : World) (l : Nat) (o o' : Obj) (hl : w.heap.size ≤ l) (_ : W.heap[l]? = some o) (_ : o.isCells = false) (_ : o.isWalk = false) : KeepsTwo q b W (W.putObj l o') :=
  ⟨World.putObj_heap_other (by omega), World.putObj_heap_other (by omega)⟩
theorem cell_same {W W' : World} {b o : Nat} (h : W'.heap[b]? = W.heap[b]?) : W'.cell? ⟨b, o, none⟩ = W.cell? ⟨b, o, none⟩ := World.cell?_of_block (w := W) (w' := W') (a := ⟨b, o, none⟩) h
set_option maxRecDepth 100000 in
set_option maxHeartbeats 4000000 in
theorem back_in (n l q b1 o1 c : Nat) (a : Option Addr) (d : List Int) (hn : 1 ≤ n) (hc : d.length ≤ 300) (ha : 0 < d.length → a = some ⟨b1, o1, none⟩)
    (J Jx : List (Fin d.length) → World → Prop)
    (hY : ∀ pre x W, J pre W → pre.length < d.length → YieldAt Fence.wide (n - 1) Try.prog l #[.int .i64 ((d.length - 1 - x.1 : Nat) : Int), .int .i64 (d.getD (d.length - 1 - x.1) 0)] W fun e W' =>
      (e = .returned (.bool true) ∧ J (pre ++ [x]) W' ∧ KeepsTwo q b1 W W') ∨ (e = .returned (.bool false) ∧ Jx (pre ++ [x]) W'))
    (W : World) (hJ : AbidesFrom W.heap.size J) (hB : W.cell? ⟨q, 0, none⟩ = some (.slice a d.length c)) (h0 : ∀ j, j < d.length → W.cell? ⟨b1, o1 + j, none⟩ = some (.int .i64 (d.getD j 0))) (hj : J [] W) :
    CallsIn Fence.wide n Try.prog 32 #[.func (.yield l) #[] #[], .pointer (some ⟨q, 0, none⟩)] W fun e W' => (∃ v, e = .returned v) ∧
      ((∃ ys, ys = List.finRange d.length ∧ J ys W') ∨ (∃ pre, True ∧ Jx pre W')) := by
  have HB : Hid (W.cell? ⟨q, 0, none⟩ = some (.slice a d.length c)) := hB
  have HA : Hid (0 < d.length → a = some ⟨b1, o1, none⟩) := ha
  have H0 : Hid (∀ j, j < d.length → W.cell? ⟨b1, o1 + j, none⟩ = some (.int .i64 (d.getD j 0))) := h0
  have HJ : Hid (AbidesFrom W.heap.size J) := hJ
  clear h0 hJ ha
  refine callsIn_of_wp Try.func32 rfl trivial ?_ rfl
  simp only [Try.ntmps32, List.size_toArray, List.length_cons, List.length_nil, Nat.reduceAdd, Nat.reduceSub, Array.replicate_succ, Array.replicate_zero, List.push_toArray, List.append_toArray, List.nil_append, List.cons_append]
  gi_wp2
  clear hB
  gi_loopw [3] (fun i wr => ∃ k : Nat, k ≤ d.length ∧ i = .int .i64 ((d.length : Int) - 1 - (k : Int)) ∧ J (upto d.length k) wr ∧ KeepsTwo q b1 W wr)
    (fun i _ => (intOf i + 1).toNat)
  case atStart => exact ⟨0, by omega, by simp, HJ.out _ _ _ none hj ⟨rfl, rfl, rfl, Nat.le_refl _, fun _ _ _ => rfl⟩ (fun r e => by cases e), rfl, rfl⟩
  case round =>
    obtain ⟨k, hk, rfl, hJs, hnx⟩ := hrel
    have x0 : wr.cell? ⟨q, 0, none⟩ = some (.slice a d.length c) := (cell_same hnx.1).trans HB.out
    by_cases hlt : (k : Int) < (d.length : Int)
    · rw [HA.out (by omega)] at x0
      obtain ⟨M, hM⟩ : ∃ M : Nat, M = d.length - 1 - k := ⟨_, rfl⟩
      have eM : (d.length : Int) - 1 - (k : Int) = (M : Int) := by omega
      have hMl : (M : Int) < (d.length : Int) := by omega
      have c1 : wr.cell? ⟨b1, o1 + M, none⟩ = some (.int .i64 (d.getD M 0)) := (cell_same hnx.2).trans (H0.out M (by omega))
      have HL : Hid (k < d.length) := by show _ < _; omega
      have HJS : Hid (J (upto d.length k) wr) := hJs
      have HNX : Hid (KeepsTwo q b1 W wr) := hnx
      have hY' := hY (upto d.length k) ⟨k, HL.out⟩
      rw [← hM] at hY'
      have HM : Hid (M = d.length - 1 - k) := hM
      rw [eM]
      generalize d.getD M 0 = y at *
      clear hM hJs hnx hY
      obtain ⟨fn, tmps, assign, body, hy, hRd⟩ := hY' wr HJS.out (by rw [upto_length hk]; exact HL.out)
      try dsimp only at hy
      clear hY'
      gi_wp2
      refine hRd.mono ?_
      rintro e' W4 (⟨rfl, hJ4, hk4⟩ | ⟨rfl, hJx4⟩)
      · have HJ4 : Hid (J (upto d.length (k + 1)) W4) := by show J _ _; rw [upto_succ HL.out]; exact hJ4
        have HK4 : Hid (KeepsTwo q b1 W W4) := keepsTwo_t HNX.out hk4
        clear hJ4 hk4
        gi_wp2
        go_roundw
        case rel => exact ⟨k + 1, by have := HL.out; omega, by first | go_num | (congr 1; omega) | (simp; omega), HJ4.out, HK4.out⟩
        case measure => simp [intOf]
      · gi_wp2
        refine bodyPost_ret (results_none rfl _ _ _) rfl ?_
        exact ⟨⟨_, rfl⟩, .inr ⟨_, trivial, hJx4⟩⟩
    · obtain rfl : k = d.length := by omega
      rw [upto_all] at hJs
      have e0 : (d.length : Int) - 1 - (d.length : Int) = -1 := by omega
      rw [e0]
      gi_wp2
      go_end0
      first
        | exact ⟨⟨_, rfl⟩, .inl ⟨_, rfl, hJs⟩⟩
        | exact ⟨⟨_, rfl⟩, .inl hJs⟩
/-- slices.Backward: the list is boxed; the function value captures the box. -/
theorem backward_in (n : Nat) (v : Value) (w : World) (hv : v.oneCell' = true) :
    CallsIn Fence.wide n Try.prog 25 #[v] w fun e w' => e = .returned (.func (.func 32) #[] #[.pointer (some ⟨w.heap.size, 0, none⟩)]) ∧ w' = w.alloc (.cells #[v] 22) := by
  refine callsIn_of_wp Try.func25 rfl trivial ?_ rfl
  simp only [Try.ntmps25, List.size_toArray, List.length_cons, List.length_nil, Nat.reduceAdd, Nat.reduceSub, Array.replicate_succ, Array.replicate_zero, List.push_toArray, List.append_toArray, List.nil_append, List.cons_append]
  gi_wp2
  go_ret
  exact ⟨rfl, rfl⟩
/-- The value that slices.Backward hands back tells the numbers from the end. -/
theorem back_stops (n q b1 o1 c : Nat) (a : Option Addr) (d : List Int) (hn : 1 ≤ n) (hc : d.length ≤ 300) (ha : 0 < d.length → a = some ⟨b1, o1, none⟩) (w : World) (hq : q < w.heap.size) (hb1 : b1 < w.heap.size) (hB : w.cell? ⟨q, 0, none⟩ = some (.slice a d.length c)) (h0 : ∀ j, j < d.length → w.cell? ⟨b1, o1 + j, none⟩ = some (.int .i64 (d.getD j 0))) :
    SeqStopsK Fence.wide n Try.prog 32 #[.pointer (some ⟨q, 0, none⟩)] (fun x : Fin d.length => #[.int .i64 ((d.length - 1 - x.1 : Nat) : Int), .int .i64 (d.getD (d.length - 1 - x.1) 0)]) (KeepsTwo q b1) (fun ys => ys = List.finRange d.length) (fun _ => True) d.length w := fun l J Jx W hW hJ _ hY hj =>
  back_in n l q b1 o1 c a d hn hc ha J Jx hY W hJ ((hW.cell (p := ⟨q, 0, none⟩) hq).trans hB) (fun j hj => (hW.cell (p := ⟨b1, o1 + j, none⟩) hb1).trans (h0 j hj)) hj
end Go.Proofs.Ythjjjnapcbkhjab
