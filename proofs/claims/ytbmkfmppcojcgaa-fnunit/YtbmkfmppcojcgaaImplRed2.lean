/-
  Walks: slices.Backward of a list of arrays: told one by one from its end to whatever loop asks for them.
-/
import Derived.Test.YtbmkfmppcojcgaaImplBack
namespace Go.Proofs.Ytbmkfmppcojcgaa
open Go.RowKit Go.Shelf
set_option linter.unusedVariables false
set_option linter.unusedSimpArgs false
attribute [local go_sem] Oper.semAt_some
set_option maxRecDepth 100000 in
set_option maxHeartbeats 4000000 in
theorem backA_in (n l q b1 o1 c m : Nat) (a : Option Addr) (xa ya : Nat → Option Addr) (xl xc yl yc : Nat → Nat) (hn : 1 ≤ n) (hc : m ≤ 300) (ha : 0 < m → a = some ⟨b1, o1, none⟩)
    (J Jx : List (Fin m) → World → Prop)
    (hY : ∀ pre x W, J pre W → pre.length < m → YieldAt Fence.wide (n - 1) Try.prog l #[.int .i64 ((m - 1 - x.1 : Nat) : Int), .agg #[.slice (xa (m - 1 - x.1)) (xl (m - 1 - x.1)) (xc (m - 1 - x.1)), .slice (ya (m - 1 - x.1)) (yl (m - 1 - x.1)) (yc (m - 1 - x.1))]] W fun e W' =>
      (e = .returned (.bool true) ∧ J (pre ++ [x]) W' ∧ KeepsTwo q b1 W W') ∨ (e = .returned (.bool false) ∧ Jx (pre ++ [x]) W'))
    (W : World) (hJ : AbidesFrom W.heap.size J) (hB : W.cell? ⟨q, 0, none⟩ = some (.slice a m c)) (h0 : ∀ j, j < m → W.cell? ⟨b1, o1 + j * 2, none⟩ = some (.slice (xa j) (xl j) (xc j)) ∧ W.cell? ⟨b1, o1 + j * 2 + 1, none⟩ = some (.slice (ya j) (yl j) (yc j))) (hj : J [] W) :
    CallsIn Fence.wide n Try.prog 115 #[.func (.yield l) #[] #[], .pointer (some ⟨q, 0, none⟩)] W fun e W' => (∃ v, e = .returned v) ∧
      ((∃ ys, ys = List.finRange m ∧ J ys W') ∨ (∃ pre, (∃ k, k ≤ m ∧ pre = upto m k) ∧ Jx pre W')) := by
  have HB : Hid (W.cell? ⟨q, 0, none⟩ = some (.slice a m c)) := hB
  have HA : Hid (0 < m → a = some ⟨b1, o1, none⟩) := ha
  have H0 : Hid (∀ j, j < m → W.cell? ⟨b1, o1 + j * 2, none⟩ = some (.slice (xa j) (xl j) (xc j)) ∧ W.cell? ⟨b1, o1 + j * 2 + 1, none⟩ = some (.slice (ya j) (yl j) (yc j))) := h0
  have HJ : Hid (AbidesFrom W.heap.size J) := hJ
  clear h0 hJ ha
  refine callsIn_of_wp Try.func115 rfl trivial ?_ rfl
  simp only [Try.ntmps115, List.size_toArray, List.length_cons, List.length_nil, Nat.reduceAdd, Nat.reduceSub, Array.replicate_succ, Array.replicate_zero, List.push_toArray, List.append_toArray, List.nil_append, List.cons_append]
  gi_wp2
  clear hB
  gi_loopw [3] (fun i wr => ∃ k : Nat, k ≤ m ∧ i = .int .i64 ((m : Int) - 1 - (k : Int)) ∧ J (upto m k) wr ∧ KeepsTwo q b1 W wr)
    (fun i _ => (intOf i + 1).toNat)
  case atStart => exact ⟨0, by omega, by simp, HJ.out _ _ _ none hj ⟨rfl, rfl, rfl, Nat.le_refl _, fun _ _ _ => rfl⟩ (fun r e => by cases e), rfl, rfl⟩
  case round =>
    obtain ⟨k, hk, rfl, hJs, hnx⟩ := hrel
    have x0 : wr.cell? ⟨q, 0, none⟩ = some (.slice a m c) := (cell_same hnx.1).trans HB.out
    by_cases hlt : (k : Int) < (m : Int)
    · rw [HA.out (by omega)] at x0
      obtain ⟨M, hM⟩ : ∃ M : Nat, M = m - 1 - k := ⟨_, rfl⟩
      have eM : (m : Int) - 1 - (k : Int) = (M : Int) := by omega
      have hMl : (M : Int) < (m : Int) := by omega
      have c1 : wr.cell? ⟨b1, o1 + M * 2, none⟩ = some (.slice (xa M) (xl M) (xc M)) := (cell_same hnx.2).trans (H0.out M (by omega)).1
      have c2 : wr.cell? ⟨b1, o1 + M * 2 + 1, none⟩ = some (.slice (ya M) (yl M) (yc M)) := (cell_same hnx.2).trans (H0.out M (by omega)).2
      have HL : Hid (k < m) := by show _ < _; omega
      have HJS : Hid (J (upto m k) wr) := hJs
      have HNX : Hid (KeepsTwo q b1 W wr) := hnx
      have hY' := hY (upto m k) ⟨k, HL.out⟩
      rw [← hM] at hY'
      have HM : Hid (M = m - 1 - k) := hM
      rw [eM]
      generalize xa M = xaM at *
      generalize xl M = xlM at *
      generalize xc M = xcM at *
      generalize ya M = yaM at *
      generalize yl M = ylM at *
      generalize yc M = ycM at *
      clear hM hJs hnx hY
      obtain ⟨fn, tmps, assign, body, hy, hRd⟩ := hY' wr HJS.out (by rw [upto_length hk]; exact HL.out)
      try dsimp only at hy
      clear hY'
      gi_wp2
      refine hRd.mono ?_
      rintro e' W4 (⟨rfl, hJ4, hk4⟩ | ⟨rfl, hJx4⟩)
      · have HJ4 : Hid (J (upto m (k + 1)) W4) := by show J _ _; rw [upto_succ HL.out]; exact hJ4
        have HK4 : Hid (KeepsTwo q b1 W W4) := keepsTwo_t HNX.out hk4
        clear hJ4 hk4
        gi_wp2
        go_roundw
        case rel => exact ⟨k + 1, by have := HL.out; omega, by first | go_num | (congr 1; omega) | (simp; omega), HJ4.out, HK4.out⟩
        case measure => simp [intOf]
      · have HX : Hid (Jx (upto m (k + 1)) W4) := by show Jx _ _; rw [upto_succ HL.out]; exact hJx4
        clear hJx4
        gi_wp2
        refine bodyPost_ret (results_none rfl _ _ _) rfl ?_
        exact ⟨⟨_, rfl⟩, .inr ⟨_, ⟨k + 1, HL.out, rfl⟩, HX.out⟩⟩
    · obtain rfl : k = m := by omega
      rw [upto_all] at hJs
      have e0 : (k : Int) - 1 - (k : Int) = -1 := by omega
      rw [e0]
      gi_wp2
      go_end0
      first
        | exact ⟨⟨_, rfl⟩, .inl ⟨_, rfl, hJs⟩⟩
        | exact ⟨⟨_, rfl⟩, .inl hJs⟩
/-- slices.Backward: the list is boxed; the function value captures the box. -/
theorem backwardA_in (n : Nat) (v : Value) (w : World) (hv : v.oneCell' = true) :
    CallsIn Fence.wide n Try.prog 91 #[v] w fun e w' => e = .returned (.func (.func 115) #[] #[.pointer (some ⟨w.heap.size, 0, none⟩)]) ∧ w' = w.alloc (.cells #[v] 60) := by
  refine callsIn_of_wp Try.func91 rfl trivial ?_ rfl
  simp only [Try.ntmps91, List.size_toArray, List.length_cons, List.length_nil, Nat.reduceAdd, Nat.reduceSub, Array.replicate_succ, Array.replicate_zero, List.push_toArray, List.append_toArray, List.nil_append, List.cons_append]
  gi_wp2
  go_ret
  exact ⟨rfl, rfl⟩
/-- The value that slices.Backward hands back tells the arrays from the end. -/
theorem backA_stops (n q b1 o1 c m : Nat) (a : Option Addr) (xa ya : Nat → Option Addr) (xl xc yl yc : Nat → Nat) (hn : 1 ≤ n) (hc : m ≤ 300) (ha : 0 < m → a = some ⟨b1, o1, none⟩) (w : World) (hq : q < w.heap.size) (hb1 : b1 < w.heap.size) (hB : w.cell? ⟨q, 0, none⟩ = some (.slice a m c)) (h0 : ∀ j, j < m → w.cell? ⟨b1, o1 + j * 2, none⟩ = some (.slice (xa j) (xl j) (xc j)) ∧ w.cell? ⟨b1, o1 + j * 2 + 1, none⟩ = some (.slice (ya j) (yl j) (yc j))) :
    SeqStopsK Fence.wide n Try.prog 115 #[.pointer (some ⟨q, 0, none⟩)] (fun x : Fin m => #[.int .i64 ((m - 1 - x.1 : Nat) : Int), .agg #[.slice (xa (m - 1 - x.1)) (xl (m - 1 - x.1)) (xc (m - 1 - x.1)), .slice (ya (m - 1 - x.1)) (yl (m - 1 - x.1)) (yc (m - 1 - x.1))]]) (KeepsTwo q b1) (fun ys => ys = List.finRange m) (fun pre => ∃ k, k ≤ m ∧ pre = upto m k) m w := fun l J Jx W hW hJ _ hY hj =>
  backA_in n l q b1 o1 c m a xa ya xl xc yl yc hn hc ha J Jx hY W hJ ((hW.cell (p := ⟨q, 0, none⟩) hq).trans hB) (fun j hj => ⟨(hW.cell (p := ⟨b1, o1 + j * 2, none⟩) hb1).trans (h0 j hj).1, (hW.cell (p := ⟨b1, o1 + j * 2 + 1, none⟩) hb1).trans (h0 j hj).2⟩) hj
end Go.Proofs.Ytbmkfmppcojcgaa
