/-
  The room of a list of cells; a list of cells that grows by one.
-/
import Derived.Test.YtmmjidhpmbcoiaaHeapC
namespace Go.Proofs.Ytmmjidhpmbcoiaa
open Go.RowKit
set_option linter.unusedVariables false
set_option linter.unusedSimpArgs false
/-- The room of a list of cells is there. -/
def Cap (w : World) (a : Option Addr) (n c : Nat) : Prop := c = 0 ∨ 0 < n ∧ ∃ g cur ty, a = some ⟨g, 0, none⟩ ∧ w.heap[g]? = some (.cells cur ty (0, 0)) ∧ c * 3 ≤ cur.size
theorem Cap.keep {w w' : World} {a : Option Addr} {n c : Nat} (h : Cap w a n c) (hb : Below w.heap.size w w') : Cap w' a n c := by
  rcases h with h | ⟨hn, g, cur, ty, e, hg, hs⟩
  · exact .inl h
  · exact .inr ⟨hn, g, cur, ty, e, by rw [hb.block g (lt_of_heapA hg)]; exact hg, hs⟩
theorem Cap.alloc {w : World} {a : Option Addr} {n c : Nat} (h : Cap w a n c) (o : Obj) : Cap (w.alloc o) a n c := h.keep (bAlloc (Below.refl _ _) o)
theorem Cap.drew {w : World} {a : Option Addr} {n c : Nat} (h : Cap w a n c) : Cap w.drew a n c := h.keep ((Below.refl _ _).drew)
theorem Cap.set {w : World} {a : Option Addr} {n c : Nat} (h : Cap w a n c) (g' o : Nat) (u : Value) : Cap (w.setCell ⟨g', o, none⟩ u) a n c := by
  rcases h with h | ⟨hn, g, cur, ty, e, hg, hs⟩
  · exact .inl h
  · by_cases k : g = g'
    · subst k
      exact .inr ⟨hn, g, _, ty, e, heap_setCell_same w g o _ _ u hg, by simpa using hs⟩
    · exact .inr ⟨hn, g, cur, ty, e, by rw [(win_setCell w g' o u).block g (lt_of_heapA hg) (by omega)]; exact hg, hs⟩
theorem Cap.full {B C : Nat} {w : World} {a : Option Addr} {n : Nat} {E : Nat → Cel} (h : CPiece B C w (.slice a n n) n E) : Cap w a n n := by
  obtain ⟨a', c', e, _, h⟩ := h
  cases e
  rcases h with h | ⟨g, ha, _, _, cur, t, hg, h⟩
  · exact .inl h
  · by_cases h0 : n = 0
    · exact .inl h0
    · obtain ⟨_, _, k3⟩ := h (n - 1) (by omega)
      have := (Array.getElem?_eq_some_iff.1 k3).1
      exact .inr ⟨by omega, g, cur, t, ha, hg, by omega⟩
theorem append_newC2 {w : World} {a : Option Addr} {n : Nat} {E : Nat → Cel} (h : CsA w a n E) (hn : n ≤ 1048576) (b o c : Nat) :
    ∃ v w', (∀ ty, (Builtin.append_ #[26, 26] ty #[.slice (some ⟨b, o, none⟩) 0 0, .slice a n c]).run Try.prog w = .ok v w') ∧ (∃ a' c', v = .slice a' n c' ∧ CPiece w.heap.size w'.heap.size w' (.slice a' n c') n E ∧ Cap w' a' n c') ∧ Below w.heap.size w w' := by
  have hi := info_cell
  cases hq : Try.prog.info? 47 with
  | none => rw [hq] at hi; cases hi
  | some i =>
    rw [hq] at hi
    simp at hi
    obtain ⟨z1, z2, z3⟩ := hi
    have hs := src_cells h c
    rw [← z2] at hs
    by_cases h0 : n = 0
    · subst h0
      refine ⟨.slice (some ⟨b, o, none⟩) 0 0, w, fun ty => ?_, ⟨_, _, rfl, ⟨_, 0, rfl, by simp, .inl rfl⟩, .inl rfl⟩, Below.refl _ _⟩
      have q := run_append_room_src w 26 26 ty 47 i Try.underlying26 hq b o 0 0 _ 0 [] hs (by omega) (by simp) (by simp)
      rw [setCells_nil] at q
      exact q
    · refine ⟨_, _, fun ty => run_append_grow_src w 26 26 ty 47 i _ Try.underlying26 hq z1 (some ⟨b, o, none⟩) 0 0 [] (by simp [Builtin.firstCells, loadCells, loadCellsFrom]) _ n _ hs (by omega) (by omega) (growslice_fits (by omega) (by rw [z3]; omega)), ?_, ?_⟩
      · refine ⟨_, _, by rw [Nat.zero_add], ⟨_, _, rfl, by simpa using grownCap_ge w n 0 47, .inr ⟨w.heap.size, rfl, Nat.le_refl _, by simp, cblk_of (heap_alloc_new w.drew _) fun j hj => ?_⟩⟩, .inr ⟨by omega, w.heap.size, _, _, rfl, heap_alloc_new w.drew _, ?_⟩⟩
        rotate_left
        · have hl := cvs_len E n
          have := grownCap_ge w n 0 47
          simp only [Nat.zero_add, Array.size_append, List.size_toArray, List.nil_append, size_zeroCells, hl]
          have e3 : (Value.agg #[.int .i64 0, .int .i64 0, .bool false]).cells.size = 3 := rfl
          rw [e3]
          omega
        have hl := cvs_len E n
        rw [Array.getElem?_append_left (by simpa [hl] using hj)]
        simp
      · exact bAlloc ((Below.refl _ _).drew) _
/-- A copy by append, as one step of a region that draws its order. -/
theorem step_append_newC2 {ops : Array Oper} {o : Oper} {a : Act} {w : World} {K : Act → World → Prop} {Q : Exit → Act → World → Prop} {X : Prop} (hgd : o.guard = none) (s x : Operand)
    (ho : o.op = .call { callee := .builtin .append, args := #[s, x], argTypes := #[26, 26] }) (b o' c : Nat) (ad : Option Addr) (n : Nat) (E : Nat → Cel) (hs : a.eval s = .slice (some ⟨b, o', none⟩) 0 0) (hx : a.eval x = .slice ad n c) (h : CsA w ad n E) (hn : n ≤ 1048576)
    (hK : ∀ a' c' w', CPiece w.heap.size w'.heap.size w' (.slice a' n c') n E → Cap w' a' n c' → Below w.heap.size w w' → K (a.put o.dst (.slice a' n c')) w') :
    if Region.wanted o (yielded ops a.tmps) = true then Oper.wp Try.prog o a w K Q else X := by
  have hw : Region.wanted o (yielded ops a.tmps) = true := by simp [Region.wanted, hgd]
  rw [if_pos hw]
  obtain ⟨v, w', hrun, ⟨a', c', rfl, hp, hc⟩, hb⟩ := append_newC2 h hn b o' c
  unfold Oper.wp
  simp [execOp, ho, resolve, invoke, builtin, hs, hx, hrun, Result.andThen]
  exact hK _ _ _ hp hc hb
theorem cvs_congr {E F : Nat → Cel} : ∀ {n : Nat}, (∀ i, i < n → F i = E i) → cvs F n = cvs E n
  | 0, _ => rfl
  | n + 1, h => by
    simp only [cvs]
    rw [cvs_congr (fun i hi => h i (by omega)), h n (by omega)]
/-- One cell behind the last. -/
theorem CBlk.push {w : World} {g n : Nat} {E : Nat → Cel} {cur : Array Value} {t : TypeId} (hg : w.heap[g]? = some (.cells cur t (0, 0))) (h : CBlk w g n E) (hs : (n + 1) * 3 ≤ cur.size) (c : Cel) : CBlk (((w.setCell ⟨g, n * 3, none⟩ (.int .i64 c.f)).setCell ⟨g, n * 3 + 1, none⟩ (.int .i64 c.l)).setCell ⟨g, n * 3 + 2, none⟩ (.bool c.v)) g (n + 1) (up E n c) := by
  obtain ⟨cur', t', hg', h⟩ := h
  rw [hg] at hg'
  cases hg'
  have s1 := heap_setCell_same w g (n * 3) _ _ (.int .i64 c.f) hg
  have s2 := heap_setCell_same _ g (n * 3 + 1) _ _ (.int .i64 c.l) s1
  have s3 := heap_setCell_same _ g (n * 3 + 2) _ _ (.bool c.v) s2
  refine ⟨_, t, s3, fun i hi => ?_⟩
  by_cases e : i = n
  · subst e
    rw [up_at]
    refine ⟨?_, ?_, ?_⟩
    · rw [Array.getElem?_setIfInBounds, if_neg (by omega), Array.getElem?_setIfInBounds, if_neg (by omega), Array.getElem?_setIfInBounds, if_pos rfl, if_pos (by omega)]
    · rw [Array.getElem?_setIfInBounds, if_neg (by omega), Array.getElem?_setIfInBounds, if_pos rfl, if_pos (by simp; omega)]
    · rw [Array.getElem?_setIfInBounds, if_pos rfl, if_pos (by simp; omega)]
  · obtain ⟨q1, q2, q3⟩ := h i (by omega)
    rw [up_ne E _ e]
    refine ⟨?_, ?_, ?_⟩
    · rw [Array.getElem?_setIfInBounds, if_neg (by omega), Array.getElem?_setIfInBounds, if_neg (by omega), Array.getElem?_setIfInBounds, if_neg (by omega)]; exact q1
    · rw [Array.getElem?_setIfInBounds, if_neg (by omega), Array.getElem?_setIfInBounds, if_neg (by omega), Array.getElem?_setIfInBounds, if_neg (by omega)]; exact q2
    · rw [Array.getElem?_setIfInBounds, if_neg (by omega), Array.getElem?_setIfInBounds, if_neg (by omega), Array.getElem?_setIfInBounds, if_neg (by omega)]; exact q3
/-- A list of cells grows by one, which lies in a block of its own. -/
theorem growC {B C : Nat} {w : World} {a : Option Addr} {n c : Nat} {E : Nat → Cel} (h : CPiece B C w (.slice a n c) n E) (hc : Cap w a n c) (hn : n ≤ 1048576) (hC : C ≤ w.heap.size) (z : Cel) :
    ∃ a' c' B' C' w', (∀ ty, (Builtin.append_ #[26, 26] ty #[.slice a n c, .slice (some ⟨w.heap.size, 0, none⟩) 1 1]).run Try.prog (w.alloc (.cells #[.int .i64 z.f, .int .i64 z.l, .bool z.v] 47)) = .ok (.slice a' (n + 1) c') w') ∧
      CPiece B' C' w' (.slice a' (n + 1) c') (n + 1) (up E n z) ∧ ((B' = B ∧ C' = C) ∨ (w.heap.size < B' ∧ C' = w'.heap.size)) ∧ Win B C w w' := by
  have hi := info_cell
  cases hq : Try.prog.info? 47 with
  | none => rw [hq] at hi; cases hi
  | some i =>
    rw [hq] at hi
    simp at hi
    obtain ⟨z1, z2, z3⟩ := hi
    have hA := heap_alloc_new w (.cells #[.int .i64 z.f, .int .i64 z.l, .bool z.v] 47)
    have hBw := bAlloc (Below.refl w.heap.size w) (.cells #[.int .i64 z.f, .int .i64 z.l, .bool z.v] 47)
    have hsz : (w.alloc (.cells #[.int .i64 z.f, .int .i64 z.l, .bool z.v] 47)).heap.size = w.heap.size + 1 := by simp
    generalize w.alloc (.cells #[.int .i64 z.f, .int .i64 z.l, .bool z.v] 47) = V at *
    have hzb : CBlk V w.heap.size 1 (fun _ => z) := ⟨_, _, hA, fun i hi => by
      obtain rfl : i = 0 := by omega
      exact ⟨rfl, rfl, rfl⟩⟩
    have hz := hzb.csA
    have hs := src_cells hz 1
    rw [← z2] at hs
    have e1 : cvs (fun _ => z) 1 = [.int .i64 z.f, .int .i64 z.l, .bool z.v] := rfl
    rw [e1] at hs
    by_cases hr : n + 1 ≤ c
    · rcases hc with hc | ⟨h0, g, cur, ty, rfl, hg, hcs⟩
      · omega
      have hgV : V.heap[g]? = some (.cells cur ty (0, 0)) := by rw [hBw.block g (lt_of_heapA hg)]; exact hg
      obtain ⟨a1, c1, e, hle, h⟩ := h
      cases e
      rcases h with h | ⟨g1, e, b1, b2, hb⟩
      · omega
      cases e
      refine ⟨_, c, B, C, _, fun ty' => run_append_room_src V 26 26 ty' 47 i Try.underlying26 hq g 0 n c _ 1 _ hs hr (fun j hj => ?_) (fun j hj => free_at hgV _), ?_, .inl ⟨rfl, rfl⟩, ?_⟩
      · rw [z2]
        have : 0 + n * 3 + j < cur.size := by simp at hj; omega
        rw [cell_at hgV (Array.getElem?_eq_getElem this)]
        rfl
      · rw [z2, Nat.zero_add]
        exact ⟨_, _, rfl, hr, .inr ⟨g, rfl, b1, b2, CBlk.push hgV (hb.keep hBw) (by omega) z⟩⟩
      · rw [z2, Nat.zero_add]
        have hw := set3_win V g n (.int .i64 z.f) (.int .i64 z.l) (.bool z.v)
        exact ⟨by rw [← hBw.os]; exact hw.os, by rw [← hBw.tape]; exact hw.tape, by rw [← hBw.output]; exact hw.output, Nat.le_trans hBw.size hw.size, fun k hk hd => (hw.block k (Nat.lt_of_lt_of_le hk hBw.size) (by omega)).trans (hBw.block k hk)⟩
    · have hcs := ((h.keep hBw).csI)
      obtain ⟨a1, c1, e, hle, hcA⟩ := hcs
      cases e
      obtain rfl : c = n := by omega
      refine ⟨_, _, V.heap.size, _, _, fun ty' => run_append_grow_src V 26 26 ty' 47 i _ Try.underlying26 hq z1 a c c (cvs E c) (by rw [z2]; exact (src_cells hcA c).cellsD) _ 1 _ hs (by omega) (by omega) (growslice_fits (by omega) (by rw [z3]; omega)), ⟨_, _, rfl, grownCap_ge _ _ _ _, .inr ⟨V.heap.size, rfl, Nat.le_refl _, by simp, cblk_of (heap_alloc_new V.drew _) fun j hj => ?_⟩⟩, .inr ⟨by omega, rfl⟩, ?_⟩
      · have hl := cvs_len E c
        have e9 : cvs (up E c z) (c + 1) = cvs E c ++ [.int .i64 z.f, .int .i64 z.l, .bool z.v] := by
          simp only [cvs, up_at]
          rw [cvs_congr (fun i hi => up_ne E z (by omega))]
        rw [e9, Array.getElem?_append_left (by simp [hl]; omega)]
        simp
      · have hb2 : Below V.heap.size V (V.drew.alloc (.cells ((cvs E c ++ [Value.int .i64 z.f, .int .i64 z.l, .bool z.v]).toArray ++ Builtin.zeroCells (Value.agg #[.int .i64 0, .int .i64 0, .bool false]).cells (grownCap V (c + 1) c 47 - (c + 1))) 47)) := bAlloc ((Below.refl _ _).drew) _
        have hb3 := bTrans hBw hb2
        exact ⟨hb3.os, hb3.tape, hb3.output, hb3.size, fun k hk _ => hb3.block k hk⟩
end Go.Proofs.Ytmmjidhpmbcoiaa
