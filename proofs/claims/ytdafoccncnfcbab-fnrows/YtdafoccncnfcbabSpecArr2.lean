
/-
  Walks: the specification's ArraySame, ScalarOf, VectorOf and NumAt.
-/
import Derived.Test.YtdafoccncnfcbabSpecArr
import Derived.Test.YtdafoccncnfcbabAppend
import Derived.OwnWalk
import Derived.Laws.ResultCell
namespace Go.Proofs.Ytdafoccncnfcbab
open Go.RowKit
set_option linter.unusedVariables false
set_option linter.unusedSimpArgs false
set_option maxRecDepth 20000 in
set_option maxHeartbeats 1000000 in
theorem vector_spec {l : List Int} {a : Option Addr} {w : World} (c : Nat) (h1 : Ints w a l) (hl : l.length ≤ 1048576) :
    Calls Try.prog 72 #[.slice a l.length c] w fun e w' => ∃ v, e = .returned v ∧ Arr w.heap.size w'.heap.size w' v [(l.length : Int)] l ∧ Below w.heap.size w w' := by
  obtain ⟨v, w1, hrun, hp, hb⟩ := append_new (((h1.alloc (.cells #[.slice none 0 0, .slice none 0 0] 43)).alloc (.cells #[.int .i64 l.length] 3)).alloc (.cells #[] 3)) hl (w.heap.size + 1 + 1) 0 c
  obtain ⟨b, e, rfl, hi⟩ := hp.ints
  have hR : w1.heap[w.heap.size]? = some (.cells #[.slice none 0 0, .slice none 0 0] 43 (0, 0)) := by
    rw [hb.block w.heap.size (by simp; omega), heap_alloc_old _ _ (by simp; omega)]
    exact heap_alloc2_old w _ _
  have hS : w1.heap[w.heap.size + 1]? = some (.cells #[.int .i64 l.length] 3 (0, 0)) := by
    rw [hb.block (w.heap.size + 1) (by simp), heap_alloc_old _ _ (by simp)]
    exact heap_alloc2_new w _ _
  have HB : Hid (Below w.heap.size w w1) := bTrans (bAlloc (bAlloc (bAlloc (Below.refl _ _) _) _) _) hb
  have HA : Hid (Arr (w.heap.size + 1) w1.heap.size w1 (.agg #[.slice (some ⟨w.heap.size + 1, 0, none⟩) 1 1, .slice b l.length e]) [(l.length : Int)] l) := by
    have hz := hb.size
    simp at hz
    have p1 : Piece (w.heap.size + 1) (w.heap.size + 2) w1 (.slice (some ⟨w.heap.size + 1, 0, none⟩) 1 1) [(l.length : Int)] := OwnInts.piece (l := [(l.length : Int)]) hS (Nat.le_refl _) (by omega) 1
    exact ⟨_, _, rfl, p1.mono (Nat.le_refl _) (by omega), hp.mono (by simp <;> omega) (Nat.le_refl _), p1.apart hp (.inl (by simp <;> omega))⟩
  have k0 : w1.cell? ⟨w.heap.size, 0, none⟩ = some (.slice none 0 0) := cell_at hR rfl
  have k1 : w1.cell? ⟨w.heap.size, 1, none⟩ = some (.slice none 0 0) := cell_at hR rfl
  have f0 : w1.frozen? ⟨w.heap.size, 0, none⟩ = false := free_at hR 0
  have f1 : w1.frozen? ⟨w.heap.size, 1, none⟩ = false := free_at hR 1
  have HR : Hid (((w1.setCell ⟨w.heap.size, 0, none⟩ (.slice (some ⟨w.heap.size + 1, 0, none⟩) 1 1)).setCell ⟨w.heap.size, 1, none⟩ (.slice b l.length e)).heap[w.heap.size]? = some (.cells #[.slice (some ⟨w.heap.size + 1, 0, none⟩) 1 1, .slice b l.length e] 43 (0, 0))) := arr_stored hR
  have HRUN : Hid (∀ (ty : TypeId), (Builtin.append_ #[32, 32] ty #[.slice (some ⟨w.heap.size + 1 + 1, 0, none⟩) 0 0, .slice a l.length c]).run Try.prog (((w.alloc (.cells #[.slice none 0 0, .slice none 0 0] 43)).alloc (.cells #[.int .i64 l.length] 3)).alloc (.cells #[] 3)) = .ok (.slice b l.length e) w1) := hrun
  clear hR hS hb hp hi h1 hrun
  go_enter Try.func72, Try.ntmps72
  go_wp2_with (at_builtin; refine wpList_append_run rfl _ _ 32 32 rfl _ _ _ rfl rfl HRUN.out ?_)
  refine bodyPost_ret (v := .agg #[.slice (some ⟨w.heap.size + 1, 0, none⟩) 1 1, .slice b l.length e]) (results_arr rfl _ _ w.heap.size _ _ rfl HR.out) rfl ?_
  refine ⟨_, rfl, ?_, below_setCell (below_setCell HB.out (Nat.le_refl _) _ _) (Nat.le_refl _) _ _⟩
  exact ((HA.out.setCell (Nat.lt_succ_self _) _ _).setCell (Nat.lt_succ_self _) _ _).mono (by omega) (by simp [size_setCell])
/-- What VectorOf answers. -/
def vecOk (l : List Int) : Bool := arrOk [(l.length : Int)] l
set_option maxRecDepth 20000 in
set_option maxHeartbeats 1000000 in
/-- VectorOf. -/
theorem vectorOf_spec {l : List Int} {a : Option Addr} {w : World} (c : Nat) (h1 : Ints w a l) (hl : l.length ≤ 1048576) :
    Calls Try.prog 36 #[.slice a l.length c] w fun e w' => ∃ v, e = .returned (.tuple #[v, .bool (vecOk l)]) ∧ Arr w.heap.size w'.heap.size w' v (if vecOk l = true then [(l.length : Int)] else []) (if vecOk l = true then l else []) ∧ Below w.heap.size w w' := by
  have H1 : Hid (Ints w a l) := h1
  have HL : Hid (l.length ≤ 1048576) := hl
  clear h1 hl
  cases hx : vecOk l
  all_goals
    have HX : Hid (vecOk l = _) := hx
    clear hx
    go_enter Try.func36, Try.ntmps36
    go_wp2_with fail
    refine (vector_spec c (H1.out.alloc _) HL.out).mono ?_
    rintro r w1 ⟨v, rfl, ha, hb⟩
    obtain ⟨a1, c1, b1, e1, rfl, _, _, _, _⟩ := ha.arrI
    have HI : Hid (ArrI w1 (.agg #[.slice a1 1 c1, .slice b1 l.length e1]) [(l.length : Int)] l) := ha.arrI
    have HR : Hid (w1.heap[w.heap.size]? = some (.cells #[.slice none 0 0, .slice none 0 0] 43 (0, 0))) := by show _ = _; rw [hb.block w.heap.size (by simp)]; exact heap_alloc_new w _
    have HA : Hid (Arr (w.heap.size + 1) w1.heap.size w1 (.agg #[.slice a1 1 c1, .slice b1 l.length e1]) [(l.length : Int)] l) := ha.mono (by simp) (Nat.le_refl _)
    have HB : Hid (Below w.heap.size w w1) := bTrans (bAlloc (Below.refl _ _) _) hb
    have L1 : Hid (w.heap.size < w1.heap.size) := lt_of_heapA HR.out
    clear ha hb
    simp only [List.length_cons, List.length_nil, Nat.zero_add]
    go_wp2_with fail
    refine (arrOk_spec (HI.out.keep (bAlloc (Below.refl _ _) _)) HL.out).mono ?_
    rintro r w2 ⟨rfl, hb⟩
    have HB2 : Hid (Below w.heap.size w w2) := bTrans (bAlloc HB.out _) hb
    have hR : w2.heap[w.heap.size]? = some (.cells #[.slice none 0 0, .slice none 0 0] 43 (0, 0)) := by
      rw [(bTrans (bAlloc (Below.refl w1.heap.size w1) _) hb).block w.heap.size L1.out]; exact HR.out
    have HA2 : Hid (Arr (w.heap.size + 1) w1.heap.size w2 (.agg #[.slice a1 1 c1, .slice b1 l.length e1]) [(l.length : Int)] l) := HA.out.keep (bTrans (bAlloc (Below.refl _ _) _) hb)
    have t0 : w2.cell? ⟨w1.heap.size, 0, none⟩ = some (.slice a1 1 c1) := by rw [hb.cell (p := ⟨w1.heap.size, 0, none⟩) (by simp)]; exact cell_newA _ _ _ rfl
    have t1 : w2.cell? ⟨w1.heap.size, 1, none⟩ = some (.slice b1 l.length e1) := by rw [hb.cell (p := ⟨w1.heap.size, 1, none⟩) (by simp)]; exact cell_newA _ _ _ rfl
    have L2 : Hid (w1.heap.size ≤ w2.heap.size) := by have := hb.size; simp at this; show _ ≤ _; omega
    have k0 : w2.cell? ⟨w.heap.size, 0, none⟩ = some (.slice none 0 0) := cell_at hR rfl
    have k1 : w2.cell? ⟨w.heap.size, 1, none⟩ = some (.slice none 0 0) := cell_at hR rfl
    have f0 : w2.frozen? ⟨w.heap.size, 0, none⟩ = false := free_at hR 0
    have f1 : w2.frozen? ⟨w.heap.size, 1, none⟩ = false := free_at hR 1
    have HS : Hid (∀ x y, ((w2.setCell ⟨w.heap.size, 0, none⟩ x).setCell ⟨w.heap.size, 1, none⟩ y).heap[w.heap.size]? = some (.cells #[x, y] 43 (0, 0))) := fun x y => arr_stored hR
    clear hR hb
    rw [show arrOk [(l.length : Int)] l = _ from HX.out]
    go_wp2
    refine bodyPost_ret (results_arr_tmp Try.results36 _ _ w.heap.size _ _ rfl (HS.out _ _)) rfl ?_
    refine ⟨_, rfl, ?_, below_setCell (below_setCell HB2.out (Nat.le_refl _) _ _) (Nat.le_refl _) _ _⟩
    first
      | exact arr_zero _ _ _
      | exact ((HA2.out.setCell (Nat.lt_succ_self _) _ _).setCell (Nat.lt_succ_self _) _ _).mono (by omega) (by simp only [size_setCell]; exact L2.out)
end Go.Proofs.Ytdafoccncnfcbab
