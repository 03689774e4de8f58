
/-
  Walks: the specification's ArraySame, ScalarOf, VectorOf and NumAt.
-/
import Derived.Test.YtcpgdhffemecbaaSpecArr
import Derived.Test.YtcpgdhffemecbaaAppend
import Derived.OwnWalk
import Derived.Laws.ResultCell
namespace Go.Proofs.Ytcpgdhffemecbaa
open Go.RowKit
set_option linter.unusedVariables false
set_option linter.unusedSimpArgs false
set_option maxRecDepth 20000 in
set_option maxHeartbeats 1000000 in
theorem vector_spec {l : List Int} {a : Option Addr} {w : World} (c : Nat) (h1 : Ints w a l) (hl : l.length ≤ 1048576) :
    Calls Try.prog 67 #[.slice a l.length c] w fun e w' => ∃ v, e = .returned v ∧ Arr w.heap.size w'.heap.size w' v [(l.length : Int)] l ∧ Below w.heap.size w w' := by
  obtain ⟨v, w1, hrun, hp, hb⟩ := append_new (((h1.alloc (.cells #[.slice none 0 0, .slice none 0 0] 26)).alloc (.cells #[.int .i64 l.length] 3)).alloc (.cells #[] 3)) hl (w.heap.size + 1 + 1) 0 c
  obtain ⟨b, e, rfl, hi⟩ := hp.ints
  have hR : w1.heap[w.heap.size]? = some (.cells #[.slice none 0 0, .slice none 0 0] 26 (0, 0)) := by
    rw [hb.block w.heap.size (by simp; omega), heap_alloc_old _ _ (by simp; omega)]
    exact heap_alloc2_old w _ _
  have hS : w1.heap[w.heap.size + 1]? = some (.cells #[.int .i64 l.length] 3 (0, 0)) := by
    rw [hb.block (w.heap.size + 1) (by simp), heap_alloc_old _ _ (by simp)]
    exact heap_alloc2_new w _ _
  have HB : Hid (Below w.heap.size w w1) := bTrans (bAlloc (bAlloc (bAlloc (Below.refl _ _) _) _) _) hb
  have HA : Hid (Arr (w.heap.size + 1) w1.heap.size w1 (.agg #[.slice (some ⟨w.heap.size + 1, 0, none⟩) 1 1, .slice b l.length e]) [(l.length : Int)] l) := by
    have hz := hb.size
    simp at hz
    have p1 : Piece (w.heap.size + 1) (w.heap.size + 2) w1 (.slice (some ⟨w.heap.size + 1, 0, none⟩) 1 1) [(l.length : Int)] := OwnInts.piece (l := [(l.length : Int)]) hS (Nat.le_refl _) (by omega) 1
    exact ⟨_, _, rfl, p1.mono (Nat.le_refl _) (by omega), hp.mono (by simp <;> omega) (Nat.le_refl _), p1.apart hp (.inl (by simp <;> omega))⟩
  have k0 : w1.cell? ⟨w.heap.size, 0, none⟩ = some (.slice none 0 0) := cell_at hR rfl
  have k1 : w1.cell? ⟨w.heap.size, 1, none⟩ = some (.slice none 0 0) := cell_at hR rfl
  have f0 : w1.frozen? ⟨w.heap.size, 0, none⟩ = false := free_at hR 0
  have f1 : w1.frozen? ⟨w.heap.size, 1, none⟩ = false := free_at hR 1
  have HR : Hid (((w1.setCell ⟨w.heap.size, 0, none⟩ (.slice (some ⟨w.heap.size + 1, 0, none⟩) 1 1)).setCell ⟨w.heap.size, 1, none⟩ (.slice b l.length e)).heap[w.heap.size]? = some (.cells #[.slice (some ⟨w.heap.size + 1, 0, none⟩) 1 1, .slice b l.length e] 26 (0, 0))) := arr_stored hR
  have HRUN : Hid (∀ (ty : TypeId), (Builtin.append_ #[24, 24] ty #[.slice (some ⟨w.heap.size + 1 + 1, 0, none⟩) 0 0, .slice a l.length c]).run Try.prog (((w.alloc (.cells #[.slice none 0 0, .slice none 0 0] 26)).alloc (.cells #[.int .i64 l.length] 3)).alloc (.cells #[] 3)) = .ok (.slice b l.length e) w1) := hrun
  clear hR hS hb hp hi h1 hrun
  go_enter Try.func67, Try.ntmps67
  go_wp2_with (at_builtin; refine wpList_append_run rfl _ _ 24 24 rfl _ _ _ rfl rfl HRUN.out ?_)
  refine bodyPost_ret (v := .agg #[.slice (some ⟨w.heap.size + 1, 0, none⟩) 1 1, .slice b l.length e]) (results_arr rfl _ _ w.heap.size _ _ rfl HR.out) rfl ?_
  refine ⟨_, rfl, ?_, below_setCell (below_setCell HB.out (Nat.le_refl _) _ _) (Nat.le_refl _) _ _⟩
  exact ((HA.out.setCell (Nat.lt_succ_self _) _ _).setCell (Nat.lt_succ_self _) _ _).mono (by omega) (by simp [size_setCell])
/-- What VectorOf answers. -/
def vecOk (l : List Int) : Bool := arrOk [(l.length : Int)] l
end Go.Proofs.Ytcpgdhffemecbaa
