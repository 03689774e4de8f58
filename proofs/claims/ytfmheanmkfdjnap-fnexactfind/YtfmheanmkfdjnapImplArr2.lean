
/-
  Walks: the program's copies: copiedList, copyOf.
-/
import Derived.Test.YtfmheanmkfdjnapOwn
import Derived.Test.YtfmheanmkfdjnapAppend
import Derived.Test.YtfmheanmkfdjnapLaw3
import Derived.Test.YtfmheanmkfdjnapImplShape0
namespace Go.Proofs.Ytfmheanmkfdjnap
open Go.RowKit
set_option linter.unusedVariables false
set_option linter.unusedSimpArgs false
set_option maxRecDepth 20000 in
/-- Out of a list into a new one of its length. -/
theorem copy_all {w : World} {a : Option Addr} {l : List Int} (h1 : Ints w a l) (ty : TypeId) (d : Nat) (Z : Array Value) (hZ : Z.size = l.length) :
    (Builtin.copy_ #[22, 22] ty #[.slice (some ⟨w.heap.size, 0, none⟩) l.length l.length, .slice a l.length d]).run Try.prog (w.alloc (.cells Z 3)) =
      .ok (.int .i64 l.length) (w.alloc (.cells (vals l) 3)) := by
  by_cases h0 : l.length = 0
  · obtain rfl : l = [] := List.eq_nil_of_length_eq_zero h0
    have e : Z = vals [] := by simp at hZ; simp [vals, hZ]
    rw [e]
    exact run_copy_none (P := Try.prog) _ 22 22 ty 3 _ _ _ _ _ _ Try.underlying22 int_size rfl
  · rcases h1 with rfl | ⟨b, off, rfl, hb, hc⟩
    · exact absurd rfl h0
    · have hg : (w.alloc (.cells Z 3)).heap[w.heap.size]? = some (.cells Z 3 (0, 0)) := heap_alloc_new _ _
      have hc' : ∀ k, k < l.length → (w.alloc (.cells Z 3)).cell? ⟨b, off + k, none⟩ = some (.int .i64 (l.getD k 0)) := by
        intro k hk
        rw [(bAlloc (Below.refl w.heap.size w) _).cell (p := ⟨b, off + k, none⟩) hb]
        exact hc k hk
      have q := run_copy_row Try.prog (w.alloc (.cells Z 3)) 22 22 ty 3 w.heap.size 0 l.length l.length ⟨b, off, none⟩ l.length d Z 3 (l.map (Value.int .i64)) Try.underlying22 int_size hg (by rw [List.length_map]; simp) (ints_src hc') (by simp; omega) (by intro v hv; obtain ⟨x, _, rfl⟩ := List.mem_map.1 hv; rfl)
      rw [q, setRow_last, List.length_map]
      congr 3
      simp [vals, hZ]
set_option maxHeartbeats 1000000 in
/-- copiedList: a copy in new memory. -/
theorem copied_impl {l : List Int} {a : Option Addr} {w : World} (c : Nat) (h1 : Ints w a l) (hl : l.length ≤ 1048576) :
    Calls Try.prog 33 #[.slice a l.length c] w fun e w' => e = .returned (.slice (some ⟨w.heap.size, 0, none⟩) l.length l.length) ∧ w' = w.alloc (.cells (vals l) 3) := by
  have hmk : ∀ w, (Instr.makeSlice 22 (.int .i64 (l.length : Int)) (.int .i64 (l.length : Int))).run Try.prog w = .ok (.slice (some ⟨w.heap.size, 0, none⟩) l.length l.length) (w.alloc (.cells (vals (List.replicate l.length 0)) 3)) := fun w => make_ints l.length (by omega) w
  have hcp : (Builtin.copy_ #[22, 22] 3 #[.slice (some ⟨w.heap.size, 0, none⟩) l.length l.length, .slice a l.length c]).run Try.prog (w.alloc (.cells (vals (List.replicate l.length 0)) 3)) = .ok (.int .i64 l.length) (w.alloc (.cells (vals l) 3)) := copy_all h1 _ c _ (by simp [vals])
  clear h1
  go_enter Try.func33, Try.ntmps33
  go_wp2
  go_ret
  exact ⟨rfl, rfl⟩
/-- copiedList, as a contract on values. -/
theorem copied_new {l : List Int} {w : World} {v : Value} (h : IntsI w v l) (hl : l.length ≤ 1048576) :
    Calls Try.prog 33 #[v] w fun e w' => ∃ a' c', e = .returned (.slice a' l.length c') ∧ Piece w.heap.size w'.heap.size w' (.slice a' l.length c') l ∧ Below w.heap.size w w' := by
  obtain ⟨a, c, rfl, _, i⟩ := h
  refine (copied_impl c i hl).mono ?_
  rintro e w' ⟨rfl, rfl⟩
  exact ⟨_, _, rfl, OwnInts.piece (ownInts_new w l) (Nat.le_refl _) (by simp) _, bAlloc (Below.refl _ _) _⟩
end Go.Proofs.Ytfmheanmkfdjnap
