/-
  Walks: HeapNew, of the specification and of the program.
-/
import Derived.Test.YtfmfppndcbmohaaHeapF
import Derived.Test.YtfmfppndcbmohaaSmall
namespace Go.Proofs.Ytfmfppndcbmohaa
open Go.RowKit
set_option linter.unusedVariables false
set_option linter.unusedSimpArgs false
/-- The words of a new heap. -/
def newW (r : Int) : List Int := if 0 ≤ r ∧ r ≤ 6000 then List.replicate r.toNat 0 else []
theorem newW_len (r : Int) : (newW r).length ≤ 1048576 := by unfold newW; split <;> simp; omega
theorem hp_new (w : World) (o : Obj) (m : Nat) : HP w.heap.size ((w.alloc o).alloc (.cells (vals (List.replicate m 0)) 3)).heap.size ((w.alloc o).alloc (.cells (vals (List.replicate m 0)) 3)) (.agg #[.slice (some ⟨w.heap.size + 1, 0, none⟩) m m, .int .i64 0, .slice none 0 0]) (List.replicate m 0) 0 0 (fun _ => cel0) := by
  have h := (ownInts_new (w.alloc o) (List.replicate m 0)).piece (B := w.heap.size) (C := w.heap.size + 1 + 1) (by simp) (by simp) m (by simp)
  have hz : ((w.alloc o).alloc (.cells (vals (List.replicate m 0)) 3)).heap.size = w.heap.size + 1 + 1 := by simp
  rw [hz]
  exact ⟨_, _, w.heap.size + 1 + 1, rfl, by omega, by omega, by simpa using h, CPiece.nil _ _ _ _⟩
set_option maxRecDepth 20000 in
set_option maxHeartbeats 8000000 in
theorem heapNew_spec (r : Int) (w : World) : Calls Try.prog 14 #[.int .i64 r] w fun e w' => ∃ v, e = .returned (.tuple #[v, .bool (decide (0 ≤ r ∧ r ≤ 6000))]) ∧ HP w.heap.size w'.heap.size w' v (newW r) 0 0 (fun _ => cel0) ∧ Below w.heap.size w w' := by
  by_cases h : 0 ≤ r ∧ r ≤ 6000
  · obtain ⟨m, rfl⟩ : ∃ m : Nat, r = (m : Int) := ⟨r.toNat, by omega⟩
    have hmk : ∀ w, (Instr.makeSlice 22 (.int .i64 (m : Int)) (.int .i64 (m : Int))).run Try.prog w = .ok (.slice (some ⟨w.heap.size, 0, none⟩) m m) (w.alloc (.cells (vals (List.replicate m 0)) 3)) := fun w => make_ints m (by omega) w
    have e1 : newW (m : Int) = List.replicate m 0 := by unfold newW; rw [if_pos h]; simp
    have e2 : decide (0 ≤ (m : Int) ∧ (m : Int) ≤ 6000) = true := by simpa using h
    rw [e1, e2]
    have hq : (decide ((0 : Int) ≤ (m : Int)) && decide ((m : Int) ≤ 6000)) = true := by simp; omega
    go_enter Try.func14, Try.ntmps14
    go_wp2_with (go_at_call 33; refine (in_spec _ _ _ _).mono ?_; rintro r w1 ⟨rfl, hw⟩; subst w1; rw [hq])
    go_returns
    exact ⟨_, rfl, hp_new _ _ _, bAlloc (bAlloc (Below.refl _ _) _) _⟩
  · have e1 : newW r = [] := by unfold newW; rw [if_neg h]
    have e2 : decide (0 ≤ r ∧ r ≤ 6000) = false := by simpa using h
    rw [e1, e2]
    have hq : (decide ((0 : Int) ≤ r) && decide (r ≤ 6000)) = false := by simp; omega
    go_enter Try.func14, Try.ntmps14
    go_wp2_with (go_at_call 33; refine (in_spec _ _ _ _).mono ?_; rintro r w1 ⟨rfl, hw⟩; subst w1; rw [hq])
    go_returns
    exact ⟨_, rfl, HP.zero _ _ (by simp) _ _, bAlloc (Below.refl _ _) _⟩
set_option maxRecDepth 20000 in
set_option maxHeartbeats 8000000 in
theorem heapNew_impl (r : Int) (w : World) : Calls Try.prog 15 #[.int .i64 r] w fun e w' => ∃ v, e = .returned (.tuple #[v, .bool (decide (0 ≤ r ∧ r ≤ 6000))]) ∧ HP w.heap.size w'.heap.size w' v (newW r) 0 0 (fun _ => cel0) ∧ Below w.heap.size w w' := by
  by_cases h : 0 ≤ r ∧ r ≤ 6000
  · obtain ⟨m, rfl⟩ : ∃ m : Nat, r = (m : Int) := ⟨r.toNat, by omega⟩
    have hmk : ∀ w, (Instr.makeSlice 22 (.int .i64 (m : Int)) (.int .i64 (m : Int))).run Try.prog w = .ok (.slice (some ⟨w.heap.size, 0, none⟩) m m) (w.alloc (.cells (vals (List.replicate m 0)) 3)) := fun w => make_ints m (by omega) w
    have e1 : newW (m : Int) = List.replicate m 0 := by unfold newW; rw [if_pos h]; simp
    have e2 : decide (0 ≤ (m : Int) ∧ (m : Int) ≤ 6000) = true := by simpa using h
    rw [e1, e2]
    have a1 : ¬ ((m : Int) < 0) := by omega
    have a2 : ¬ ((m : Int) > 6000) := by omega
    go_enter Try.func15, Try.ntmps15
    go_wp2
    go_returns
    exact ⟨_, rfl, hp_new _ _ _, bAlloc (bAlloc (Below.refl _ _) _) _⟩
  · have e1 : newW r = [] := by unfold newW; rw [if_neg h]
    have e2 : decide (0 ≤ r ∧ r ≤ 6000) = false := by simpa using h
    rw [e1, e2]
    by_cases h1 : r < 0
    · go_enter Try.func15, Try.ntmps15
      go_wp2
      go_returns
      exact ⟨_, rfl, HP.zero _ _ (by simp) _ _, bAlloc (Below.refl _ _) _⟩
    · have h2 : r > 6000 := by omega
      go_enter Try.func15, Try.ntmps15
      go_wp2
      go_returns
      exact ⟨_, rfl, HP.zero _ _ (by simp) _ _, bAlloc (Below.refl _ _) _⟩
end Go.Proofs.Ytfmfppndcbmohaa
