
/-
  Walks: new letters; letters with nothing in them, held against each other, marked, and looked at.
-/
import Derived.Test.YtkhcphkdcjimiaaGreatArr
import Derived.Test.YtkhcphkdcjimiaaGreatMarks
import Derived.Test.YtkhcphkdcjimiaaGreatLaw3
import Derived.Deep.RegionHeld3
import Derived.Deep.Cut
namespace Go.Proofs.YtkhcphkdcjimiaaGreat
open Go.RowKit
set_option linter.unusedVariables false
set_option linter.unusedSimpArgs false
/-- A block with 26 letters, set or not, with nothing in them. -/
def VarB (w : World) (o : Nat) (bs : Nat → Bool) : Prop :=
  ∃ A : Array Value, w.heap[o]? = some (.cells A 41 (0, 0)) ∧ A.size = 78 ∧ ∀ i, i < 26 → A[i * 3]? = some (.bool (bs i)) ∧ A[i * 3 + 1]? = some (.slice none 0 0) ∧ A[i * 3 + 2]? = some (.slice none 0 0)
namespace VarB
variable {w w' : World} {o : Nat} {bs : Nat → Bool}
theorem lt (h : VarB w o bs) : o < w.heap.size := by obtain ⟨A, h1, _⟩ := h; exact lt_of_heapA h1
theorem keep (h : VarB w o bs) (hb : Below w.heap.size w w') : VarB w' o bs := by
  have hl := h.lt
  obtain ⟨A, h1, h2⟩ := h
  exact ⟨A, by rw [hb.block o hl]; exact h1, h2⟩
theorem c0 (h : VarB w o bs) {i : Nat} (hi : i < 26) : w.cell? ⟨o, i * 3, none⟩ = some (.bool (bs i)) := by
  obtain ⟨A, h1, _, h3⟩ := h; exact cell_at h1 (h3 i hi).1
theorem c1 (h : VarB w o bs) {i : Nat} (hi : i < 26) : w.cell? ⟨o, i * 3 + 1, none⟩ = some (.slice none 0 0) := by
  obtain ⟨A, h1, _, h3⟩ := h; exact cell_at h1 (h3 i hi).2.1
theorem c2 (h : VarB w o bs) {i : Nat} (hi : i < 26) : w.cell? ⟨o, i * 3 + 2, none⟩ = some (.slice none 0 0) := by
  obtain ⟨A, h1, _, h3⟩ := h; exact cell_at h1 (h3 i hi).2.2
theorem free (h : VarB w o bs) (k : Nat) : w.frozen? ⟨o, k, none⟩ = false := by obtain ⟨A, h1, _⟩ := h; exact free_at h1 k
theorem set (h : VarB w o bs) {i : Nat} (hi : i < 26) (b : Bool) : VarB (w.setCell ⟨o, i * 3, none⟩ (.bool b)) o (fun k => if k = i then b else bs k) := by
  obtain ⟨A, h1, h2, h3⟩ := h
  refine ⟨_, heap_setCell_same w o (i * 3) _ _ (.bool b) h1, by simpa using h2, fun k hk => ?_⟩
  obtain ⟨q1, q2, q3⟩ := h3 k hk
  refine ⟨?_, ?_, ?_⟩
  · show _ = some (Value.bool (if k = i then b else bs k))
    by_cases e : k = i
    · rw [if_pos e, e]
      rw [Array.getElem?_setIfInBounds, if_pos rfl, if_pos (by omega)]
    · rw [if_neg e]
      have : i * 3 ≠ k * 3 := by omega
      simp [Array.getElem?_setIfInBounds, this, q1]
  · have : i * 3 ≠ k * 3 + 1 := by omega
    simp [Array.getElem?_setIfInBounds, this, q2]
  · have : i * 3 ≠ k * 3 + 2 := by omega
    simp [Array.getElem?_setIfInBounds, this, q3]
end VarB
theorem info_var : (Tryz.prog.info? 41).map (fun i => (i.zero, i.size, i.bytes)) = some (some (.agg #[.bool false, .slice none 0 0, .slice none 0 0]), 3, 56) := by kernel_rfl
theorem make_vars (w : World) : ∃ w', (Instr.makeSlice 24 (.int .i64 26) (.int .i64 26)).run Tryz.prog w = .ok (.slice (some ⟨w.heap.size, 0, none⟩) 26 26) w' ∧ VarB w' w.heap.size (fun _ => false) ∧ Below w.heap.size w w' := by
  have hi := info_var
  cases hq : Tryz.prog.info? 41 with
  | none => rw [hq] at hi; cases hi
  | some i =>
    rw [hq] at hi
    simp at hi
    obtain ⟨z1, z2, z3⟩ := hi
    have q := run_make (P := Tryz.prog) w 24 41 i _ Tryz.underlying24 hq z1 .i64 .i64 26 26 (by omega) (by omega) (by rw [z3]; omega) (by omega)
    rw [z2] at q
    refine ⟨_, q, ⟨_, heap_alloc_new w _, by rw [size_madeCells]; rfl, fun i hi => ?_⟩, bAlloc (Below.refl _ _) _⟩
    have e0 : (Value.agg #[.bool false, .slice none 0 0, .slice none 0 0]).cells = #[.bool false, .slice none 0 0, .slice none 0 0] := by rfl
    have g : ∀ k, k < 78 → (madeCells (Value.agg #[.bool false, .slice none 0 0, .slice none 0 0]).cells ((26 : Int).toNat * 3))[k]? = some (#[Value.bool false, .slice none 0 0, .slice none 0 0][k % 3]!) := fun k hk => by
      rw [e0]
      simp [madeCells, hk]
    refine ⟨?_, ?_, ?_⟩
    · rw [g _ (by omega), show i * 3 % 3 = 0 by omega]; rfl
    · rw [g _ (by omega), show (i * 3 + 1) % 3 = 1 by omega]; rfl
    · rw [g _ (by omega), show (i * 3 + 2) % 3 = 2 by omega]; rfl
set_option maxRecDepth 20000 in
set_option maxHeartbeats 4000000 in
theorem varsNew_impl (w : World) :
    Calls Tryz.prog 5 #[] w fun e w' => ∃ o, e = .returned (.slice (some ⟨o, 0, none⟩) 26 26) ∧ VarB w' o (fun _ => false) ∧ w.heap.size ≤ o ∧ Below w.heap.size w w' := by
  obtain ⟨w1, r1, v1, b1⟩ := make_vars w
  have V1 : Hid (VarB w1 w.heap.size (fun _ => false)) := v1
  have B1 : Hid (Below w.heap.size w w1) := b1
  clear v1 b1
  go_enter Tryz.func5, Tryz.ntmps5
  go_wp2
  go_ret
  exact ⟨_, rfl, V1.out, Nat.le_refl _, B1.out⟩
theorem arr_nil (w : World) : ArrI w (.agg #[.slice none 0 0, .slice none 0 0]) [] [] := ⟨none, 0, none, 0, rfl, .inl rfl, .inl rfl, by simp, by simp⟩
/-- Which letters are set when they are marked from 1 on. -/
def markedB (n : Nat) : Nat → Bool := fun i => if i < n then ((((1 + i) % 3 : Nat) : Int) == 0) else false
theorem markedB_succ (n : Nat) : (fun k => if k = n then ((((1 + n) % 3 : Nat) : Int) == 0) else markedB n k) = markedB (n + 1) := by
  funext k
  unfold markedB
  by_cases e : k = n
  · subst e; simp
  · rw [if_neg e]
    by_cases l : k < n
    · rw [if_pos l, if_pos (by omega)]
    · rw [if_neg l, if_neg (by omega)]
theorem markedB_at {n i : Nat} (h : i < n) : markedB n i = ((((1 + i) % 3 : Nat) : Int) == 0) := by unfold markedB; rw [if_pos h]
end Go.Proofs.YtkhcphkdcjimiaaGreat
