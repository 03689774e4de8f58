
/-
  Walks: the program's helpers of Chapter 4: numberFor, knownToOne, knownToTwo, and what EachOne and EachTwo do at a place.
-/
import Derived.Test.YthjjjnapcbkhjaaEachPM
import Derived.Test.YthjjjnapcbkhjaaImplArr3M
import Derived.Test.YthjjjnapcbkhjaaSmallM
import Derived.Test.YthjjjnapcbkhjaaTwosM
namespace Go.Proofs.Ythjjjnapcbkhjaa
open Go.RowKit
set_option linter.unusedVariables false
set_option linter.unusedSimpArgs false
set_option maxRecDepth 20000 in
set_option maxHeartbeats 1000000 in
/-- numberFor. -/
theorem numberFor_impl {s d : List Int} {w : World} {v : Value} (i : Nat) (h : ArrI w v s d) (h0 : s = [] → 0 < d.length) (h1 : s ≠ [] → i < d.length) (hd : d.length ≤ 1048576) :
    Calls Try.prog 102 #[v, .int .i64 (i : Int)] w fun r w' => r = .returned (.int .i64 (numOf s d i)) ∧ Below w.heap.size w w' := by
  obtain ⟨a, c, b, f, rfl, i1, i2, _, _⟩ := h
  by_cases e : s = []
  · subst e
    have E : Hid (numOf [] d i = d.getD 0 0) := by show _ = _; unfold numOf; rw [if_pos rfl]
    obtain ⟨b1, o1, rfl, hb1, c1⟩ := i2.at (h0 rfl)
    rw [Nat.add_zero] at c1
    have c2 : ∀ O : Obj, (w.alloc O).cell? ⟨b1, o1, none⟩ = some (.int .i64 (d.getD 0 0)) := fun O => ((bAlloc (Below.refl _ _) O).cell (p := ⟨b1, o1, none⟩) hb1).trans c1
    have hl : (0 : Int) < (d.length : Int) := by have := h0 rfl; omega
    generalize d.getD 0 0 = x at *
    clear i1 i2 h0 h1 c1
    go_enter Try.func102, Try.ntmps102
    go_wp2
    go_ret
    exact ⟨by rw [E.out]; rfl, bAlloc (Below.refl _ _) _⟩
  · have E : Hid (numOf s d i = d.getD i 0) := by show _ = _; unfold numOf; rw [if_neg e]
    obtain ⟨b1, o1, rfl, hb1, c1⟩ := i2.at (h1 e)
    have c2 : ∀ O : Obj, (w.alloc O).cell? ⟨b1, o1 + i, none⟩ = some (.int .i64 (d.getD i 0)) := fun O => ((bAlloc (Below.refl _ _) O).cell (p := ⟨b1, o1 + i, none⟩) hb1).trans c1
    have hl : (i : Int) < (d.length : Int) := by have := h1 e; omega
    have n1 : ((s.length : Int) == 0) = false := by
      have := List.length_pos_iff.2 e
      simp; omega
    generalize d.getD i 0 = x at *
    clear i1 i2 h0 h1 c1 e
    go_enter Try.func102, Try.ntmps102
    go_wp2
    go_ret
    exact ⟨by rw [E.out]; rfl, bAlloc (Below.refl _ _) _⟩
theorem known1 (g : Int) : ((oneV g 0).2 != 1) = sign1 g := by
  by_cases h : sign1 g = true
  · rcases sign1_of h with rfl | rfl | rfl | rfl | rfl <;> decide
  · have h : sign1 g = false := by simpa using h
    rw [oneV_none h, h]; rfl
theorem known2 (g : Int) : ((twoV g 0 0).2 != 1) = sign2 g := by
  by_cases h : sign2 g = true
  · rcases sign2_of h with rfl | rfl | rfl | rfl | rfl | rfl | rfl | rfl | rfl | rfl <;> decide
  · have h : sign2 g = false := by simpa using h
    rw [twoV_none h, h]; rfl
end Go.Proofs.Ythjjjnapcbkhjaa
