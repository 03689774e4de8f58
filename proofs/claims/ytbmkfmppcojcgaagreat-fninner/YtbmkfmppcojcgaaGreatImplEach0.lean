
/-
  Walks: the program's helpers of Chapter 4: numberFor, knownToOne, knownToTwo, and what EachOne and EachTwo do at a place.
-/
import Derived.Test.YtbmkfmppcojcgaaGreatEachP
import Derived.Test.YtbmkfmppcojcgaaGreatImplArr3
import Derived.Test.YtbmkfmppcojcgaaGreatOnes
import Derived.Test.YtbmkfmppcojcgaaGreatTwo
namespace Go.Proofs.YtbmkfmppcojcgaaGreat
open Go.RowKit
set_option linter.unusedVariables false
set_option linter.unusedSimpArgs false
set_option maxRecDepth 20000 in
set_option maxHeartbeats 1000000 in
/-- numberFor. -/
theorem numberFor_impl {s d : List Int} {w : World} {v : Value} (i : Nat) (h : ArrI w v s d) (h0 : s = [] → 0 < d.length) (h1 : s ≠ [] → i < d.length) (hd : d.length ≤ 1048576) :
    Calls Tryz.prog 96 #[v, .int .i64 (i : Int)] w fun r w' => r = .returned (.int .i64 (numOf s d i)) ∧ Below w.heap.size w w' := by
  obtain ⟨a, c, b, f, rfl, i1, i2, _, _⟩ := h
  by_cases e : s = []
  · subst e
    have E : Hid (numOf [] d i = d.getD 0 0) := by show _ = _; unfold numOf; rw [if_pos rfl]
    obtain ⟨b1, o1, rfl, hb1, c1⟩ := i2.at (h0 rfl)
    rw [Nat.add_zero] at c1
    have c2 : ∀ O : Obj, (w.alloc O).cell? ⟨b1, o1, none⟩ = some (.int .i64 (d.getD 0 0)) := fun O => ((bAlloc (Below.refl _ _) O).cell (p := ⟨b1, o1, none⟩) hb1).trans c1
    have hl : (0 : Int) < (d.length : Int) := by have := h0 rfl; omega
    generalize d.getD 0 0 = x at *
    clear i1 i2 h0 h1 c1
    go_enter Tryz.func96, Tryz.ntmps96
    go_wp2
    go_ret
    exact ⟨by rw [E.out]; rfl, bAlloc (Below.refl _ _) _⟩
  · have E : Hid (numOf s d i = d.getD i 0) := by show _ = _; unfold numOf; rw [if_neg e]
    obtain ⟨b1, o1, rfl, hb1, c1⟩ := i2.at (h1 e)
    have c2 : ∀ O : Obj, (w.alloc O).cell? ⟨b1, o1 + i, none⟩ = some (.int .i64 (d.getD i 0)) := fun O => ((bAlloc (Below.refl _ _) O).cell (p := ⟨b1, o1 + i, none⟩) hb1).trans c1
    have hl : (i : Int) < (d.length : Int) := by have := h1 e; omega
    have n1 : ((s.length : Int) == 0) = false := by
      have := List.length_pos_iff.2 e
      simp; omega
    generalize d.getD i 0 = x at *
    clear i1 i2 h0 h1 c1 e
    go_enter Tryz.func96, Tryz.ntmps96
    go_wp2
    go_ret
    exact ⟨by rw [E.out]; rfl, bAlloc (Below.refl _ _) _⟩
theorem known1 (g : Int) : ((oneV g 0).2 != 1) = sign1 g := by
  by_cases h : sign1 g = true
  · rcases sign1_of h with rfl | rfl | rfl | rfl | rfl <;> decide
  · have h : sign1 g = false := by simpa using h
    rw [oneV_none h, h]; rfl
theorem known2 (g : Int) : ((twoV g 0 0).2 != 1) = sign2 g := by
  by_cases h : sign2 g = true
  · rcases sign2_of h with rfl | rfl | rfl | rfl | rfl | rfl | rfl | rfl | rfl | rfl <;> decide
  · have h : sign2 g = false := by simpa using h
    rw [twoV_none h, h]; rfl
set_option maxHeartbeats 1000000 in
/-- knownToTwo. -/
theorem knownTwo_impl (g : Int) (w : World) :
    Calls Tryz.prog 18 #[.int .i64 g] w fun r w' => r = .returned (.bool (sign2 g)) ∧ Below w.heap.size w w' := by
  have K : Hid (((twoV g 0 0).2 != 1) = sign2 g) := known2 g
  have HV : Hid (∀ W, Calls Tryz.prog 37 #[.int .i64 g, .int .i64 0, .int .i64 0] W fun e w' => e = .returned (.tuple #[.int .i64 (twoV g 0 0).1, .int .i64 (twoV g 0 0).2]) ∧ Below W.heap.size W w') := fun W => two_impl g 0 0 W
  generalize (twoV g 0 0).1 = x at *
  generalize (twoV g 0 0).2 = y at *
  go_enter Tryz.func18, Tryz.ntmps18
  go_wp2_with fail
  refine (HV.out _).mono ?_
  rintro r w1 ⟨rfl, hb⟩
  have HB : Hid (Below w.heap.size w w1) := hb
  clear hb
  go_wp2
  go_ret
  exact ⟨by rw [← K.out]; rfl, HB.out⟩
set_option maxRecDepth 20000 in
set_option maxHeartbeats 1000000 in
/-- What EachTwo does at a place. -/
theorem does2_impl {g x y : Int} {w : World} {a : Option Addr} {q c : Nat} (h : Ints w a [x, y]) (hq : w.cell? ⟨q, 0, none⟩ = some (.int .i64 g)) :
    Calls Tryz.prog 36 #[.slice a 2 c, .pointer (some ⟨q, 0, none⟩)] w fun r w' => r = .returned (.tuple #[.int .i64 (twoV g x y).1, .int .i64 (twoV g x y).2]) ∧ Below w.heap.size w w' := by
  obtain ⟨b1, o1, rfl, hb1, c1⟩ := h.at (k := 0) (by simp)
  obtain ⟨b2, o2, e2, _, c2⟩ := h.at (k := 1) (by simp)
  cases e2
  have x0 : w.cell? ⟨b1, o1, none⟩ = some (.int .i64 x) := by simpa using c1
  have x1 : w.cell? ⟨b1, o1 + 1, none⟩ = some (.int .i64 y) := by simpa using c2
  have HV : Hid (∀ W, Calls Tryz.prog 37 #[.int .i64 g, .int .i64 x, .int .i64 y] W fun e w' => e = .returned (.tuple #[.int .i64 (twoV g x y).1, .int .i64 (twoV g x y).2]) ∧ Below W.heap.size W w') := fun W => two_impl g x y W
  clear c1 c2 h
  generalize (twoV g x y).1 = u at *
  generalize (twoV g x y).2 = z at *
  go_enter Tryz.func36, Tryz.ntmps36
  go_wp2
  first
    | go_region_with (go_at_call 37; refine (HV.out _).mono ?_; rintro r w1 ⟨rfl, hb⟩; have HB1 : Hid (Below w.heap.size w w1) := bTrans ((Below.refl w.heap.size w).drew) hb; clear hb)
    | fail "no"
  all_goals
    go_wp2
    go_ret2
    exact ⟨rfl, HB1.out⟩
end Go.Proofs.YtbmkfmppcojcgaaGreat
