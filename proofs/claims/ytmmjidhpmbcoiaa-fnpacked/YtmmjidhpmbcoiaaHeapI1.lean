/-
  Walks: the program's fits, behind, inOrder.
-/
import Derived.Test.YtmmjidhpmbcoiaaHeapM
import Derived.Test.YtmmjidhpmbcoiaaHeapF
import Derived.Test.YtmmjidhpmbcoiaaSortF
import Derived.Test.YtmmjidhpmbcoiaaHeapS1
namespace Go.Proofs.Ytmmjidhpmbcoiaa
open Go.RowKit
open Go.Sort (SWO PermIn SortedIn)
set_option linter.unusedVariables false
set_option linter.unusedSimpArgs false
noncomputable def fitB (t : Int) (c : Cel) : Bool := @decide (fit t c) (Classical.propDecidable _)
theorem fitB_true {t : Int} {c : Cel} (h : fit t c) : fitB t c = true := by unfold fitB; simp [h]
theorem fitB_false {t : Int} {c : Cel} (h : ¬ fit t c) : fitB t c = false := by unfold fitB; simp [h]
theorem fitB_iff {t : Int} {c : Cel} : fitB t c = true ↔ fit t c := by unfold fitB; simp
set_option maxRecDepth 20000 in
set_option maxHeartbeats 8000000 in
theorem fits_impl (t f l : Int) (b : Bool) (w : World) (ht : 0 ≤ t ∧ t ≤ 6000) (hf : in64 f) (hl : in64 l) :
    Calls Try.prog 48 #[.agg #[.int .i64 f, .int .i64 l, .bool b], .int .i64 t] w fun e w' => e = .returned (.bool (fitB t ⟨f, l, b⟩)) ∧ Below w.heap.size w w' := by
  unfold in64 at hf hl
  cases b with
  | false =>
    have e : fitB t ⟨f, l, false⟩ = (decide (f = 0) && decide (l = 0)) := by
      by_cases h : f = 0 ∧ l = 0
      · rw [fitB_true ⟨fun _ => h, fun h => by cases h⟩]; simp [h.1, h.2]
      · rw [fitB_false (fun hh => h (hh.1 rfl))]; simp; omega
    rw [e]
    go_enter Try.func48, Try.ntmps48
    go_wp2
    all_goals
      go_ret
      exact ⟨by simp_all, bAlloc (Below.refl _ _) _⟩
  | true =>
    by_cases c1 : l ≥ 1
    · by_cases c2 : f ≥ 0
      · have hw : IntKind.i64.wrap (t - f) = t - f := by rw [IntKind.wrap_i64]; omega
        have e : fitB t ⟨f, l, true⟩ = decide (l ≤ t - f) := by
          by_cases h : l ≤ t - f
          · rw [fitB_true ⟨fun h => (by cases h), fun _ => ⟨c1, c2, by show f + l ≤ t; omega⟩⟩]; simp [h]
          · rw [fitB_false (fun hh => h (by have := (hh.2 rfl).2.2; simp at this; omega))]; simp; omega
        rw [e]
        go_enter Try.func48, Try.ntmps48
        go_wp2
        go_ret
        exact ⟨rfl, bAlloc (Below.refl _ _) _⟩
      · rw [fitB_false (fun hh => c2 (hh.2 rfl).2.1)]
        go_enter Try.func48, Try.ntmps48
        go_wp2
        go_ret
        exact ⟨rfl, bAlloc (Below.refl _ _) _⟩
    · rw [fitB_false (fun hh => c1 (hh.2 rfl).1)]
      go_enter Try.func48, Try.ntmps48
      go_wp2
      go_ret
      exact ⟨rfl, bAlloc (Below.refl _ _) _⟩
set_option maxRecDepth 20000 in
set_option maxHeartbeats 4000000 in
theorem behind_impl (f l : Int) (b : Bool) (w : World) (h : in64 (f + l)) :
    Calls Try.prog 50 #[.agg #[.int .i64 f, .int .i64 l, .bool b]] w fun e w' => e = .returned (.int .i64 (f + l)) ∧ Below w.heap.size w w' := by
  unfold in64 at h
  have hw : IntKind.i64.wrap (f + l) = f + l := by rw [IntKind.wrap_i64]; omega
  go_enter Try.func50, Try.ntmps50
  go_wp2
  go_ret
  exact ⟨rfl, bAlloc (Below.refl _ _) _⟩
set_option maxRecDepth 20000 in
set_option maxHeartbeats 4000000 in
theorem isNaN_impl (x : Int) (w : World) : Calls Try.prog 107 #[.int .i64 x] w fun e w' => e = .returned (.bool false) ∧ w' = w := by
  have h : (x != x) = false := by simp
  go_enter Try.func107, Try.ntmps107
  go_wp2
  go_ret
  exact ⟨rfl, rfl⟩
set_option maxRecDepth 20000 in
set_option maxHeartbeats 4000000 in
theorem compare_impl (x y : Int) (w : World) : Calls Try.prog 86 #[.int .i64 x, .int .i64 y] w fun e w' => e = .returned (.int .i64 (cmpK x y)) ∧ w' = w := by
  unfold cmpK
  by_cases h1 : x < y
  · rw [if_pos h1]
    go_enter Try.func86, Try.ntmps86
    go_wp2_with (go_at_call 107; refine (isNaN_impl _ _).mono ?_; rintro r w1 ⟨rfl, hw⟩; subst w1)
    go_ret
    exact ⟨rfl, rfl⟩
  · rw [if_neg h1]
    by_cases h2 : x > y
    · rw [if_pos h2]
      go_enter Try.func86, Try.ntmps86
      go_wp2_with (go_at_call 107; refine (isNaN_impl _ _).mono ?_; rintro r w1 ⟨rfl, hw⟩; subst w1)
      go_ret
      exact ⟨rfl, rfl⟩
    · rw [if_neg h2]
      go_enter Try.func86, Try.ntmps86
      go_wp2_with (go_at_call 107; refine (isNaN_impl _ _).mono ?_; rintro r w1 ⟨rfl, hw⟩; subst w1)
      go_ret
      exact ⟨rfl, rfl⟩
set_option maxRecDepth 20000 in
set_option maxHeartbeats 8000000 in
/-- The closure that holds two handles against each other by where they begin. -/
theorem less_impl {W : World} {g n i j : Nat} {x : Value} {t : Int} {ca : Option Addr} {cc : Nat} {ty : TypeId} {E : Nat → Cel} (hX : Box3 W g x (.int .i64 t) (.slice ca n cc) ty) (hC : CsA W ca n E) (hi : i < n) (hj : j < n) (hn : n ≤ 1048576) :
    Calls Try.prog 85 #[.int .i64 (i : Int), .int .i64 (j : Int), .pointer (some ⟨g, 0, none⟩)] W fun e w' => e = .returned (.int .i64 (cmpK (E i).f (E j).f)) ∧ ∃ q, w' = W.drewN q := by
  obtain ⟨o, off, rfl, ho, p0, _, _⟩ := hC.at hi
  obtain ⟨o', off', e, ho', q0, _, _⟩ := hC.at hj
  cases e
  have x2 := hX.c2
  have CC : Hid (∀ W, Calls Try.prog 86 #[.int .i64 (E i).f, .int .i64 (E j).f] W fun e w' => e = .returned (.int .i64 (cmpK (E i).f (E j).f)) ∧ w' = W) := fun W => compare_impl _ _ W
  generalize (E i).f = fi at *
  generalize (E j).f = fj at *
  generalize cmpK fi fj = R at *
  have i1 : (i : Int) < (n : Int) := by omega
  have j1 : (j : Int) < (n : Int) := by omega
  have i2 : (0 : Int) ≤ (i : Int) := by omega
  have j2 : (0 : Int) ≤ (j : Int) := by omega
  have i3 : ((i : Int)).toNat = i := by omega
  have j3 : ((j : Int)).toNat = j := by omega
  clear hX hC ho ho' hi hj
  go_enter Try.func85, Try.ntmps85
  go_wp2_with fail
  go_quiet ((go_at_call 86; exact Calls.quiet_of_same (CC.out _)))
  go_wp2
  go_ret
  exact ⟨rfl, _, rfl⟩
/-- The handles of what is in use among the first k. -/
def liv (E : Nat → Cel) (k : Nat) : List Nat := (List.range k).filter fun i => (E i).v
theorem liv_succ (E : Nat → Cel) (k : Nat) : liv E (k + 1) = if (E k).v then liv E k ++ [k] else liv E k := by
  unfold liv
  rw [List.range_succ, List.filter_append]
  cases h : (E k).v <;> simp [h]
theorem liv_len (E : Nat → Cel) (k : Nat) : (liv E k).length ≤ k := by
  unfold liv
  exact Nat.le_trans (List.length_filter_le _ _) (by simp)
theorem liv_mem {E : Nat → Cel} {k i : Nat} : i ∈ liv E k ↔ i < k ∧ (E i).v = true := by simp [liv]
/-- In the order in which they stand. -/
def Ord (E : Nat → Cel) (n : Nat) (hs : List Nat) : Prop := hs.Perm (liv E n) ∧ hs.Pairwise (fun a b => (E a).f ≤ (E b).f)
theorem make2_ints (n : Nat) (hn : n ≤ 1073741824) (w : World) :
    ∃ w', (Instr.makeSlice 25 (.int .i64 0) (.int .i64 (n : Int))).run Try.prog w = .ok (.slice (some ⟨w.heap.size, 0, none⟩) 0 n) w' ∧ NewInts w.heap.size w' (.slice (some ⟨w.heap.size, 0, none⟩) 0 n) [] ∧ Below w.heap.size w w' ∧ w'.heap.size = w.heap.size + 1 := by
  have hi := info_int
  cases hq : Try.prog.info? 3 with
  | none => rw [hq] at hi; cases hi
  | some i =>
    rw [hq] at hi
    simp at hi
    obtain ⟨z1, z2, z3⟩ := hi
    have := run_make (P := Try.prog) w 25 3 i (.int .i64 0) Try.underlying25 hq z1 .i64 .i64 0 n (by omega) (by omega) (by rw [z3]; omega) (by omega)
    rw [z2, Int.toNat_natCast, Nat.mul_one] at this
    refine ⟨_, this, ⟨rfl, .inr ⟨w.heap.size, n, _, rfl, Nat.le_refl _, heap_alloc_new w _, Nat.zero_le _, by unfold maxLen; omega, ?_, by simp⟩⟩, bAlloc (Below.refl _ _) _, by simp⟩
    rw [made_zero]
    simp [vals]
end Go.Proofs.Ytmmjidhpmbcoiaa
