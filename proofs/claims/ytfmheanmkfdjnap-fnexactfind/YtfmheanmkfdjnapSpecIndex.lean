/-
  Walks: the specification's IndexOf, whatever list and place it is given.
-/
import Derived.Test.YtfmheanmkfdjnapSpecShape
import Derived.LoopN
namespace Go.Proofs.Ytfmheanmkfdjnap
open Go.RowKit
set_option linter.unusedVariables false
set_option maxRecDepth 20000 in
set_option maxHeartbeats 2000000 in
theorem index_bad_spec (s : List Int) (p : Int) (a : Option Addr) (c : Nat) (w : World) (h1 : Ints w a s) (hb : sizeV s < 0 ∨ p < 0 ∨ sizeV s - 1 < p) :
    Calls Try.prog 30 #[.slice a s.length c, .int .i64 p] w fun e w' => e = .returned (.slice (some ⟨w.heap.size, 0, none⟩) 0 0) ∧ w' = w.alloc (.cells #[] 3) := by
  have H1 : Hid (Ints w a s) := h1
  clear h1
  obtain ⟨z1, z2⟩ := sizeV_bd s
  by_cases hs : 0 ≤ sizeV s
  · have hs' : decide (0 ≤ sizeV s) = true := by simpa using hs
    have hp : (decide (0 ≤ p) && decide (p ≤ sizeV s - 1)) = false := by simp; omega
    clear hb hs
    go_enter Try.func30, Try.ntmps30
    go_wp2_with (first | (go_at_call 42; refine (ok_spec _ H1.out).mono ?_; rintro e w' ⟨rfl, hw⟩; subst w') | (go_at_call 44; refine (size_spec _ H1.out).mono ?_; rintro e w' ⟨rfl, hw⟩; subst w') | (go_at_call 52; refine (in_spec _ _ _ _).mono ?_; rintro e w' ⟨rfl, hw⟩; subst w'))
    go_ret
    exact ⟨rfl, rfl⟩
  · have hs' : decide (0 ≤ sizeV s) = false := by simpa using hs
    clear hb hs
    go_enter Try.func30, Try.ntmps30
    go_wp2_with (first | (go_at_call 42; refine (ok_spec _ H1.out).mono ?_; rintro e w' ⟨rfl, hw⟩; subst w') | (go_at_call 44; refine (size_spec _ H1.out).mono ?_; rintro e w' ⟨rfl, hw⟩; subst w') | (go_at_call 52; refine (in_spec _ _ _ _).mono ?_; rintro e w' ⟨rfl, hw⟩; subst w'))
    go_ret
    exact ⟨rfl, rfl⟩
set_option maxRecDepth 20000 in
set_option maxHeartbeats 2000000 in
theorem index_0_spec (p : Int) (a : Option Addr) (c : Nat) (w : World) (h1 : Ints w a []) (hs : 0 ≤ sizeV []) (q1 : 0 ≤ p) (q2 : p ≤ sizeV [] - 1)  :
    Calls Try.prog 30 #[.slice a 0 c, .int .i64 p] w fun e w' => e = .returned (.slice (some ⟨w.heap.size, 0, none⟩) 0 0) ∧ w' = w.alloc (.cells (vals []) 3) := by
  have H1 : Hid (Ints w a []) := h1
  clear h1
  obtain ⟨z1, z2⟩ := sizeV_bd []
  have hs' : decide (0 ≤ sizeV []) = true := by simpa using hs
  have hp : (decide (0 ≤ p) && decide (p ≤ sizeV [] - 1)) = true := by simp; omega
  have HO : Hid (∀ ad w, Ints w ad [] → Calls Try.prog 42 #[.slice ad 0 c] w fun e w' => e = .returned (.bool (decide (0 ≤ sizeV []))) ∧ w' = w) := fun ad w h => ok_spec c h
  have HZ : Hid (∀ ad w, Ints w ad [] → Calls Try.prog 44 #[.slice ad 0 c] w fun e w' => e = .returned (.int .i64 (sizeV [])) ∧ w' = w) := fun ad w h => size_spec c h
  have hmk : ∀ w, (Instr.makeSlice 22 (.int .i64 0) (.int .i64 0)).run Try.prog w = .ok (.slice (some ⟨w.heap.size, 0, none⟩) 0 0) (w.alloc (.cells #[] 3)) := fun w => make_ints 0 (by omega) w
  generalize sizeV [] = sz at *
  go_enter Try.func30, Try.ntmps30
  go_wp2_with (first | (go_at_call 42; refine (HO.out _ _ (by first | exact H2.out | exact H1.out)).mono ?_; rintro e w' ⟨rfl, hw⟩; subst w') | (go_at_call 44; refine (HZ.out _ _ (by first | exact H2.out | exact H1.out)).mono ?_; rintro e w' ⟨rfl, hw⟩; subst w') | (go_at_call 52; refine (in_spec _ _ _ _).mono ?_; rintro e w' ⟨rfl, hw⟩; subst w'))
  refine wp_loop_rounds 1 ?_
  rw [rounds_succ]
  go_wp2
  go_ret
  exact ⟨rfl, rfl⟩
set_option maxRecDepth 20000 in
set_option maxHeartbeats 2000000 in
theorem index_1_spec (p : Int) (x : Int) (a : Option Addr) (c : Nat) (w : World) (h1 : Ints w a [x]) (hs : 0 ≤ sizeV [x]) (q1 : 0 ≤ p) (q2 : p ≤ sizeV [x] - 1) (x0 : 0 < x) (x1 : x ≤ 300) :
    Calls Try.prog 30 #[.slice a 1 c, .int .i64 p] w fun e w' => e = .returned (.slice (some ⟨w.heap.size, 0, none⟩) 1 1) ∧ w' = w.alloc (.cells (vals [p % x]) 3) := by
  have H1 : Hid (Ints w a [x]) := h1
  clear h1
  obtain ⟨z1, z2⟩ := sizeV_bd [x]
  have hs' : decide (0 ≤ sizeV [x]) = true := by simpa using hs
  have hp : (decide (0 ≤ p) && decide (p ≤ sizeV [x] - 1)) = true := by simp; omega
  have HO : Hid (∀ ad w, Ints w ad [x] → Calls Try.prog 42 #[.slice ad 1 c] w fun e w' => e = .returned (.bool (decide (0 ≤ sizeV [x]))) ∧ w' = w) := fun ad w h => ok_spec c h
  have HZ : Hid (∀ ad w, Ints w ad [x] → Calls Try.prog 44 #[.slice ad 1 c] w fun e w' => e = .returned (.int .i64 (sizeV [x])) ∧ w' = w) := fun ad w h => size_spec c h
  have hmk : ∀ w, (Instr.makeSlice 22 (.int .i64 1) (.int .i64 1)).run Try.prog w = .ok (.slice (some ⟨w.heap.size, 0, none⟩) 1 1) (w.alloc (.cells #[.int .i64 0] 3)) := fun w => make_ints 1 (by omega) w
  rcases H1.out with h0 | ⟨b, off, rfl, hb, hc⟩
  · cases h0
  have H2 : Hid (Ints w (some ⟨b, off, none⟩) [x]) := H1.out
  have c0 : w.cell? ⟨b, off, none⟩ = some (.int .i64 x) := hc 0 (by simp)
  clear hc
  generalize sizeV [x] = sz at *
  go_enter Try.func30, Try.ntmps30
  go_wp2_with (first | (go_at_call 42; refine (HO.out _ _ (by first | exact H2.out | exact H1.out)).mono ?_; rintro e w' ⟨rfl, hw⟩; subst w') | (go_at_call 44; refine (HZ.out _ _ (by first | exact H2.out | exact H1.out)).mono ?_; rintro e w' ⟨rfl, hw⟩; subst w') | (go_at_call 52; refine (in_spec _ _ _ _).mono ?_; rintro e w' ⟨rfl, hw⟩; subst w'))
  refine wp_loop_rounds 2 ?_
  rw [rounds_succ]
  go_wp2
  rw [rounds_succ]
  go_wp2
  go_ret
  exact ⟨rfl, rfl⟩
set_option maxRecDepth 20000 in
set_option maxHeartbeats 2000000 in
theorem index_2_spec (p : Int) (x y : Int) (a : Option Addr) (c : Nat) (w : World) (h1 : Ints w a [x, y]) (hs : 0 ≤ sizeV [x, y]) (q1 : 0 ≤ p) (q2 : p ≤ sizeV [x, y] - 1) (x0 : 0 < x) (x1 : x ≤ 300) (y0 : 0 < y) (y1 : y ≤ 300) :
    Calls Try.prog 30 #[.slice a 2 c, .int .i64 p] w fun e w' => e = .returned (.slice (some ⟨w.heap.size, 0, none⟩) 2 2) ∧ w' = w.alloc (.cells (vals [p / y % x, p % y]) 3) := by
  have H1 : Hid (Ints w a [x, y]) := h1
  clear h1
  obtain ⟨z1, z2⟩ := sizeV_bd [x, y]
  have hs' : decide (0 ≤ sizeV [x, y]) = true := by simpa using hs
  have hp : (decide (0 ≤ p) && decide (p ≤ sizeV [x, y] - 1)) = true := by simp; omega
  have HO : Hid (∀ ad w, Ints w ad [x, y] → Calls Try.prog 42 #[.slice ad 2 c] w fun e w' => e = .returned (.bool (decide (0 ≤ sizeV [x, y]))) ∧ w' = w) := fun ad w h => ok_spec c h
  have HZ : Hid (∀ ad w, Ints w ad [x, y] → Calls Try.prog 44 #[.slice ad 2 c] w fun e w' => e = .returned (.int .i64 (sizeV [x, y])) ∧ w' = w) := fun ad w h => size_spec c h
  have hmk : ∀ w, (Instr.makeSlice 22 (.int .i64 2) (.int .i64 2)).run Try.prog w = .ok (.slice (some ⟨w.heap.size, 0, none⟩) 2 2) (w.alloc (.cells #[.int .i64 0, .int .i64 0] 3)) := fun w => make_ints 2 (by omega) w
  have d1 : 0 ≤ p / y := Int.ediv_nonneg q1 (by omega)
  have d2 : p / y ≤ p := Int.ediv_le_self _ q1
  rcases H1.out with h0 | ⟨b, off, rfl, hb, hc⟩
  · cases h0
  have H2 : Hid (Ints w (some ⟨b, off, none⟩) [x, y]) := H1.out
  have c0 : w.cell? ⟨b, off, none⟩ = some (.int .i64 x) := hc 0 (by simp)
  have c1 : w.cell? ⟨b, off + 1, none⟩ = some (.int .i64 y) := hc 1 (by simp)
  clear hc
  generalize sizeV [x, y] = sz at *
  go_enter Try.func30, Try.ntmps30
  go_wp2_with (first | (go_at_call 42; refine (HO.out _ _ (by first | exact H2.out | exact H1.out)).mono ?_; rintro e w' ⟨rfl, hw⟩; subst w') | (go_at_call 44; refine (HZ.out _ _ (by first | exact H2.out | exact H1.out)).mono ?_; rintro e w' ⟨rfl, hw⟩; subst w') | (go_at_call 52; refine (in_spec _ _ _ _).mono ?_; rintro e w' ⟨rfl, hw⟩; subst w'))
  refine wp_loop_rounds 3 ?_
  rw [rounds_succ]
  go_wp2
  rw [rounds_succ]
  go_wp2
  rw [rounds_succ]
  go_wp2
  go_ret
  exact ⟨rfl, rfl⟩
set_option maxRecDepth 20000 in
set_option maxHeartbeats 2000000 in
theorem index_3_spec (p : Int) (x y z : Int) (a : Option Addr) (c : Nat) (w : World) (h1 : Ints w a [x, y, z]) (hs : 0 ≤ sizeV [x, y, z]) (q1 : 0 ≤ p) (q2 : p ≤ sizeV [x, y, z] - 1) (x0 : 0 < x) (x1 : x ≤ 300) (y0 : 0 < y) (y1 : y ≤ 300) (z0 : 0 < z) (z1 : z ≤ 300) :
    Calls Try.prog 30 #[.slice a 3 c, .int .i64 p] w fun e w' => e = .returned (.slice (some ⟨w.heap.size, 0, none⟩) 3 3) ∧ w' = w.alloc (.cells (vals [p / z / y % x, p / z % y, p % z]) 3) := by
  have H1 : Hid (Ints w a [x, y, z]) := h1
  clear h1
  obtain ⟨z1, z2⟩ := sizeV_bd [x, y, z]
  have hs' : decide (0 ≤ sizeV [x, y, z]) = true := by simpa using hs
  have hp : (decide (0 ≤ p) && decide (p ≤ sizeV [x, y, z] - 1)) = true := by simp; omega
  have HO : Hid (∀ ad w, Ints w ad [x, y, z] → Calls Try.prog 42 #[.slice ad 3 c] w fun e w' => e = .returned (.bool (decide (0 ≤ sizeV [x, y, z]))) ∧ w' = w) := fun ad w h => ok_spec c h
  have HZ : Hid (∀ ad w, Ints w ad [x, y, z] → Calls Try.prog 44 #[.slice ad 3 c] w fun e w' => e = .returned (.int .i64 (sizeV [x, y, z])) ∧ w' = w) := fun ad w h => size_spec c h
  have hmk : ∀ w, (Instr.makeSlice 22 (.int .i64 3) (.int .i64 3)).run Try.prog w = .ok (.slice (some ⟨w.heap.size, 0, none⟩) 3 3) (w.alloc (.cells #[.int .i64 0, .int .i64 0, .int .i64 0] 3)) := fun w => make_ints 3 (by omega) w
  have d1 : 0 ≤ p / z := Int.ediv_nonneg q1 (by omega)
  have d2 : p / z ≤ p := Int.ediv_le_self _ q1
  have d3 : 0 ≤ p / z / y := Int.ediv_nonneg d1 (by omega)
  have d4 : p / z / y ≤ p / z := Int.ediv_le_self _ d1
  rcases H1.out with h0 | ⟨b, off, rfl, hb, hc⟩
  · cases h0
  have H2 : Hid (Ints w (some ⟨b, off, none⟩) [x, y, z]) := H1.out
  have c0 : w.cell? ⟨b, off, none⟩ = some (.int .i64 x) := hc 0 (by simp)
  have c1 : w.cell? ⟨b, off + 1, none⟩ = some (.int .i64 y) := hc 1 (by simp)
  have c2 : w.cell? ⟨b, off + 2, none⟩ = some (.int .i64 z) := hc 2 (by simp)
  clear hc
  generalize sizeV [x, y, z] = sz at *
  go_enter Try.func30, Try.ntmps30
  go_wp2_with (first | (go_at_call 42; refine (HO.out _ _ (by first | exact H2.out | exact H1.out)).mono ?_; rintro e w' ⟨rfl, hw⟩; subst w') | (go_at_call 44; refine (HZ.out _ _ (by first | exact H2.out | exact H1.out)).mono ?_; rintro e w' ⟨rfl, hw⟩; subst w') | (go_at_call 52; refine (in_spec _ _ _ _).mono ?_; rintro e w' ⟨rfl, hw⟩; subst w'))
  refine wp_loop_rounds 4 ?_
  rw [rounds_succ]
  go_wp2
  rw [rounds_succ]
  go_wp2
  rw [rounds_succ]
  go_wp2
  rw [rounds_succ]
  go_wp2
  go_ret
  exact ⟨rfl, rfl⟩
/-- IndexOf, whatever list and place it is given: a list in new memory. -/
theorem index_spec {s : List Int} {a : Option Addr} {w : World} (p : Int) (c : Nat) (h1 : Ints w a s) :
    Calls Try.prog 30 #[.slice a s.length c, .int .i64 p] w fun e w' => e = .returned (.slice (some ⟨w.heap.size, 0, none⟩) (indexV s p).length (indexV s p).length) ∧ w' = w.alloc (.cells (vals (indexV s p)) 3) := by
  by_cases hb : sizeV s < 0 ∨ p < 0 ∨ sizeV s - 1 < p
  · have e : indexV s p = [] := by unfold indexV; rw [if_pos hb]
    rw [e]
    exact index_bad_spec s p a c w h1 hb
  · have e : indexV s p = idx s p := by unfold indexV; rw [if_neg hb]
    rw [e]
    have hs : 0 ≤ sizeV s := by omega
    obtain ⟨k1, k2, k3, k4⟩ := sizeV_ok hs
    rcases len3 k1 with rfl | ⟨x, rfl⟩ | ⟨x, y, rfl⟩ | ⟨x, y, z, rfl⟩
    · exact index_0_spec p a c w h1 hs (by omega) (by omega)
    · simp only [List.all_cons, List.all_nil, Bool.and_true] at k2
      have dx := dimOk_bd k2
      rw [prod1] at k4
      exact index_1_spec p x a c w h1 hs (by omega) (by omega) (by omega) dx.2
    · simp only [List.all_cons, List.all_nil, Bool.and_true, Bool.and_eq_true] at k2
      have dx := dimOk_bd k2.1
      have dy := dimOk_bd k2.2
      rw [prod2] at k4
      have q := pos_of_mul dx.1 dy.1 (by omega)
      exact index_2_spec p x y a c w h1 hs (by omega) (by omega) q.1 dx.2 q.2 dy.2
    · simp only [List.all_cons, List.all_nil, Bool.and_true, Bool.and_eq_true] at k2
      have dx := dimOk_bd k2.1
      have dy := dimOk_bd k2.2.1
      have dz := dimOk_bd k2.2.2
      rw [prod3] at k4
      have q := pos_of_mul (Int.mul_nonneg dx.1 dy.1) dz.1 (by omega)
      have q' := pos_of_mul dx.1 dy.1 q.1
      exact index_3_spec p x y z a c w h1 hs (by omega) (by omega) q'.1 dx.2 q'.2 dy.2 q.2 dz.2
end Go.Proofs.Ytfmheanmkfdjnap
