/-
  Several texts, one behind the other: SpecMake5, SpecMake2, SpecMake6.
-/
import Derived.Test.YtnkacfgbkfkhdaaGreatY26
import Derived.Test.YtnkacfgbkfkhdaaGreatY29
import Derived.Test.YtnkacfgbkfkhdaaGreatY9
import Derived.Test.YtnkacfgbkfkhdaaGreatY19
namespace Go.Proofs.YtnkacfgbkfkhdaaGreat
open Go.RowKit
set_option linter.unusedVariables false
set_option linter.unusedSimpArgs false
theorem flat2_odd (x y : Nat → List Int) {k i : Nat} (h : i < k) : ((List.range k).flatMap (fun i => [x i, y i])).getD (2 * i + 1) [] = y i := by
  induction k with
  | zero => omega
  | succ k ih =>
    have hl : ((List.range k).flatMap (fun i => [x i, y i])).length = 2 * k := flat2_length k _ (fun _ => rfl)
    rw [List.range_succ, List.flatMap_append, List.getD_eq_getElem?_getD]
    by_cases e : i = k
    · subst e
      rw [List.getElem?_append_right (by rw [hl]; omega), hl, show 2 * i + 1 - 2 * i = 1 from by omega]
      simp
    · rw [List.getElem?_append_left (by rw [hl]; omega), ← List.getD_eq_getElem?_getD]
      exact ih (by omega)
theorem rowsF_odd {s d : List Int} (ho : arrOk s d = true) (hs : s ≠ []) {i : Nat} (hi : i < rowsN s) : (rowsF s d).getD (2 * i + 1) [] = rowAt s d i := by
  unfold rowsF
  rw [if_pos ⟨ho, hs⟩]
  exact flat2_odd (fun _ => s.drop 1) (fun i => (d.drop (i * (sizeV (s.drop 1)).toNat)).take (sizeV (s.drop 1)).toNat) hi
theorem flat_bound (n m : Nat) (f : Nat → List Int) (h : ∀ i, (f i).length ≤ m) : ((List.range n).flatMap f).length ≤ n * m := by
  induction n with
  | zero => simp
  | succ n ih =>
    rw [List.range_succ, List.flatMap_append, List.length_append]
    have := h n
    simp only [List.flatMap_cons, List.flatMap_nil, List.append_nil]
    rw [Nat.succ_mul]
    omega
theorem pick_bound (s d : List Int) (idx : Nat → Nat) {n : Nat} (hn : n ≤ 300) : (catF (pickF (rowsF s d) idx n) n).length ≤ 1000000 := by
  rw [catF_pick]
  have := flat_bound n 300 (fun i => (rowsF s d).getD (2 * idx i + 1) []) (fun i => rowsF_each s d _)
  have : n * 300 ≤ 300 * 300 := Nat.mul_le_mul_right _ hn
  omega
theorem pick_rows {s d : List Int} (ho : arrOk s d = true) (hs : s ≠ []) {idx : Nat → Nat} {n : Nat} (h : ∀ i, i < n → idx i < rowsN s) : catF (pickF (rowsF s d) idx n) n = (List.range n).flatMap (fun i => rowAt s d (idx i)) := by
  rw [catF_pick, List.flatMap_def, List.flatMap_def]
  congr 1
  apply List.map_congr_left
  intro i hi
  exact rowsF_odd ho hs (h i (by simpa using hi))
theorem rowsN_bd {s d : List Int} (ho : arrOk s d = true) : rowsN s ≤ 300 ∧ s.getD 0 0 = (rowsN s : Int) := by
  have := head_bd ho
  unfold rowsN
  omega
theorem cons_eta {s : List Int} (h : s ≠ []) : s.getD 0 0 :: s.drop 1 = s := by
  cases s with
  | nil => exact absurd rfl h
  | cons x l => rfl
theorem tail_cut_ne {w : World} {a : Option Addr} {s : List Int} {c : Nat} (h : Ints w a s) (hs : s ≠ []) (hc : s.length ≤ c) :
    ∃ tl ct, (∀ W, (Instr.slice 24 (.slice a s.length c) (some (.int .i64 1)) none none).run Tryz.prog W = .ok (.slice tl (s.drop 1).length ct) W) ∧ IntsI w (.slice tl (s.drop 1).length ct) (s.drop 1) := by
  cases s with
  | nil => exact absurd rfl hs
  | cons x l => exact tail_cut h hc
end Go.Proofs.YtnkacfgbkfkhdaaGreat
namespace Go.Proofs.YtnkacfgbkfkhdaaGreat
open Go.RowKit
set_option linter.unusedVariables false
set_option linter.unusedSimpArgs false
theorem blocks3 (w : World) (A B C : Obj) : (((w.alloc A).alloc B).alloc C).heap[w.heap.size]? = some A ∧ (((w.alloc A).alloc B).alloc C).heap[w.heap.size + 1]? = some B ∧ (((w.alloc A).alloc B).alloc C).heap[w.heap.size + 1 + 1]? = some C := by
  have e1 := heap_alloc_new w A
  have e2 := heap_alloc_new (w.alloc A) B
  have e3 := heap_alloc_new ((w.alloc A).alloc B) C
  simp only [World.size_alloc] at e2 e3
  refine ⟨?_, ?_, e3⟩
  · rw [heap_alloc_old _ _ (by simp only [World.size_alloc]; omega), heap_alloc_old _ _ (by simp only [World.size_alloc]; omega)]; exact e1
  · rw [heap_alloc_old _ _ (by simp only [World.size_alloc]; omega)]; exact e2
theorem one_list {d : List Int} (h : d.length = 1) : d = [d.getD 0 0] := by
  match d, h with
  | [x], _ => rfl
end Go.Proofs.YtnkacfgbkfkhdaaGreat
namespace Go.Proofs.YtnkacfgbkfkhdaaGreat
open Go.RowKit
set_option linter.unusedVariables false
set_option linter.unusedSimpArgs false
theorem oneC_ok {s d t e : List Int} (ho : arrOk s d = true) (ho' : arrOk t e = true) (hl : d.length = 1) : oneC s d t e = 0 := by unfold oneC; rw [if_pos ⟨ho, ho'⟩, if_neg (by simpa using hl)]
theorem oneC_3 {s d t e : List Int} (ho : arrOk s d = true) (ho' : arrOk t e = true) (hl : ¬ d.length = 1) : oneC s d t e = 3 := by unfold oneC; rw [if_pos ⟨ho, ho'⟩, if_pos hl]
theorem num_bd {s d : List Int} (ho : arrOk s d = true) (h : 0 < d.length) : -1000000000000 ≤ d.getD 0 0 ∧ d.getD 0 0 ≤ 1000000000000 := by
  have h2 : d.all ok = true := by
    unfold arrOk at ho
    simp only [Bool.and_eq_true] at ho
    exact ho.2
  have := List.all_eq_true.1 h2 (d.getD 0 0) (by simp [h])
  exact ok_bd this
theorem wrap64_small {a : Int} (h1 : -1000000000000000 ≤ a) (h2 : a ≤ 1000000000000000) : wrap64 a = a := by unfold wrap64; omega
theorem turn_num {x : Int} {n : Nat} (hn : 0 < n) : (Int.tmod (Int.tmod x n + n) n) = ((rotateBy x n : Nat) : Int) ∧ rotateBy x n < n ∧ -(n : Int) < Int.tmod x n ∧ Int.tmod x n < n := by
  unfold rotateBy
  have h0 : (0 : Int) < (n : Int) := by omega
  have e1 := Int.emod_nonneg x (b := (n : Int)) (by omega)
  have e2 := Int.emod_lt_of_pos x h0
  have hb : -(n : Int) < Int.tmod x n ∧ Int.tmod x n < n := ⟨by have := Int.lt_tmod_of_pos x h0; omega, Int.tmod_lt_of_pos x h0⟩
  refine ⟨?_, by omega, hb⟩
  rw [Int.tmod_eq_emod_of_nonneg (by omega), Int.add_emod_right]
  rw [Int.toNat_of_nonneg e1]
  have e := Int.tmod_add_mul_tdiv x n
  conv => rhs; rw [← e]
  rw [Int.add_mul_emod_self_left]
end Go.Proofs.YtnkacfgbkfkhdaaGreat
