/-
  Cuts of lists of numbers; copies into a list of one's own.
-/
import Derived.Test.YtfmheanmkfdjnaqRowsM
import Derived.Test.YtfmheanmkfdjnaqLaw3
import Derived.Test.YtfmheanmkfdjnaqEachP
import Derived.Test.YtfmheanmkfdjnaqAppend
import Derived.Test.YtfmheanmkfdjnaqImplShape0
import Derived.Laws.CopyOwn
namespace Go.Proofs.Ytfmheanmkfdjnaq
open Go.RowKit
set_option linter.unusedVariables false
set_option linter.unusedSimpArgs false
theorem ints_tail {w : World} {b off : Nat} {l : List Int} (m : Nat) (h : Ints w (some ⟨b, off, none⟩) l) : Ints w (some ⟨b, off + m, none⟩) (l.drop m) := by
  rcases h with rfl | ⟨b', off', e, hb, hc⟩
  · exact .inl (by simp)
  · cases e
    refine .inr ⟨b, off + m, rfl, hb, fun k hk => ?_⟩
    have := hc (m + k) (by simp at hk; omega)
    rw [Nat.add_assoc, this]
    simp
/-- A list from one number on, and between two, whatever its memory. -/
theorem run_from {a : Option Addr} {n c M : Nat} (hM : M ≤ n) (hc : n ≤ c) (W : World) : (Instr.slice 22 (.slice a n c) (some (.int .i64 (M : Int))) none none).run Try.prog W = .ok (.slice (if c - M = 0 then a else a.map (·.add (M * 1))) (n - M) (c - M)) W := by
  have hs : (sizeOf 3).run Try.prog W = .ok 1 W := by kernel_rfl
  have he : Try.prog.elem 22 = 3 := by kernel_rfl
  rw [run_slice_l (P := Try.prog) (w := W) 22 a n c (by rw [he]; exact Try.underlying22) .i64 (M : Int) (by omega) (by omega), he, hs]
  have e : (c = M) = (c - M = 0) := by apply propext; omega
  simp [Result.andThen, sliced, e]
/-- What a copy makes of a list: m numbers of e from place k on. -/
def paste (l : List Int) (k : Nat) (e : List Int) (m : Nat) : List Int := l.take k ++ e.take m ++ l.drop (k + m)
theorem paste_zero (l : List Int) (k : Nat) (e : List Int) : paste l k e 0 = l := by simp [paste]
theorem paste_length {l e : List Int} {k m : Nat} (h : k + m ≤ l.length) (hm : m ≤ e.length) : (paste l k e m).length = l.length := by simp [paste]; omega
theorem paste_at {l e : List Int} {k m : Nat} (h : k + m ≤ l.length) (hm : m ≤ e.length) (i : Nat) : (paste l k e m).getD i 0 = if i < k then l.getD i 0 else if i < k + m then e.getD (i - k) 0 else l.getD i 0 := by
  have lk : (l.take k).length = k := by simp; omega
  have lm : (e.take m).length = m := by simp; omega
  unfold paste
  simp only [List.getD_eq_getElem?_getD, List.append_assoc]
  by_cases h1 : i < k
  · rw [if_pos h1, List.getElem?_append_left (by omega), List.getElem?_take_of_lt h1]
  · rw [if_neg h1, List.getElem?_append_right (by omega), lk]
    by_cases h2 : i < k + m
    · rw [if_pos h2, List.getElem?_append_left (by omega), List.getElem?_take_of_lt (by omega)]
    · rw [if_neg h2, List.getElem?_append_right (by omega), lm, List.getElem?_drop]
      congr 2
      omega
theorem copy_paste {w : World} {g : Nat} {l e : List Int} {a : Option Addr} {k n : Nat} (h : OwnInts w g l) (hs : Ints w a e) (hfit : k + min e.length n ≤ l.length) (ty : TypeId) (dC c : Nat) :
    (Builtin.copy_ #[22, 22] ty #[.slice (some ⟨g, k, none⟩) n dC, .slice a e.length c]).run Try.prog w = .ok (.int .i64 ((min e.length n : Nat) : Int)) (w.setRow g (vals (paste l k e (min e.length n)))) := by
  by_cases h0 : min e.length n = 0
  · rw [h0, paste_zero, setRow_self w g (vals l) _ _ h]
    exact run_copy_none (P := Try.prog) _ 22 22 ty 3 _ _ _ _ _ _ Try.underlying22 int_size h0
  · rcases hs with rfl | ⟨b, off, rfl, hb, hc⟩
    · simp at h0
    · have hc' : ∀ j, j < (e.take (min e.length n)).length → w.cell? ⟨b, off + j, none⟩ = some (.int .i64 ((e.take (min e.length n)).getD j 0)) := by
        intro j hj
        have hj' : j < min e.length n := by simp at hj; omega
        rw [hc j (by omega)]
        simp only [List.getD_eq_getElem?_getD, List.getElem?_take_of_lt hj']
      have q := run_copy_row Try.prog w 22 22 ty 3 g k n dC ⟨b, off, none⟩ e.length c (vals l) 3 ((e.take (min e.length n)).map (Value.int .i64)) Try.underlying22 int_size h (by simp) (ints_src hc') (by simp [vals]; omega) (by intro v hv; obtain ⟨x, _, rfl⟩ := List.mem_map.1 hv; rfl)
      rw [q, List.length_map, List.length_take, Nat.min_eq_left (Nat.min_le_left _ _)]
      simp [paste, vals, goInt]
theorem OwnInts.setRow {w : World} {g : Nat} {l : List Int} (h : OwnInts w g l) (l' : List Int) : OwnInts (w.setRow g (vals l')) g l' := setRow_heap w g _ _ _ _ h
end Go.Proofs.Ytfmheanmkfdjnaq
namespace Go.Proofs.Ytfmheanmkfdjnaq
set_option linter.unusedVariables false
theorem foldl_mul5 (a : Int) (l : List Int) : l.foldl (fun x y => x * y) a = a * l.foldl (fun x y => x * y) 1 := by
  induction l generalizing a with
  | nil => simp
  | cons x l ih => rw [List.foldl_cons, List.foldl_cons, ih (a * x), ih (1 * x), Int.one_mul, Int.mul_assoc]
theorem prodV_cons5 (x : Int) (l : List Int) : prodV (x :: l) = x * prodV l := by
  unfold prodV
  rw [List.foldl_cons, foldl_mul5, Int.one_mul]
theorem tail5 {n0 : Int} {t : List Int} (h : 0 ≤ sizeV (n0 :: t)) (hp : 0 < n0) : 0 ≤ sizeV t ∧ n0 * sizeV t = sizeV (n0 :: t) ∧ sizeV t ≤ 300 := by
  obtain ⟨k1, k2, k3, k4⟩ := sizeV_ok h
  rw [prodV_cons5] at k3 k4
  simp only [List.all_cons, Bool.and_eq_true] at k2
  have p0 := (prodV_bd t k2.2).1
  have p1 : 1 * prodV t ≤ n0 * prodV t := Int.mul_le_mul_of_nonneg_right (by omega) p0
  rw [Int.one_mul] at p1
  have e : sizeV t = prodV t := by
    unfold sizeV
    rw [if_neg (by simp at k1; omega), if_pos k2.2, if_neg (by omega)]
  rw [e]
  exact ⟨p0, by rw [← k4], by omega⟩
theorem zero5 {t : List Int} (h : 0 ≤ sizeV (0 :: t)) : sizeV (0 :: t) = 0 := by
  rw [(sizeV_ok h).2.2.2, prodV_cons5, Int.zero_mul]
theorem dim5 {n0 : Int} {t : List Int} (h : 0 ≤ sizeV (n0 :: t)) : 0 ≤ n0 ∧ n0 ≤ 300 := by
  have := (sizeV_ok h).2.1
  rw [List.all_eq_true] at this
  have := this n0 (by simp)
  simpa [dimOk] using this
theorem rowsN5 {s d : List Int} (ho : arrOk s d = true) : rowsN s ≤ 300 ∧ s.getD 0 0 = (rowsN s : Int) := by
  have := head_bd ho
  unfold rowsN
  omega
theorem rows5 {s d : List Int} (ho : arrOk s d = true) (hs : s ≠ []) : rowsN s * rowN s = d.length := by
  obtain ⟨e1, e2⟩ := rowsN5 ho
  have z := arrOk_size ho
  have h := arrOk_shape ho
  cases s with
  | nil => exact absurd rfl hs
  | cons n0 t =>
    have h0 : n0 = (rowsN (n0 :: t) : Int) := e2
    have : rowN (n0 :: t) = (sizeV t).toNat := rfl
    by_cases hp : 0 < n0
    · obtain ⟨p0, p1, p2⟩ := tail5 h hp
      have q : ((rowsN (n0 :: t) * rowN (n0 :: t) : Nat) : Int) = (d.length : Int) := by
        rw [this, Int.natCast_mul, ← h0, Int.toNat_of_nonneg p0, p1, z]
      omega
    · have hz : rowsN (n0 :: t) = 0 := by omega
      have e : n0 = 0 := by omega
      subst e
      rw [zero5 h] at z
      rw [hz, Nat.zero_mul]
      omega
/-- One chosen row: that of a number, or noughts. -/
def chosenRow (s d : List Int) (j : Int) : List Int := if 0 ≤ j ∧ j < s.getD 0 0 then rowAt s d j.toNat else List.replicate (rowN s) 0
def chosenD (s d : List Int) (φ : Nat → Int) (n : Nat) : List Int := (List.range n).flatMap fun i => chosenRow s d (φ i)
theorem rowAt_length {s d : List Int} (ho : arrOk s d = true) (hs : s ≠ []) {i : Nat} (hi : i < rowsN s) : (rowAt s d i).length = rowN s := by
  have q := rows5 ho hs
  have : (i + 1) * rowN s ≤ rowsN s * rowN s := Nat.mul_le_mul_right _ (by omega)
  rw [Nat.succ_mul] at this
  unfold rowAt
  simp
  omega
theorem chosenRow_length {s d : List Int} (ho : arrOk s d = true) (hs : s ≠ []) (j : Int) : (chosenRow s d j).length = rowN s := by
  unfold chosenRow
  split
  · rename_i h
    have := (rowsN5 ho).2
    exact rowAt_length ho hs (by omega)
  · simp
theorem flat_len {n m : Nat} {f : Nat → List Int} (h : ∀ i, (f i).length = m) : ((List.range n).flatMap f).length = n * m := by
  induction n with
  | zero => simp
  | succ n ih => rw [List.range_succ, List.flatMap_append, List.length_append, ih, Nat.succ_mul]; simp [h]
theorem chosenD_length {s d : List Int} (ho : arrOk s d = true) (hs : s ≠ []) (φ : Nat → Int) (n : Nat) : (chosenD s d φ n).length = n * rowN s := flat_len (fun i => chosenRow_length ho hs (φ i))
theorem chosenD_succ (s d : List Int) (φ : Nat → Int) (n : Nat) : chosenD s d φ (n + 1) = chosenD s d φ n ++ chosenRow s d (φ n) := by
  unfold chosenD; rw [List.range_succ, List.flatMap_append]; simp
/-- The first k rows of n are chosen. -/
def chosenTo (s d : List Int) (φ : Nat → Int) (n k : Nat) : List Int := chosenD s d φ k ++ List.replicate ((n - k) * rowN s) 0
theorem chosenTo_zero (s d : List Int) (φ : Nat → Int) (n : Nat) : chosenTo s d φ n 0 = List.replicate (n * rowN s) 0 := by simp [chosenTo, chosenD]
theorem chosenTo_all (s d : List Int) (φ : Nat → Int) (n : Nat) : chosenTo s d φ n n = chosenD s d φ n := by simp [chosenTo]
theorem chosenTo_length {s d : List Int} (ho : arrOk s d = true) (hs : s ≠ []) (φ : Nat → Int) {n k : Nat} (hk : k ≤ n) : (chosenTo s d φ n k).length = n * rowN s := by
  unfold chosenTo
  rw [List.length_append, chosenD_length ho hs, List.length_replicate, ← Nat.add_mul]
  congr 1
  omega
theorem chosenTo_no {s d : List Int} {φ : Nat → Int} {n k : Nat} (hk : k < n) (h : ¬ (0 ≤ φ k ∧ φ k < s.getD 0 0)) : chosenTo s d φ n k = chosenTo s d φ n (k + 1) := by
  unfold chosenTo
  rw [chosenD_succ]
  unfold chosenRow
  rw [if_neg h, List.append_assoc, List.replicate_append_replicate]
  congr 2
  rw [show n - k = (n - (k + 1)) + 1 by omega, Nat.succ_mul, Nat.add_comm]
theorem chosenTo_yes {s d : List Int} (ho : arrOk s d = true) (hs : s ≠ []) {φ : Nat → Int} {n k : Nat} (hk : k < n) (h : 0 ≤ φ k ∧ φ k < s.getD 0 0) : paste (chosenTo s d φ n k) (k * rowN s) (d.drop ((φ k).toNat * rowN s)) (rowN s) = chosenTo s d φ n (k + 1) := by
  have l0 := chosenD_length ho hs φ k
  unfold paste chosenTo
  rw [chosenD_succ]
  have e1 : chosenRow s d (φ k) = (d.drop ((φ k).toNat * rowN s)).take (rowN s) := by unfold chosenRow; rw [if_pos h]; rfl
  have e2 : (chosenD s d φ k).drop (k * rowN s + rowN s) = [] := List.drop_of_length_le (by omega)
  rw [e1, List.take_append_of_le_length (by omega), List.take_of_length_le (by omega), List.drop_append, l0, e2, List.nil_append, List.drop_replicate]
  congr 2
  rw [show n - k = (n - (k + 1)) + 1 by omega, Nat.succ_mul]
  omega
end Go.Proofs.Ytfmheanmkfdjnaq
