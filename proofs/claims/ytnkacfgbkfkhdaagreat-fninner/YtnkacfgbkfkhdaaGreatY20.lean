/-
  Several texts, one behind the other: LookC, CopyL, ImplCopy1.
-/
import Derived.Test.YtnkacfgbkfkhdaaGreatY5
import Derived.Test.YtnkacfgbkfkhdaaGreatY19
import Derived.Test.YtnkacfgbkfkhdaaGreatY18
namespace Go.Proofs.YtnkacfgbkfkhdaaGreat
set_option linter.unusedVariables false
/-- How often row i is told. -/
def often (d : List Int) (i : Nat) : Int := d.getD (i % d.length) 0
def tot (d : List Int) : Nat → Int
  | 0 => 0
  | n + 1 => tot d n + often d n
def copyC (s d t e : List Int) : Int := if arrOk s d = true ∧ arrOk t e = true then (if 1 < s.length ∨ t = [] then 4 else if d.length ≠ 1 ∧ (d.length : Int) ≠ t.getD 0 0 then 3 else if d.any (fun x => decide (x < 0)) = true then 2 else if sizeV (tot d (rowsN t) :: t.drop 1) < 0 then 6 else 0) else 1
/-- The rows of the first numbers, each as often as told. -/
def toldTo (d : List Int) (f : Nat → List Int) : Nat → List Int
  | 0 => []
  | n + 1 => toldTo d f n ++ (List.replicate (often d n).toNat (f n)).flatten
def copyD (d t e : List Int) : List Int := toldTo d (fun i => rowAt t e i) (rowsN t)
def copyR (s d t e : List Int) : Int × List Int × List Int := mkR (copyC s d t e) (tot d (rowsN t) :: t.drop 1) (copyD d t e)
theorem copyR_bad {s d t e : List Int} (h : ¬ (arrOk s d = true ∧ arrOk t e = true)) : copyR s d t e = (1, [], []) := by
  unfold copyR; rw [show copyC s d t e = 1 from by unfold copyC; rw [if_neg h]]; rfl
theorem copyR_told {s d t e : List Int} (h1 : arrOk s d = true) (h2 : arrOk t e = true) :
    copyR s d t e = if 1 < s.length ∨ t = [] then (4, [], []) else if d.length ≠ 1 ∧ (d.length : Int) ≠ t.getD 0 0 then (3, [], []) else if d.any (fun x => decide (x < 0)) = true then (2, [], []) else if sizeV (tot d (rowsN t) :: t.drop 1) < 0 then (6, [], []) else (0, tot d (rowsN t) :: t.drop 1, copyD d t e) := by
  unfold copyR copyC
  rw [if_pos ⟨h1, h2⟩]
  split
  · rfl
  · split
    · rfl
    · split
      · rfl
      · split <;> rfl
theorem often_bd {s d : List Int} (ho : arrOk s d = true) (hn : ∀ j, j < d.length → 0 ≤ d.getD j 0) (i : Nat) : 0 ≤ often d i ∧ often d i ≤ 1000000000000 := by
  unfold often
  by_cases h : i % d.length < d.length
  · have hk : ok (d.getD (i % d.length) 0) = true := by
      unfold arrOk at ho
      rw [Bool.and_eq_true, List.all_eq_true] at ho
      exact ho.2 _ (by simp [h])
    exact ⟨hn _ h, (ok_bd hk).2⟩
  · have e : d.getD (i % d.length) 0 = 0 := by simp [List.getD, List.getElem?_eq_none (show d.length ≤ i % d.length by omega)]
    rw [e]
    omega
theorem tot_bd {s d : List Int} (ho : arrOk s d = true) (hn : ∀ j, j < d.length → 0 ≤ d.getD j 0) (i : Nat) : 0 ≤ tot d i ∧ tot d i ≤ i * 1000000000000 := by
  induction i with
  | zero => exact ⟨Int.le_refl _, by simp [tot]⟩
  | succ i ih =>
    have := often_bd ho hn i
    unfold tot
    push_cast
    omega
theorem tot_mono {s d : List Int} (ho : arrOk s d = true) (hn : ∀ j, j < d.length → 0 ≤ d.getD j 0) {i n : Nat} (h : i ≤ n) : tot d i ≤ tot d n := by
  induction n with
  | zero => obtain rfl : i = 0 := by omega
            exact Int.le_refl _
  | succ n ih =>
    by_cases e : i = n + 1
    · subst e; exact Int.le_refl _
    · have := ih (by omega)
      have := often_bd ho hn n
      show tot d i ≤ tot d n + often d n
      omega
theorem told_len {s d : List Int} (ho : arrOk s d = true) (hn : ∀ j, j < d.length → 0 ≤ d.getD j 0) (f : Nat → List Int) (m : Nat) (hf : ∀ i, (f i).length ≤ m) (i : Nat) : ((toldTo d f i).length : Int) ≤ tot d i * m := by
  induction i with
  | zero => simp [toldTo, tot]
  | succ i ih =>
    have hb := often_bd ho hn i
    unfold toldTo tot
    rw [List.length_append, Int.add_mul]
    have e : ((List.replicate (often d i).toNat (f i)).flatten.length : Int) = often d i * ((f i).length : Int) := by
      rw [List.length_flatten]
      simp
      rw [Int.max_eq_left hb.1]
    have h2 : often d i * ((f i).length : Int) ≤ often d i * (m : Int) := Int.mul_le_mul_of_nonneg_left (by have := hf i; omega) hb.1
    push_cast
    omega
theorem told_ext {d : List Int} {f g : Nat → List Int} {n : Nat} (h : ∀ i, i < n → f i = g i) : toldTo d f n = toldTo d g n := by
  induction n with
  | zero => rfl
  | succ n ih =>
    unfold toldTo
    rw [ih (fun i hi => h i (by omega)), h n (by omega)]
theorem big_shape {x : Int} {u : List Int} (h : 300 < x) : sizeV (x :: u) < 0 := by
  unfold sizeV
  split
  · decide
  · rw [if_neg (by simp [dimOk]; omega)]; decide
end Go.Proofs.YtnkacfgbkfkhdaaGreat
namespace Go.Proofs.YtnkacfgbkfkhdaaGreat
set_option linter.unusedVariables false
def sumL (l : List Int) : Nat → Int
  | 0 => 0
  | n + 1 => sumL l n + l.getD n 0
/-- Each place of a list as often as its number tells. -/
def toldP (l : List Int) : Nat → List Int
  | 0 => []
  | n + 1 => toldP l n ++ List.replicate (l.getD n 0).toNat (n : Int)
theorem again_often {d : List Int} {n i : Nat} (h : i < n) : (againD d n).getD i 0 = often d i := by
  unfold againD often
  by_cases e : d = []
  · simp [e, h]
  · simp [e, h]
theorem again_len (d : List Int) (n : Nat) : (againD d n).length = n := by simp [againD]
theorem sumL_tot {d : List Int} {n : Nat} : ∀ {k : Nat}, k ≤ n → sumL (againD d n) k = tot d k := by
  intro k
  induction k with
  | zero => intro _; rfl
  | succ k ih =>
    intro h
    show sumL (againD d n) k + (againD d n).getD k 0 = tot d k + often d k
    rw [ih (by omega), again_often (by omega)]
theorem told_rows {d : List Int} {n : Nat} (g : Nat → List Int) : ∀ {k : Nat}, k ≤ n → (toldP (againD d n) k).flatMap (fun x => g x.toNat) = toldTo d g k := by
  intro k
  induction k with
  | zero => intro _; rfl
  | succ k ih =>
    intro h
    show (toldP (againD d n) k ++ List.replicate ((againD d n).getD k 0).toNat (k : Int)).flatMap _ = toldTo d g k ++ (List.replicate (often d k).toNat (g k)).flatten
    rw [List.flatMap_append, ih (by omega), again_often (by omega)]
    congr 1
    rw [List.flatMap_def, List.map_replicate]
    rfl
theorem toldP_len {l : List Int} (h : ∀ j, j < l.length → 0 ≤ l.getD j 0) : ∀ {k : Nat}, k ≤ l.length → ((toldP l k).length : Int) = sumL l k := by
  intro k
  induction k with
  | zero => intro _; rfl
  | succ k ih =>
    intro hk
    show (((toldP l k) ++ List.replicate (l.getD k 0).toNat (k : Int)).length : Int) = sumL l k + l.getD k 0
    rw [List.length_append, List.length_replicate]
    have := h k (by omega)
    have := ih (by omega)
    push_cast
    omega
theorem toldP_mem {l : List Int} : ∀ {k : Nat} {x : Int}, x ∈ toldP l k → 0 ≤ x ∧ x < k := by
  intro k
  induction k with
  | zero => intro x h; cases h
  | succ k ih =>
    intro x h
    have h' : x ∈ toldP l k ++ List.replicate (l.getD k 0).toNat (k : Int) := h
    rw [List.mem_append] at h'
    rcases h' with h' | h'
    · have := ih h'; omega
    · have := List.eq_of_mem_replicate h'; omega
theorem range_getD (P : List Int) (g : Int → List Int) : (List.range P.length).flatMap (fun i => g (P.getD i 0)) = P.flatMap g := by
  rw [List.flatMap_def, List.flatMap_def]
  congr 1
  apply List.ext_getElem
  · simp
  · intro i h1 h2
    simp at h1
    simp [h1]
theorem flatMap_mem {P : List Int} {g h : Int → List Int} (q : ∀ x, x ∈ P → g x = h x) : P.flatMap g = P.flatMap h := by
  rw [List.flatMap_def, List.flatMap_def, List.map_congr_left q]
/-- The rows that are chosen by what is told are what Copy answers. -/
theorem copy_chosen {d t e : List Int} (h2 : arrOk t e = true) : chosenD t e (fun k => (toldP (againD d (rowsN t)) (rowsN t)).getD k 0) (toldP (againD d (rowsN t)) (rowsN t)).length = copyD d t e := by
  obtain ⟨e1, e2⟩ := rowsN5 h2
  unfold chosenD copyD
  rw [range_getD _ (fun x => chosenRow t e x), ← told_rows (n := rowsN t) (fun i => rowAt t e i) (Nat.le_refl _)]
  refine flatMap_mem (fun x hx => ?_)
  have := toldP_mem hx
  unfold chosenRow
  rw [if_pos ⟨by omega, by omega⟩]
theorem any_below {d : List Int} : d.any (fun x => decide (x < 0)) = false ↔ ∀ j, j < d.length → 0 ≤ d.getD j 0 := by
  constructor
  · intro h j hj
    rw [List.any_eq_false] at h
    have := h (d.getD j 0) (by simp [hj])
    simpa using this
  · intro h
    rw [List.any_eq_false]
    intro y hy
    obtain ⟨j, hj, rfl⟩ := List.getElem_of_mem hy
    have := h j hj
    rw [List.getD_eq_getElem?_getD, List.getElem?_eq_getElem hj] at this
    simpa using this
theorem copyC_zero {s d t e : List Int} (h : copyC s d t e = 0) : arrOk s d = true ∧ arrOk t e = true ∧ t ≠ [] ∧ (∀ j, j < d.length → 0 ≤ d.getD j 0) ∧ 0 ≤ sizeV (tot d (rowsN t) :: t.drop 1) := by
  unfold copyC at h
  by_cases q : arrOk s d = true ∧ arrOk t e = true
  · rw [if_pos q] at h
    by_cases q2 : 1 < s.length ∨ t = []
    · rw [if_pos q2] at h; cases h
    · rw [if_neg q2] at h
      by_cases q3 : d.length ≠ 1 ∧ (d.length : Int) ≠ t.getD 0 0
      · rw [if_pos q3] at h; cases h
      · rw [if_neg q3] at h
        by_cases q4 : d.any (fun x => decide (x < 0)) = true
        · rw [if_pos q4] at h; cases h
        · rw [if_neg q4] at h
          by_cases q5 : sizeV (tot d (rowsN t) :: t.drop 1) < 0
          · rw [if_pos q5] at h; cases h
          · exact ⟨q.1, q.2, fun k => q2 (.inr k), any_below.1 (by simpa using q4), by omega⟩
  · rw [if_neg q] at h; cases h
theorem copy_len {s d t e : List Int} (h : copyC s d t e = 0) : (tot d (rowsN t) :: t.drop 1).length ≤ 1048576 ∧ (copyD d t e).length ≤ 1048576 := by
  obtain ⟨h1, h2, h3, h4, h5⟩ := copyC_zero h
  have e2 := arrOk_len h2
  have e3 := (sizeV_ok h5).1
  have e4 := dim5 h5
  constructor
  · omega
  · have := told_len h1 h4 (fun i => rowAt t e i) 300 (fun i => by unfold rowAt; rw [List.length_take, List.length_drop]; omega) (rowsN t)
    have h6 : tot d (rowsN t) * ((300 : Nat) : Int) ≤ 300 * 300 := Int.mul_le_mul_of_nonneg_right e4.2 (by decide)
    unfold copyD
    omega
end Go.Proofs.YtnkacfgbkfkhdaaGreat
namespace Go.Proofs.YtnkacfgbkfkhdaaGreat
open Go.RowKit
set_option linter.unusedVariables false
set_option linter.unusedSimpArgs false
theorem sumL_bd {l : List Int} (h : ∀ j, j < l.length → 0 ≤ l.getD j 0 ∧ l.getD j 0 ≤ 1000000000000) : ∀ {k : Nat}, k ≤ l.length → 0 ≤ sumL l k ∧ sumL l k ≤ k * 1000000000000 := by
  intro k
  induction k with
  | zero => intro _; exact ⟨Int.le_refl _, by simp [sumL]⟩
  | succ k ih =>
    intro hk
    have h1 := h k (by omega)
    have h2 := ih (by omega)
    show 0 ≤ sumL l k + l.getD k 0 ∧ sumL l k + l.getD k 0 ≤ _
    push_cast
    omega
/-- A list of no number, with room. -/
theorem make0_ints (n : Nat) (hn : n ≤ 1073741824) (w : World) :
    ∃ w', (Instr.makeSlice 24 (.int .i64 0) (.int .i64 (n : Int))).run Tryz.prog w = .ok (.slice (some ⟨w.heap.size, 0, none⟩) 0 n) w' ∧ NewInts w.heap.size w' (.slice (some ⟨w.heap.size, 0, none⟩) 0 n) [] ∧ Below w.heap.size w w' := by
  have hi := info_int
  cases hq : Tryz.prog.info? 3 with
  | none => rw [hq] at hi; cases hi
  | some i =>
    rw [hq] at hi
    simp at hi
    obtain ⟨z1, z2, z3⟩ := hi
    have := run_make (P := Tryz.prog) w 24 3 i (.int .i64 0) Tryz.underlying24 hq z1 .i64 .i64 0 n (by omega) (by omega) (by rw [z3]; omega) (by omega)
    rw [z2, Int.toNat_natCast, Nat.mul_one] at this
    refine ⟨_, this, ⟨rfl, .inr ⟨w.heap.size, n, _, rfl, Nat.le_refl _, heap_alloc_new w _, Nat.zero_le _, by unfold maxLen; omega, ?_, by simp⟩⟩, bAlloc (Below.refl _ _) _⟩
    rw [made_zero]
    simp [vals]
end Go.Proofs.YtnkacfgbkfkhdaaGreat
