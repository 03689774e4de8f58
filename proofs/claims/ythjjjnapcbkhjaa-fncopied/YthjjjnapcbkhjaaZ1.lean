/-
  Several walks, one behind the other: CopyL, SpecMake6, RowsF, RotF, FlipM, TurnF, CopiedF, Cuts, SpecMake7, Cuts2, ImplMake3, ImplMake5, ImplCopy1, Pair5, ImplCopy6, ImplRows1, ImplRows2, ImplRows3, SpecOne, SpecEach1, EachF, OutB, OutQ.
-/
import Derived.Test.YthjjjnapcbkhjaaLookC
import Derived.Test.YthjjjnapcbkhjaaMakeP
import Derived.Test.YthjjjnapcbkhjaaSpecMake5
import Derived.Test.YthjjjnapcbkhjaaSpecMake2
import Derived.Test.YthjjjnapcbkhjaaSpecRows2
import Derived.Test.YthjjjnapcbkhjaaShapeP
import Derived.Test.YthjjjnapcbkhjaaMakeM
import Derived.Test.YthjjjnapcbkhjaaSpecMake3
import Derived.Test.YthjjjnapcbkhjaaCutI
import Derived.Test.YthjjjnapcbkhjaaImplMake1
import Derived.Shelf.Abstract
import Derived.Test.YthjjjnapcbkhjaaGrow
import Derived.Deep.Cut
import Derived.RangeFuncNested
import Derived.RangeFuncBound
import Derived.RangeFuncCalls
import Derived.RangeFuncLeaves
import Derived.Shelf.RegionOpen
import Derived.WalkKit
import Derived.OwnWalkIn
import Derived.TacticsInMore
import Derived.LoopNIn
import Derived.LoopIn
import Derived.Test.YthjjjnapcbkhjaaRowsI
import Derived.Test.YthjjjnapcbkhjaaLaw3
import Derived.Test.YthjjjnapcbkhjaaImplArr3
import Derived.Test.YthjjjnapcbkhjaaSmall
import Derived.Test.YthjjjnapcbkhjaaEachP
import Derived.Test.YthjjjnapcbkhjaaSpecCopy
import Derived.Test.YthjjjnapcbkhjaaSpecArr
import Derived.Test.YthjjjnapcbkhjaaArrs
namespace Go.Proofs.Ythjjjnapcbkhjaa
set_option linter.unusedVariables false
def sumL (l : List Int) : Nat → Int
  | 0 => 0
  | n + 1 => sumL l n + l.getD n 0
/-- Each place of a list as often as its number tells. -/
def toldP (l : List Int) : Nat → List Int
  | 0 => []
  | n + 1 => toldP l n ++ List.replicate (l.getD n 0).toNat (n : Int)
theorem again_often {d : List Int} {n i : Nat} (h : i < n) : (againD d n).getD i 0 = often d i := by
  unfold againD often
  by_cases e : d = []
  · simp [e, h]
  · simp [e, h]
theorem again_len (d : List Int) (n : Nat) : (againD d n).length = n := by simp [againD]
theorem sumL_tot {d : List Int} {n : Nat} : ∀ {k : Nat}, k ≤ n → sumL (againD d n) k = tot d k := by
  intro k
  induction k with
  | zero => intro _; rfl
  | succ k ih =>
    intro h
    show sumL (againD d n) k + (againD d n).getD k 0 = tot d k + often d k
    rw [ih (by omega), again_often (by omega)]
theorem told_rows {d : List Int} {n : Nat} (g : Nat → List Int) : ∀ {k : Nat}, k ≤ n → (toldP (againD d n) k).flatMap (fun x => g x.toNat) = toldTo d g k := by
  intro k
  induction k with
  | zero => intro _; rfl
  | succ k ih =>
    intro h
    show (toldP (againD d n) k ++ List.replicate ((againD d n).getD k 0).toNat (k : Int)).flatMap _ = toldTo d g k ++ (List.replicate (often d k).toNat (g k)).flatten
    rw [List.flatMap_append, ih (by omega), again_often (by omega)]
    congr 1
    rw [List.flatMap_def, List.map_replicate]
    rfl
theorem toldP_len {l : List Int} (h : ∀ j, j < l.length → 0 ≤ l.getD j 0) : ∀ {k : Nat}, k ≤ l.length → ((toldP l k).length : Int) = sumL l k := by
  intro k
  induction k with
  | zero => intro _; rfl
  | succ k ih =>
    intro hk
    show (((toldP l k) ++ List.replicate (l.getD k 0).toNat (k : Int)).length : Int) = sumL l k + l.getD k 0
    rw [List.length_append, List.length_replicate]
    have := h k (by omega)
    have := ih (by omega)
    push_cast
    omega
theorem toldP_mem {l : List Int} : ∀ {k : Nat} {x : Int}, x ∈ toldP l k → 0 ≤ x ∧ x < k := by
  intro k
  induction k with
  | zero => intro x h; cases h
  | succ k ih =>
    intro x h
    have h' : x ∈ toldP l k ++ List.replicate (l.getD k 0).toNat (k : Int) := h
    rw [List.mem_append] at h'
    rcases h' with h' | h'
    · have := ih h'; omega
    · have := List.eq_of_mem_replicate h'; omega
theorem range_getD (P : List Int) (g : Int → List Int) : (List.range P.length).flatMap (fun i => g (P.getD i 0)) = P.flatMap g := by
  rw [List.flatMap_def, List.flatMap_def]
  congr 1
  apply List.ext_getElem
  · simp
  · intro i h1 h2
    simp at h1
    simp [h1]
theorem flatMap_mem {P : List Int} {g h : Int → List Int} (q : ∀ x, x ∈ P → g x = h x) : P.flatMap g = P.flatMap h := by
  rw [List.flatMap_def, List.flatMap_def, List.map_congr_left q]
/-- The rows that are chosen by what is told are what Copy answers. -/
theorem copy_chosen {d t e : List Int} (h2 : arrOk t e = true) : chosenD t e (fun k => (toldP (againD d (rowsN t)) (rowsN t)).getD k 0) (toldP (againD d (rowsN t)) (rowsN t)).length = copyD d t e := by
  obtain ⟨e1, e2⟩ := rowsN5 h2
  unfold chosenD copyD
  rw [range_getD _ (fun x => chosenRow t e x), ← told_rows (n := rowsN t) (fun i => rowAt t e i) (Nat.le_refl _)]
  refine flatMap_mem (fun x hx => ?_)
  have := toldP_mem hx
  unfold chosenRow
  rw [if_pos ⟨by omega, by omega⟩]
theorem any_below {d : List Int} : d.any (fun x => decide (x < 0)) = false ↔ ∀ j, j < d.length → 0 ≤ d.getD j 0 := by
  constructor
  · intro h j hj
    rw [List.any_eq_false] at h
    have := h (d.getD j 0) (by simp [hj])
    simpa using this
  · intro h
    rw [List.any_eq_false]
    intro y hy
    obtain ⟨j, hj, rfl⟩ := List.getElem_of_mem hy
    have := h j hj
    rw [List.getD_eq_getElem?_getD, List.getElem?_eq_getElem hj] at this
    simpa using this
theorem copyC_zero {s d t e : List Int} (h : copyC s d t e = 0) : arrOk s d = true ∧ arrOk t e = true ∧ t ≠ [] ∧ (∀ j, j < d.length → 0 ≤ d.getD j 0) ∧ 0 ≤ sizeV (tot d (rowsN t) :: t.drop 1) := by
  unfold copyC at h
  by_cases q : arrOk s d = true ∧ arrOk t e = true
  · rw [if_pos q] at h
    by_cases q2 : 1 < s.length ∨ t = []
    · rw [if_pos q2] at h; cases h
    · rw [if_neg q2] at h
      by_cases q3 : d.length ≠ 1 ∧ (d.length : Int) ≠ t.getD 0 0
      · rw [if_pos q3] at h; cases h
      · rw [if_neg q3] at h
        by_cases q4 : d.any (fun x => decide (x < 0)) = true
        · rw [if_pos q4] at h; cases h
        · rw [if_neg q4] at h
          by_cases q5 : sizeV (tot d (rowsN t) :: t.drop 1) < 0
          · rw [if_pos q5] at h; cases h
          · exact ⟨q.1, q.2, fun k => q2 (.inr k), any_below.1 (by simpa using q4), by omega⟩
  · rw [if_neg q] at h; cases h
theorem copy_len {s d t e : List Int} (h : copyC s d t e = 0) : (tot d (rowsN t) :: t.drop 1).length ≤ 1048576 ∧ (copyD d t e).length ≤ 1048576 := by
  obtain ⟨h1, h2, h3, h4, h5⟩ := copyC_zero h
  have e2 := arrOk_len h2
  have e3 := (sizeV_ok h5).1
  have e4 := dim5 h5
  constructor
  · omega
  · have := told_len h1 h4 (fun i => rowAt t e i) 300 (fun i => by unfold rowAt; rw [List.length_take, List.length_drop]; omega) (rowsN t)
    have h6 : tot d (rowsN t) * ((300 : Nat) : Int) ≤ 300 * 300 := Int.mul_le_mul_of_nonneg_right e4.2 (by decide)
    unfold copyD
    omega
end Go.Proofs.Ythjjjnapcbkhjaa
namespace Go.Proofs.Ythjjjnapcbkhjaa
open Go.RowKit
set_option linter.unusedVariables false
set_option linter.unusedSimpArgs false
theorem oneC_ok {s d t e : List Int} (ho : arrOk s d = true) (ho' : arrOk t e = true) (hl : d.length = 1) : oneC s d t e = 0 := by unfold oneC; rw [if_pos ⟨ho, ho'⟩, if_neg (by simpa using hl)]
theorem oneC_3 {s d t e : List Int} (ho : arrOk s d = true) (ho' : arrOk t e = true) (hl : ¬ d.length = 1) : oneC s d t e = 3 := by unfold oneC; rw [if_pos ⟨ho, ho'⟩, if_pos hl]
theorem num_bd {s d : List Int} (ho : arrOk s d = true) (h : 0 < d.length) : -1000000000000 ≤ d.getD 0 0 ∧ d.getD 0 0 ≤ 1000000000000 := by
  have h2 : d.all ok = true := by
    unfold arrOk at ho
    simp only [Bool.and_eq_true] at ho
    exact ho.2
  have := List.all_eq_true.1 h2 (d.getD 0 0) (by simp [h])
  exact ok_bd this
theorem wrap64_small {a : Int} (h1 : -1000000000000000 ≤ a) (h2 : a ≤ 1000000000000000) : wrap64 a = a := by unfold wrap64; omega
theorem turn_num {x : Int} {n : Nat} (hn : 0 < n) : (Int.tmod (Int.tmod x n + n) n) = ((rotateBy x n : Nat) : Int) ∧ rotateBy x n < n ∧ -(n : Int) < Int.tmod x n ∧ Int.tmod x n < n := by
  unfold rotateBy
  have h0 : (0 : Int) < (n : Int) := by omega
  have e1 := Int.emod_nonneg x (b := (n : Int)) (by omega)
  have e2 := Int.emod_lt_of_pos x h0
  have hb : -(n : Int) < Int.tmod x n ∧ Int.tmod x n < n := ⟨by have := Int.lt_tmod_of_pos x h0; omega, Int.tmod_lt_of_pos x h0⟩
  refine ⟨?_, by omega, hb⟩
  rw [Int.tmod_eq_emod_of_nonneg (by omega), Int.add_emod_right]
  rw [Int.toNat_of_nonneg e1]
  have e := Int.tmod_add_mul_tdiv x n
  conv => rhs; rw [← e]
  rw [Int.add_mul_emod_self_left]
end Go.Proofs.Ythjjjnapcbkhjaa
namespace Go.Proofs.Ythjjjnapcbkhjaa
set_option linter.unusedVariables false
theorem rows_facts {n0 : Int} {t d : List Int} (ho : arrOk (n0 :: t) d = true) :
    ∃ cnt N : Nat, n0 = (cnt : Int) ∧ cnt ≤ 300 ∧ N ≤ 300 ∧ cnt * N = d.length ∧ (rowsF (n0 :: t) d).length = 2 * cnt ∧
      ∀ k, k < cnt → (rowsF (n0 :: t) d).getD (2 * k) [] = t ∧ ∃ D, (rowsF (n0 :: t) d).getD (2 * k + 1) [] = D ∧ D.length = N ∧ arrOk t D = true ∧ ∀ j, j < N → D.getD j 0 = d.getD (k * N + j) 0 := by
  have hh := head_bd ho
  simp only [List.getD_cons_zero] at hh
  obtain ⟨cnt, rfl⟩ : ∃ cnt : Nat, n0 = (cnt : Int) := ⟨n0.toNat, by omega⟩
  have hL : (rowsF ((cnt : Int) :: t) d).length = 2 * cnt := by rw [rowsF_length, if_pos ⟨ho, by simp⟩]; simp
  by_cases hp : 0 < cnt
  · obtain ⟨p0, p1, p2⟩ := tail_size ho (by omega)
    obtain ⟨N, hN⟩ : ∃ N : Nat, sizeV t = N := ⟨(sizeV t).toNat, by omega⟩
    rw [hN] at p1
    have hmul : cnt * N = d.length := by
      have : ((cnt * N : Nat) : Int) = (d.length : Int) := by simpa using p1
      omega
    refine ⟨cnt, N, rfl, by omega, by omega, hmul, hL, fun k hk => ?_⟩
    have hat := flat2_at cnt k (fun _ => t) (fun i => (d.drop (i * N)).take N) hk
    have hR : rowsF ((cnt : Int) :: t) d = (List.range cnt).flatMap (fun i => [t, (d.drop (i * N)).take N]) := by
      unfold rowsF
      rw [if_pos ⟨ho, by simp⟩]
      simp [hN]
    have hle : k * N + N ≤ d.length := by
      have q : (k + 1) * N ≤ cnt * N := Nat.mul_le_mul_right N (by omega)
      rw [hmul, Nat.add_mul, Nat.one_mul] at q
      exact q
    have hlen : ((d.drop (k * N)).take N).length = N := by simp; omega
    rw [hR]
    refine ⟨hat.1, _, hat.2, hlen, ?_, fun j hj => ?_⟩
    · have hd : d.all ok = true := by simp only [arrOk, Bool.and_eq_true] at ho; exact ho.2
      simp only [arrOk, Bool.and_eq_true, decide_eq_true_eq, hlen, hN, true_and]
      rw [List.all_eq_true] at hd ⊢
      exact fun x hx => hd x (List.mem_of_mem_drop (List.mem_of_mem_take hx))
    · simp [List.getD, List.getElem?_take_of_lt hj]
  · obtain rfl : cnt = 0 := by omega
    have hz := arrOk_size ho
    have k4 := (sizeV_ok (arrOk_shape ho)).2.2.2
    rw [prodV_cons] at k4
    rw [show ((0 : Nat) : Int) = 0 from rfl, Int.zero_mul] at k4
    rw [show ((0 : Nat) : Int) = 0 from rfl] at hz
    have hd : d.length = 0 := by omega
    exact ⟨0, 0, rfl, by omega, by omega, by omega, hL, fun k hk => by omega⟩
theorem numAt_index {s d : List Int} (ho : arrOk s d = true) {k : Nat} (hk : k < d.length) : numAtOk s d (indexV s (k : Int)) = true ∧ numAtV s d (indexV s (k : Int)) = d.getD k 0 := by
  have hz := arrOk_size ho
  have q := (place_of_index (s := s) (p := (k : Int)) (by omega) (by omega) (by omega)).2
  have h1 : numAtOk s d (indexV s (k : Int)) = true := by simp [numAtOk, ho, q]
  refine ⟨h1, ?_⟩
  rw [numAt_good h1, q, Int.toNat_natCast]
end Go.Proofs.Ythjjjnapcbkhjaa
namespace Go.Proofs.Ythjjjnapcbkhjaa
set_option linter.unusedVariables false
theorem flat_at {N : Nat} {g : Nat → List Int} (k : Nat) : ∀ n, k < n → (∀ i, i < n → (g i).length = N) → (((List.range n).flatMap g).drop (k * N)).take N = g k ∧ ((List.range n).flatMap g).length = n * N := by
  intro n
  induction n with
  | zero => intro h; omega
  | succ n ih =>
    intro hk hg
    have hl : ∀ m, m ≤ n + 1 → ((List.range m).flatMap g).length = m * N := by
      intro m
      induction m with
      | zero => intro _; simp
      | succ m im => intro hm; rw [List.range_succ, List.flatMap_append, List.length_append, im (by omega), Nat.add_mul, Nat.one_mul]; simp [hg m (by omega)]
    refine ⟨?_, hl _ (Nat.le_refl _)⟩
    rw [List.range_succ, List.flatMap_append]
    have e : List.flatMap g [n] = g n := by simp
    rw [e]
    have h1 := hl n (by omega)
    by_cases hkn : k < n
    · obtain ⟨q, _⟩ := ih hkn (fun i hi => hg i (by omega))
      have hle : k * N + N ≤ n * N := by
        have : (k + 1) * N ≤ n * N := Nat.mul_le_mul_right N (by omega)
        rw [Nat.add_mul, Nat.one_mul] at this; exact this
      rw [List.drop_append_of_le_length (by omega), List.take_append_of_le_length (by rw [List.length_drop]; omega)]
      exact q
    · obtain rfl : k = n := by omega
      rw [← h1, List.drop_left, List.take_of_length_le (by rw [hg k (by omega)]; exact Nat.le_refl _)]
theorem rot_code {s d t f : List Int} (h : (rotateR s d t f).1 = 0) : (arrOk s d = true ∧ arrOk t f = true) ∧ d.length = 1 ∧ (rotateR s d t f).2.1 = t ∧ (rotateR s d t f).2.2 = rotateD (d.getD 0 0) t f := by
  unfold rotateR at h ⊢
  rw [mkR_code] at h
  rw [h, mkR_good]
  unfold oneC at h
  by_cases q : arrOk s d = true ∧ arrOk t f = true
  · rw [if_pos q] at h
    by_cases l : d.length ≠ 1
    · rw [if_pos l] at h; cases h
    · exact ⟨q, by simpa using l, rfl, rfl⟩
  · rw [if_neg q] at h; cases h
theorem rot_bad {s d t f : List Int} (h : (rotateR s d t f).1 ≠ 0) : (rotateR s d t f).2.2.length = 0 := by
  unfold rotateR at h ⊢
  rw [mkR_code] at h
  rw [mkR_bad h]; rfl
theorem rot_none {t f : List Int} {x : Int} (h : t = [] ∨ t.getD 0 0 = 0) : rotateD x t f = f := by unfold rotateD; rw [if_pos h]
theorem rowAt_len {t f : List Int} (ho : arrOk t f = true) (ht : t ≠ []) {i : Nat} (hi : i < rowsN t) : (rowAt t f i).length = rowN t := by
  have h := rows5 ho ht
  have : (i + 1) * rowN t ≤ rowsN t * rowN t := Nat.mul_le_mul_right _ (by omega)
  rw [Nat.add_mul, Nat.one_mul] at this
  unfold rowAt
  simp
  omega
theorem rot_rows {t f : List Int} (x : Int) (ho : arrOk t f = true) (hn : ¬ (t = [] ∨ t.getD 0 0 = 0)) :
    ∃ n : Nat, t.getD 0 0 = (n : Int) ∧ 0 < n ∧ n ≤ 300 ∧ (rowsF t f).length = 2 * n ∧ (rowsF t (rotateD x t f)).length = 2 * n ∧
      (Int.tmod (Int.tmod x n + n) n) = ((rotateBy x n : Nat) : Int) ∧ rotateBy x n < n ∧ (-(n : Int) < Int.tmod x n ∧ Int.tmod x n < n) ∧
      ∀ k, k < n → (rowsF t (rotateD x t f)).getD (2 * k) [] = (rowsF t f).getD (2 * ((k + rotateBy x n) % n)) [] ∧ (rowsF t (rotateD x t f)).getD (2 * k + 1) [] = (rowsF t f).getD (2 * ((k + rotateBy x n) % n) + 1) [] := by
  have ht : t ≠ [] := fun h => hn (.inl h)
  have h0 : t.getD 0 0 ≠ 0 := fun h => hn (.inr h)
  have hb := head_bd ho
  have hr : t.getD 0 0 = (rowsN t : Int) := by unfold rowsN; omega
  have hp : 0 < rowsN t := by omega
  have hlen : ∀ i, i < rowsN t → (rowAt t f ((i + rotateBy x (rowsN t)) % rowsN t)).length = rowN t := fun i _ => rowAt_len ho ht (Nat.mod_lt _ hp)
  have hD : rotateD x t f = (List.range (rowsN t)).flatMap (fun i => rowAt t f ((i + rotateBy x (rowsN t)) % rowsN t)) := by unfold rotateD; rw [if_neg hn]
  have hoD : arrOk t (rotateD x t f) = true := by
    have hz := arrOk_size ho
    have hl := (flat_at 0 (rowsN t) hp hlen).2
    rw [← hD, rows5 ho ht] at hl
    have hf : f.all ok = true := by unfold arrOk at ho; rw [Bool.and_eq_true] at ho; exact ho.2
    unfold arrOk
    rw [Bool.and_eq_true, hl]
    refine ⟨by simpa using hz, ?_⟩
    rw [List.all_eq_true] at hf ⊢
    intro y hy
    rw [hD, List.mem_flatMap] at hy
    obtain ⟨i, _, hy⟩ := hy
    exact hf y (List.mem_of_mem_drop (List.mem_of_mem_take hy))
  obtain ⟨q1, q2, q3⟩ := turn_num (x := x) hp
  have hF : ∀ e, arrOk t e = true → rowsF t e = (List.range (rowsN t)).flatMap (fun i => [t.drop 1, rowAt t e i]) := by
    intro e he
    unfold rowsF
    rw [if_pos ⟨he, ht⟩]; rfl
  refine ⟨rowsN t, hr, hp, by omega, ?_, ?_, q1, q2, q3, fun k hk => ?_⟩
  · rw [rowsF_length, if_pos ⟨ho, ht⟩]; rfl
  · rw [rowsF_length, if_pos ⟨hoD, ht⟩]; rfl
  · have a1 := flat2_at (rowsN t) k (fun _ => t.drop 1) (fun i => rowAt t (rotateD x t f) i) hk
    have a2 := flat2_at (rowsN t) ((k + rotateBy x (rowsN t)) % rowsN t) (fun _ => t.drop 1) (fun i => rowAt t f i) (Nat.mod_lt _ hp)
    rw [hF _ hoD, hF _ ho]
    rw [a1.1, a1.2, a2.1, a2.2]
    refine ⟨rfl, ?_⟩
    have := (flat_at k (rowsN t) hk hlen).1
    rw [← hD] at this
    exact this
end Go.Proofs.Ythjjjnapcbkhjaa
namespace Go.Proofs.Ythjjjnapcbkhjaa
set_option linter.unusedVariables false
theorem prod_rev {s : List Int} (h : s.length ≤ 3) : prodV s.reverse = prodV s := by
  rcases len3 h with rfl | ⟨x, rfl⟩ | ⟨x, y, rfl⟩ | ⟨x, y, z, rfl⟩
  · rfl
  · rfl
  · show prodV [y, x] = _
    rw [prod2, prod2, Int.mul_comm]
  · show prodV [z, y, x] = _
    rw [prod3, prod3, Int.mul_comm (z * y) x, Int.mul_comm z y, Int.mul_assoc]
theorem size_rev {s : List Int} (h : 0 ≤ sizeV s) : sizeV s.reverse = sizeV s := by
  obtain ⟨k1, _, _, _⟩ := sizeV_ok h
  unfold sizeV
  rw [List.length_reverse, List.all_reverse, prod_rev k1]
theorem zip_rev {s m : List Int} (h : s.length ≤ 3) (e : m.length = s.length) : s.zip m.reverse = (s.reverse.zip m).reverse := by
  rcases len3 h with rfl | ⟨x, rfl⟩ | ⟨x, y, rfl⟩ | ⟨x, y, z, rfl⟩
  · simp
  · match m, e with
    | [a], _ => rfl
  · match m, e with
    | [a, b], _ => rfl
  · match m, e with
    | [a, b, c], _ => rfl
theorem flip_place {s d : List Int} (ho : arrOk s d = true) (i : Nat) (hi : i < d.length) :
    0 ≤ placeV s (indexV s.reverse (i : Int)).reverse ∧ placeV s (indexV s.reverse (i : Int)).reverse < (d.length : Int) ∧ (indexV s.reverse (i : Int)).length ≤ 1000 := by
  have hs := arrOk_shape ho
  have z := arrOk_size ho
  have r := size_rev hs
  obtain ⟨k1, k2, k3, k4⟩ := sizeV_ok hs
  obtain ⟨q1, q2⟩ := place_of_index (s := s.reverse) (p := (i : Int)) (by omega) (by omega) (by omega)
  have hl := indexV_len s.reverse (i : Int)
  generalize indexV s.reverse (i : Int) = m at *
  rw [List.length_reverse] at q1
  have hin : inOk (s.reverse.zip m) = true := by
    unfold placeV at q2
    by_cases h1 : sizeV s.reverse < 0 ∨ m.length ≠ s.reverse.length
    · rw [if_pos h1] at q2; omega
    · rw [if_neg h1] at q2
      by_cases h2 : inOk (s.reverse.zip m) = true
      · exact h2
      · rw [if_neg h2] at q2; omega
  have hin2 : inOk (s.zip m.reverse) = true := by
    rw [zip_rev k1 q1]
    unfold inOk at hin ⊢
    rw [List.all_reverse]
    exact hin
  have e : placeV s m.reverse = hor (s.zip m.reverse) := by
    unfold placeV
    rw [if_neg (by rw [List.length_reverse]; omega), if_pos hin2]
  obtain ⟨p1, p2⟩ := hor_lt _ hin2
  have ef : (s.zip m.reverse).map Prod.fst = s := by
    rw [List.map_fst_zip]
    rw [List.length_reverse]; omega
  rw [ef] at p2
  rw [e]
  omega
end Go.Proofs.Ythjjjnapcbkhjaa
namespace Go.Proofs.Ythjjjnapcbkhjaa
set_option linter.unusedVariables false
theorem rows_join (d : List Int) (N : Nat) : ∀ n, (List.range n).flatMap (fun i => (d.drop (i * N)).take N) = d.take (n * N) := by
  intro n
  induction n with
  | zero => simp
  | succ n ih =>
    rw [List.range_succ, List.flatMap_append, ih, Nat.add_mul, Nat.one_mul, List.take_add]
    simp
theorem all_rows {s d : List Int} (ho : arrOk s d = true) (hs : s ≠ []) : (List.range (rowsN s)).flatMap (fun i => rowAt s d i) = d := by
  have h := rows_join d (rowN s) (rowsN s)
  rw [rows5 ho hs, List.take_length] at h
  exact h
/-- Rows chosen by a rule: what comes is right, and its rows are those. -/
theorem chosen_rows {s d : List Int} (ho : arrOk s d = true) (hs : s ≠ []) (σ : Nat → Nat) (hσ : ∀ i, i < rowsN s → σ i < rowsN s) :
    arrOk s ((List.range (rowsN s)).flatMap (fun i => rowAt s d (σ i))) = true ∧ ∀ k, k < rowsN s → rowAt s ((List.range (rowsN s)).flatMap (fun i => rowAt s d (σ i))) k = rowAt s d (σ k) := by
  have hl : ∀ i, i < rowsN s → (rowAt s d (σ i)).length = rowN s := fun i hi => rowAt_len ho hs (hσ i hi)
  constructor
  · have hz := arrOk_size ho
    have hd : d.all ok = true := by unfold arrOk at ho; rw [Bool.and_eq_true] at ho; exact ho.2
    have hlen : ((List.range (rowsN s)).flatMap (fun i => rowAt s d (σ i))).length = d.length := by
      by_cases h0 : rowsN s = 0
      · have := rows5 ho hs
        rw [h0] at this ⊢
        simp at this ⊢
        omega
      · rw [← rows5 ho hs]; exact (flat_at 0 (rowsN s) (by omega) hl).2
    unfold arrOk
    rw [Bool.and_eq_true, hlen]
    refine ⟨by simpa using hz, ?_⟩
    rw [List.all_eq_true] at hd ⊢
    intro y hy
    rw [List.mem_flatMap] at hy
    obtain ⟨i, _, hy⟩ := hy
    exact hd y (List.mem_of_mem_drop (List.mem_of_mem_take hy))
  · intro k hk
    exact (flat_at k (rowsN s) hk hl).1
theorem flat_ext {n : Nat} {f g : Nat → List Int} (h : ∀ i, i < n → f i = g i) : (List.range n).flatMap f = (List.range n).flatMap g := by
  induction n with
  | zero => rfl
  | succ n ih => rw [List.range_succ, List.flatMap_append, List.flatMap_append, ih (fun i hi => h i (by omega))]; simp [h n (by omega)]
theorem turn_ok {s d : List Int} (ho : arrOk s d = true) : arrOk s (turnD s d) = true ∧ turnD s (turnD s d) = d := by
  by_cases hs : s = []
  · unfold turnD; rw [if_pos hs, if_pos hs]; exact ⟨ho, rfl⟩
  · have e : ∀ x, turnD s x = (List.range (rowsN s)).flatMap (fun i => rowAt s x (rowsN s - 1 - i)) := fun x => by unfold turnD; rw [if_neg hs]
    obtain ⟨q1, q2⟩ := chosen_rows ho hs (fun i => rowsN s - 1 - i) (fun i hi => by omega)
    rw [← e d] at q1 q2
    refine ⟨q1, ?_⟩
    rw [e (turnD s d), flat_ext (g := fun i => rowAt s d i) (fun i hi => by rw [q2 _ (by omega)]; congr 1; omega)]
    exact all_rows ho hs
theorem rot_ok {t f : List Int} (x : Int) (ho : arrOk t f = true) : arrOk t (rotateD x t f) = true ∧ rotateD (0 - x) t (rotateD x t f) = f := by
  by_cases hn : t = [] ∨ t.getD 0 0 = 0
  · rw [rot_none hn, rot_none hn]; exact ⟨ho, rfl⟩
  · have hs : t ≠ [] := fun h => hn (.inl h)
    have hb := head_bd ho
    have h0 : t.getD 0 0 ≠ 0 := fun h => hn (.inr h)
    have hp : 0 < rowsN t := by unfold rowsN; omega
    have e : ∀ x f, rotateD x t f = (List.range (rowsN t)).flatMap (fun i => rowAt t f ((i + rotateBy x (rowsN t)) % rowsN t)) := fun x f => by unfold rotateD; rw [if_neg hn]
    obtain ⟨q1, q2⟩ := chosen_rows ho hs (fun i => (i + rotateBy x (rowsN t)) % rowsN t) (fun i hi => Nat.mod_lt _ hp)
    rw [← e x f] at q1 q2
    refine ⟨q1, ?_⟩
    rw [e (0 - x) (rotateD x t f), flat_ext (g := fun i => rowAt t f i) (fun i hi => by
      rw [q2 _ (Nat.mod_lt _ hp)]
      congr 1
      unfold rotateBy
      generalize rowsN t = n at *
      have a1 := Int.emod_nonneg x (b := (n : Int)) (by omega)
      have a2 := Int.emod_nonneg (0 - x) (b := (n : Int)) (by omega)
      have e1 : ((x % (n : Int)).toNat : Int) = x % (n : Int) := Int.toNat_of_nonneg a1
      have e2 : (((0 - x) % (n : Int)).toNat : Int) = (0 - x) % (n : Int) := Int.toNat_of_nonneg a2
      have key : (((((i + ((0 - x) % (n : Int)).toNat) % n + (x % (n : Int)).toNat) % n : Nat)) : Int) = (i : Int) := by
        push_cast
        rw [e1, e2]
        rw [Int.emod_add_emod, Int.add_emod_emod]
        rw [show (i : Int) + (0 - x) % (n : Int) + x = (i + x) + (0 - x) % (n : Int) by omega, Int.add_emod_emod]
        rw [show (i : Int) + x + (0 - x) = (i : Int) by omega]
        exact Int.emod_eq_of_lt (by omega) (by omega)
      omega)]
    exact all_rows ho hs
theorem flip_ok {s d : List Int} (ho : arrOk s d = true) : arrOk s.reverse (flipD s d) = true ∧ flipD s.reverse (flipD s d) = d := by
  have hz := arrOk_size ho
  have hsh := arrOk_shape ho
  have hr := size_rev hsh
  have hd : d.all ok = true := by unfold arrOk at ho; rw [Bool.and_eq_true] at ho; exact ho.2
  have hlen : (flipD s d).length = d.length := by simp [flipD]
  have hq : arrOk s.reverse (flipD s d) = true := by
    unfold arrOk
    rw [Bool.and_eq_true, hlen, hr]
    refine ⟨by simpa using hz, ?_⟩
    rw [List.all_eq_true] at hd ⊢
    intro y hy
    unfold flipD at hy
    rw [List.mem_map] at hy
    obtain ⟨i, hi, rfl⟩ := hy
    rw [List.mem_range] at hi
    obtain ⟨p0, p1, _⟩ := flip_place ho i hi
    have hlt : (placeV s (indexV s.reverse (i : Int)).reverse).toNat < d.length := by omega
    rw [List.getD_eq_getElem?_getD, List.getElem?_eq_getElem hlt]
    exact hd _ (List.getElem_mem hlt)
  refine ⟨hq, ?_⟩
  apply List.ext_getElem
  · simp [flipD]
  · intro i h1 h2
    have hi : i < (flipD s d).length := by rw [hlen]; exact h2
    obtain ⟨p0, p1, _⟩ := flip_place hq i hi
    rw [List.reverse_reverse] at p0 p1
    obtain ⟨P, hP⟩ : ∃ P : Nat, placeV s.reverse (indexV s (i : Int)).reverse = (P : Int) := ⟨(placeV s.reverse (indexV s (i : Int)).reverse).toNat, by omega⟩
    have hPl : P < d.length := by rw [hlen] at p1; omega
    have e1 : (flipD s.reverse (flipD s d))[i] = (flipD s d).getD P 0 := by
      simp only [flipD, List.getElem_map, List.getElem_range, List.reverse_reverse, hP, Int.toNat_natCast]
    have e2 : (flipD s d).getD P 0 = d.getD (placeV s (indexV s.reverse (P : Int)).reverse).toNat 0 := by
      simp [flipD, hPl]
    have e3 : indexV s.reverse (P : Int) = (indexV s (i : Int)).reverse := by
      rw [← hP]
      exact index_of_place (by omega)
    have e4 := (place_of_index (s := s) (p := (i : Int)) hsh (by omega) (by omega)).2
    rw [e1, e2, e3, List.reverse_reverse, e4, Int.toNat_natCast, List.getD_eq_getElem?_getD, List.getElem?_eq_getElem h2]
    rfl
end Go.Proofs.Ythjjjnapcbkhjaa
namespace Go.Proofs.Ythjjjnapcbkhjaa
set_option linter.unusedVariables false
theorem mono6 {N n : Int} {t : List Int} (h : 0 ≤ sizeV (N :: t)) (h0 : 0 ≤ n) (hn : n ≤ N) : 0 ≤ sizeV (n :: t) := by
  obtain ⟨k1, k2, k3, k4⟩ := sizeV_ok h
  rw [prodV_cons5] at k3
  simp only [List.all_cons, Bool.and_eq_true] at k2
  have hd := dim5 h
  have p0 := (prodV_bd t k2.2).1
  have p1 : n * prodV t ≤ N * prodV t := Int.mul_le_mul_of_nonneg_right hn p0
  have p2 : 0 ≤ n * prodV t := Int.mul_nonneg h0 p0
  have ha : (n :: t).all dimOk = true := by
    simp only [List.all_cons, Bool.and_eq_true]
    exact ⟨by simp [dimOk]; omega, k2.2⟩
  unfold sizeV
  rw [if_neg (by simp at k1 ⊢; omega), if_pos ha, prodV_cons5, if_neg (by omega)]
  exact p2
theorem row_ok6 {s d : List Int} (ho : arrOk s d = true) (i : Nat) : (rowAt s d i).all ok = true := by
  have hd : d.all ok = true := by unfold arrOk at ho; rw [Bool.and_eq_true] at ho; exact ho.2
  rw [List.all_eq_true] at hd ⊢
  intro x hx
  unfold rowAt at hx
  exact hd x (List.mem_of_mem_drop (List.mem_of_mem_take hx))
theorem told_ok {d t e : List Int} (h2 : arrOk t e = true) (n : Nat) : (toldTo d (fun i => rowAt t e i) n).all ok = true := by
  induction n with
  | zero => rfl
  | succ n ih =>
    unfold toldTo
    rw [List.all_append, ih, Bool.true_and, List.all_eq_true]
    intro x hx
    rw [List.mem_flatten] at hx
    obtain ⟨l, hl, hxl⟩ := hx
    rw [List.eq_of_mem_replicate hl] at hxl
    have := row_ok6 h2 n
    rw [List.all_eq_true] at this
    exact this x hxl
theorem copied_arr {s d t e : List Int} (h : copyC s d t e = 0) : arrOk (tot d (rowsN t) :: t.drop 1) (copyD d t e) = true := by
  obtain ⟨h1, h2, ht, hn, hz⟩ := copyC_zero h
  have hw : ((toldP (againD d (rowsN t)) (rowsN t)).length : Int) = tot d (rowsN t) := by
    rw [toldP_len (fun j hj => by rw [again_len] at hj; rw [again_often hj]; exact (often_bd h1 hn j).1) (by rw [again_len]; exact Nat.le_refl _), sumL_tot (Nat.le_refl _)]
  have hlen : (copyD d t e).length = (toldP (againD d (rowsN t)) (rowsN t)).length * rowN t := by
    rw [← copy_chosen h2]
    exact chosenD_length h2 ht _ _
  unfold arrOk
  rw [Bool.and_eq_true]
  refine ⟨?_, told_ok h2 _⟩
  rw [decide_eq_true_eq, hlen, Int.natCast_mul, hw]
  by_cases h0 : 0 < tot d (rowsN t)
  · obtain ⟨p0, p1, _⟩ := tail5 hz h0
    rw [← p1]
    unfold rowN
    rw [Int.toNat_of_nonneg p0]
  · have e0 : tot d (rowsN t) = 0 := by have := (tot_bd h1 hn (rowsN t)).1; omega
    rw [e0] at hz ⊢
    rw [zero5 hz, Int.zero_mul]
theorem tot_one (n : Nat) : tot [1] n = n := by
  induction n with
  | zero => rfl
  | succ n ih =>
    unfold tot often
    rw [ih]
    simp [Nat.mod_one]
theorem tot_none (n : Nat) : tot [0] n = 0 := by
  induction n with
  | zero => rfl
  | succ n ih =>
    unfold tot often
    rw [ih]
    simp [Nat.mod_one]
theorem told_one (f : Nat → List Int) (n : Nat) : toldTo [1] f n = (List.range n).flatMap f := by
  induction n with
  | zero => rfl
  | succ n ih =>
    unfold toldTo often
    rw [ih, List.range_succ, List.flatMap_append]
    simp [Nat.mod_one]
theorem told_none (f : Nat → List Int) (n : Nat) : toldTo [0] f n = [] := by
  induction n with
  | zero => rfl
  | succ n ih =>
    unfold toldTo often
    rw [ih]
    simp [Nat.mod_one]
theorem one_right : arrOk [] [1] = true := by decide
theorem none_right : arrOk [] [0] = true := by decide
theorem copy_one {t e : List Int} (ho : arrOk t e = true) (ht : t ≠ []) : copyR [] [1] t e = (0, t, e) := by
  obtain ⟨e1, e2⟩ := rowsN5 ho
  have hS : tot [1] (rowsN t) :: t.drop 1 = t := by
    rw [tot_one, ← e2]
    cases t with
    | nil => exact absurd rfl ht
    | cons y s => rfl
  have hD : copyD [1] t e = e := by
    unfold copyD
    rw [told_one]
    exact all_rows ho ht
  rw [copyR_told one_right ho, if_neg (by simp; exact ht), if_neg (by simp), if_neg (by simp), hS, hD, if_neg (by have := arrOk_shape ho; omega)]
theorem copy_none {t e : List Int} (ho : arrOk t e = true) (ht : t ≠ []) : copyR [] [0] t e = (0, 0 :: t.drop 1, []) := by
  have hS : tot [0] (rowsN t) :: t.drop 1 = 0 :: t.drop 1 := by rw [tot_none]
  have hD : copyD [0] t e = [] := by unfold copyD; exact told_none _ _
  have hz : 0 ≤ sizeV (0 :: t.drop 1) := by
    cases t with
    | nil => exact absurd rfl ht
    | cons y s =>
      have hb := head_bd ho
      simp only [List.getD_cons_zero] at hb
      exact mono6 (arrOk_shape ho) (Int.le_refl 0) hb.1
  rw [copyR_told none_right ho, if_neg (by simp; exact ht), if_neg (by simp), if_neg (by simp), hS, hD, if_neg (by omega)]
theorem copy_bad {s d t e : List Int} (h : (copyR s d t e).1 ≠ 0) : (copyR s d t e).2.2 = [] := by
  unfold copyR at h ⊢
  rw [mkR_code] at h
  rw [mkR_bad h]
theorem copied_good {s d t e : List Int} (h : (copyR s d t e).1 = 0) : arrOk s d = true ∧ arrOk t e = true ∧ t ≠ [] ∧ (copyR s d t e).2.2 = toldTo d (fun i => rowAt t e i) (rowsN t) ∧ arrOk (copyR s d t e).2.1 (copyR s d t e).2.2 = true ∧ (0 < rowsN t → 0 < d.length) ∧ (∀ i, 0 ≤ often d i ∧ often d i ≤ 1000000000000) ∧ (∀ i, i < rowsN t → often d i ≤ 300 ∧ 0 ≤ tot d i ∧ tot d i ≤ 300) := by
  unfold copyR at h
  rw [mkR_code] at h
  have ha := copied_arr h
  obtain ⟨h1, h2, ht, hn, hz⟩ := copyC_zero h
  have hb := dim5 hz
  unfold copyR
  rw [h, mkR_good]
  refine ⟨h1, h2, ht, rfl, ha, fun hp => ?_, fun i => often_bd h1 hn i, fun i hi => ?_⟩
  · have e2 := (rowsN5 h2).2
    unfold copyC at h
    rw [if_pos ⟨h1, h2⟩] at h
    by_cases q2 : 1 < s.length ∨ t = []
    · rw [if_pos q2] at h; cases h
    · rw [if_neg q2] at h
      by_cases q3 : d.length ≠ 1 ∧ (d.length : Int) ≠ t.getD 0 0
      · rw [if_pos q3] at h; cases h
      · rcases Nat.lt_or_ge 0 d.length with q | q
        · exact q
        · exfalso; apply q3; constructor <;> omega
  · have m1 := tot_mono h1 hn (i := i + 1) (n := rowsN t) (by omega)
    have m2 := (tot_bd h1 hn i).1
    have m3 := (often_bd h1 hn i).1
    have m4 : tot d (i + 1) = tot d i + often d i := rfl
    omega
end Go.Proofs.Ythjjjnapcbkhjaa
namespace Go.Proofs.Ythjjjnapcbkhjaa
open Go.RowKit
set_option linter.unusedVariables false
set_option linter.unusedSimpArgs false
theorem arrsI_sub {w : World} {o off n c m M : Nat} {F : List (List Int)} {a' : Option Addr} {c' : Nat} (h : ArrsI w (.slice (some ⟨o, off, none⟩) n c) F) (hM : M + m ≤ n) (ha : m = 0 ∨ a' = some ⟨o, off + M * 2, none⟩) : ArrsI w (.slice a' m c') ((F.drop (2 * M)).take (2 * m)) := by
  obtain ⟨a, n', c'', e, hF, h⟩ := h
  cases e
  have hl : ((F.drop (2 * M)).take (2 * m)).length = 2 * m := by simp; omega
  refine ⟨a', m, c', rfl, hl, ?_⟩
  rcases ha with h0 | rfl
  · exact .inl h0
  · by_cases h0 : m = 0
    · exact .inl h0
    · rcases h with h | ⟨o', off', xs, e, ho, hx, hj⟩
      · omega
      · cases e
        refine .inr ⟨o, off + M * 2, (xs.drop (2 * M)).take (2 * m), rfl, ho, by simp; omega, fun j hj' => ?_⟩
        have hj2 : j < 2 * m := by simp at hj'; omega
        obtain ⟨q1, q2⟩ := hj (2 * M + j) (by omega)
        have e1 : ((xs.drop (2 * M)).take (2 * m)).getD j undef = xs.getD (2 * M + j) undef := by simp [List.getD, List.getElem?_take_of_lt hj2]
        have e2 : ((F.drop (2 * M)).take (2 * m)).getD j [] = F.getD (2 * M + j) [] := by simp [List.getD, List.getElem?_take_of_lt hj2]
        rw [e1, e2]
        refine ⟨?_, q2⟩
        rw [show off + M * 2 + j = off + (2 * M + j) from by omega]
        exact q1
/-- A list of arrays from one on. -/
theorem arrs_from {w : World} {a : Option Addr} {n c M : Nat} {F : List (List Int)} (h : ArrsI w (.slice a n c) F) (hc : n ≤ c) (hM : M ≤ n) :
    ∃ a' c', (∀ W, (Instr.slice 35 (.slice a n c) (some (.int .i64 (M : Int))) none none).run Try.prog W = .ok (.slice a' (n - M) c') W) ∧ ArrsI w (.slice a' (n - M) c') ((F.drop (2 * M)).take (2 * (n - M))) := by
  have hrun : ∀ W, (Instr.slice 35 (.slice a n c) (some (.int .i64 (M : Int))) none none).run Try.prog W = .ok (sliced a M n c 2) W := by
    intro W
    have hs : (sizeOf 26).run Try.prog W = .ok 2 W := by kernel_rfl
    have he : Try.prog.elem 35 = 26 := by kernel_rfl
    rw [run_slice_l (P := Try.prog) (w := W) 35 a n c (by rw [he]; exact Try.underlying35) .i64 (M : Int) (by omega) (by omega), he, hs]
    simp [Result.andThen]
  refine ⟨_, _, hrun, ?_⟩
  by_cases h0 : n - M = 0
  · rw [h0]
    exact ⟨_, 0, _, rfl, by simp, .inl rfl⟩
  · obtain ⟨o, off, _, _, rfl, _⟩ := h.at (k := M) (by omega)
    refine arrsI_sub h (by omega) (.inr ?_)
    rw [if_neg (by omega)]
    simp [Addr.add]
/-- A list of arrays up to one. -/
theorem arrs_upto {w : World} {a : Option Addr} {n c m : Nat} {F : List (List Int)} (h : ArrsI w (.slice a n c) F) (hc : n ≤ c) (hm : m ≤ n) :
    ∃ a' c', (∀ W, (Instr.slice 35 (.slice a n c) none (some (.int .i64 (m : Int))) none).run Try.prog W = .ok (.slice a' m c') W) ∧ ArrsI w (.slice a' m c') ((F.drop 0).take (2 * m)) := by
  have hrun : ∀ W, (Instr.slice 35 (.slice a n c) none (some (.int .i64 (m : Int))) none).run Try.prog W = .ok (sliced a 0 m c 2) W := by
    intro W
    have hs : (sizeOf 26).run Try.prog W = .ok 2 W := by kernel_rfl
    have he : Try.prog.elem 35 = 26 := by kernel_rfl
    rw [run_slice_h (P := Try.prog) (w := W) 35 a n c (by rw [he]; exact Try.underlying35) .i64 (m : Int) (by omega) (by omega), he, hs]
    simp [Result.andThen]
  refine ⟨_, _, hrun, ?_⟩
  by_cases h0 : m = 0
  · subst h0
    exact ⟨_, 0, _, rfl, by simp, .inl rfl⟩
  · obtain ⟨o, off, _, _, rfl, _⟩ := h.at (k := 0) (by omega)
    have := arrsI_sub (M := 0) (m := m) (a' := some ⟨o, off, none⟩) (c' := c - 0) h (by omega) (.inr (by simp))
    simpa [sliced, Addr.add] using this
theorem vec_ok {t e : List Int} (h : arrOk t e = true) : arrOk (vecS t e) e = true ∧ vecS t e ≠ [] := by
  unfold vecS
  by_cases ht : t = []
  · subst ht
    rw [if_pos rfl]
    have z := arrOk_size h
    rw [sizeV_0'] at z
    have hl : e.length = 1 := by omega
    refine ⟨?_, by simp⟩
    have h2 : e.all ok = true := by
      unfold arrOk at h
      simp only [Bool.and_eq_true] at h
      exact h.2
    unfold arrOk
    rw [h2, hl]
    decide
  · rw [if_neg ht]; exact ⟨h, ht⟩
end Go.Proofs.Ythjjjnapcbkhjaa
namespace Go.Proofs.Ythjjjnapcbkhjaa
open Go.RowKit
set_option linter.unusedVariables false
set_option linter.unusedSimpArgs false
theorem rowsF_oddAt {s d : List Int} (ho : arrOk s d = true) (hs : s ≠ []) {M m i : Nat} (h : M + m ≤ rowsN s) (hi : i < m) : (((rowsF s d).drop (2 * M)).take (2 * m)).getD (2 * i + 1) [] = rowAt s d (M + i) := by
  rw [← rowsF_odd ho hs (i := M + i) (by omega)]
  simp only [List.getD_eq_getElem?_getD]
  rw [List.getElem?_take_of_lt (by omega), List.getElem?_drop, show 2 * M + (2 * i + 1) = 2 * (M + i) + 1 from by omega]
theorem cat_cut {s d : List Int} (ho : arrOk s d = true) (hs : s ≠ []) {M m : Nat} (h : M + m ≤ rowsN s) : catF (((rowsF s d).drop (2 * M)).take (2 * m)) m = (d.drop (M * rowN s)).take (m * rowN s) := by
  have key : ∀ k, k ≤ m → catF (((rowsF s d).drop (2 * M)).take (2 * m)) k = (d.drop (M * rowN s)).take (k * rowN s) := by
    intro k
    induction k with
    | zero => intro _; simp [catF]
    | succ k ih =>
      intro hk
      rw [catF_succ, ih (by omega), rowsF_oddAt ho hs h (by omega), Nat.succ_mul, List.take_add]
      congr 1
      unfold rowAt
      rw [List.drop_drop, Nat.add_mul]
  exact key m (Nat.le_refl _)
theorem rows_all {s d : List Int} (ho : arrOk s d = true) (hs : s ≠ []) : rowsN s * rowN s = d.length := by
  obtain ⟨e1, e2⟩ := rowsN_bd ho
  cases s with
  | nil => exact absurd rfl hs
  | cons n0 t =>
    have h0 : n0 = (rowsN (n0 :: t) : Int) := e2
    by_cases hp : 0 < n0
    · obtain ⟨p0, p1, p2⟩ := tail_size ho hp
      have : rowN (n0 :: t) = (sizeV t).toNat := rfl
      have q : ((rowsN (n0 :: t) * rowN (n0 :: t) : Nat) : Int) = (d.length : Int) := by
        rw [this, Int.natCast_mul, ← h0, Int.toNat_of_nonneg p0]; exact p1
      omega
    · have hz : rowsN (n0 :: t) = 0 := by omega
      have z := arrOk_size ho
      have k := (sizeV_ok (arrOk_shape ho)).2.2.2
      have : sizeV (n0 :: t) = 0 := by
        rw [k]
        have : n0 = 0 := by omega
        subst this
        have hf : ∀ l : List Int, List.foldl (fun x1 x2 => x1 * x2) 0 l = 0 := by
          intro l
          induction l with
          | nil => rfl
          | cons y l ih => simpa using ih
        simp [prodV, hf]
      rw [hz, Nat.zero_mul]
      omega
theorem many_nat (x : Int) : manyV x = ((manyV x).toNat : Int) := by unfold manyV; split <;> omega
end Go.Proofs.Ythjjjnapcbkhjaa
namespace Go.Proofs.Ythjjjnapcbkhjaa
open Go.RowKit
set_option linter.unusedVariables false
set_option linter.unusedSimpArgs false
/-- A list of numbers up to one. -/
theorem ints_upto {w : World} {a : Option Addr} {l : List Int} {c M : Nat} (h : Ints w a l) (hc : l.length ≤ c) (hM : M ≤ l.length) :
    ∃ a' c', (∀ W, (Instr.slice 24 (.slice a l.length c) none (some (.int .i64 (M : Int))) none).run Try.prog W = .ok (.slice a' M c') W) ∧ Ints w a' (l.take M) := by
  have hrun : ∀ W, (Instr.slice 24 (.slice a l.length c) none (some (.int .i64 (M : Int))) none).run Try.prog W = .ok (sliced a 0 M c 1) W := by
    intro W
    have hs : (sizeOf 3).run Try.prog W = .ok 1 W := by kernel_rfl
    have he : Try.prog.elem 24 = 3 := by kernel_rfl
    rw [run_slice_h (P := Try.prog) (w := W) 24 a l.length c (by rw [he]; exact Try.underlying24) .i64 (M : Int) (by omega) (by omega), he, hs]
    simp [Result.andThen]
  refine ⟨_, _, hrun, ?_⟩
  by_cases h0 : M = 0
  · subst h0; exact .inl (by simp)
  · obtain ⟨b, o, rfl, _, _⟩ := h.at (k := 0) (by omega)
    have := ints_cut (m := 0) (n := M) h (by omega)
    have e : (if c = 0 then (some ⟨b, o, none⟩ : Option Addr) else (some (⟨b, o, none⟩ : Addr)).map (·.add (0 * 1))) = some ⟨b, o, none⟩ := by
      split
      · rfl
      · simp [Addr.add]
    rw [e]
    simpa using this
/-- A list of numbers from one on. -/
theorem ints_from {w : World} {a : Option Addr} {l : List Int} {c M : Nat} (h : Ints w a l) (hc : l.length ≤ c) (hM : M ≤ l.length) :
    ∃ a' c', (∀ W, (Instr.slice 24 (.slice a l.length c) (some (.int .i64 (M : Int))) none none).run Try.prog W = .ok (.slice a' (l.drop M).length c') W) ∧ Ints w a' (l.drop M) := by
  have hrun : ∀ W, (Instr.slice 24 (.slice a l.length c) (some (.int .i64 (M : Int))) none none).run Try.prog W = .ok (sliced a M l.length c 1) W := by
    intro W
    have hs : (sizeOf 3).run Try.prog W = .ok 1 W := by kernel_rfl
    have he : Try.prog.elem 24 = 3 := by kernel_rfl
    rw [run_slice_l (P := Try.prog) (w := W) 24 a l.length c (by rw [he]; exact Try.underlying24) .i64 (M : Int) (by omega) (by omega), he, hs]
    simp [Result.andThen]
  rw [show (l.drop M).length = l.length - M from by simp]
  refine ⟨_, _, hrun, ?_⟩
  by_cases h0 : l.length - M = 0
  · exact .inl (List.eq_nil_of_length_eq_zero (by simpa using h0))
  · obtain ⟨b, o, rfl, _, _⟩ := h.at (k := 0) (by omega)
    have := ints_cut (m := M) (n := l.length - M) h (by omega)
    rw [if_neg (by omega)]
    have e2 : (l.drop M).take (l.length - M) = l.drop M := List.take_of_length_le (by simp)
    rw [e2] at this
    by_cases hM0 : M = 0 <;> simpa [Addr.add, hM0] using this
/-- Growing by a list: nothing but the list's own block is turned. -/
theorem growG {B : Nat} {w : World} {v : Value} {l m : List Int} {a : Option Addr} (h : NewInts B w v l) (hm : Ints w a m) (hB : B ≤ w.heap.size) (hl : l.length + m.length ≤ 1048576) (c : Nat) :
    ∃ a' c' w', (Builtin.append_ #[24, 24] 24 #[v, .slice a m.length c]).run Try.prog w = .ok (.slice a' (l ++ m).length c') w' ∧ NewInts B w' (.slice a' (l ++ m).length c') (l ++ m) ∧ w.grownBy w' v.ownBlock ∧ ((Value.slice a' (l ++ m).length c').ownBlock = v.ownBlock ∨ (Value.slice a' (l ++ m).length c').ownBlock = some w.heap.size) := by
  obtain ⟨i, hq, z1, z2, z3⟩ : ∃ i, Try.prog.info? 3 = some i ∧ i.zero = some (.int .i64 0) ∧ i.size = 1 ∧ i.bytes = 8 := by
    have hi := info_int
    cases hq : Try.prog.info? 3 with
    | none => rw [hq] at hi; cases hi
    | some i => rw [hq] at hi; simp at hi; exact ⟨i, rfl, hi.1, hi.2.1, hi.2.2⟩
  cases a with
  | none =>
    obtain rfl : m = [] := by
      rcases hm with h | ⟨b, off, e, _⟩
      · exact h
      · cases e
    obtain ⟨base, cap, rfl, hle⟩ : ∃ base cap, v = .slice base l.length cap ∧ l.length ≤ cap := by
      rcases h.2 with ⟨e, h0⟩ | ⟨g, cap, cur, e, _, _, hle, _⟩
      · exact ⟨none, 0, by rw [e, h0], by omega⟩
      · exact ⟨_, cap, e, hle⟩
    refine ⟨base, cap, w, ?_, by simpa using h, ⟨rfl, rfl, rfl, Nat.le_refl _, fun _ _ _ => rfl⟩, .inl (by simp [Value.ownBlock])⟩
    have := run_append_nothing (P := Try.prog) w 24 24 24 3 i Try.underlying24 hq base l.length cap hle (.slice none 0 c) (by rw [z2]; exact Src.ofNil w Try.underlying24 c)
    simpa using this
  | some ad =>
    have hn : ∀ (j : Nat) (u : Value), (m.map (Value.int .i64))[j]? = some u → w.cell? (ad.add j) = some u := by
      rcases hm with rfl | ⟨b, off, e, _, hc⟩
      · intro j u hu; simp at hu
      · cases e; exact ints_news hc
    obtain ⟨v', w', hr, h2, h3, _, h5⟩ := run_append_own_at (P := Try.prog) w B 24 24 3 i (.int .i64 0) 1 8 Try.underlying24 hq z1 z2 z3 rfl (by decide) v l.length (l.map (Value.int .i64)) h ad m.length c (m.map (Value.int .i64)) (by simp) hn (by intro u hu; obtain ⟨x, _, rfl⟩ := List.mem_map.1 hu; rfl) (by unfold maxLen; omega) (by omega) hB
    have h2' : NewInts B w' v' (l ++ m) := by
      show World.ownsRow _ _ _ _ _ _ _
      simpa using h2
    obtain ⟨a', c', rfl, _⟩ := h2'.ints
    exact ⟨a', c', w', hr, h2', h3, h5⟩
theorem sizeV_tail {n0 : Int} {t : List Int} (h : 0 ≤ sizeV (n0 :: t)) (hp : 0 < n0) : 0 ≤ sizeV t ∧ n0 * sizeV t = sizeV (n0 :: t) := by
  have ho : arrOk (n0 :: t) (List.replicate (sizeV (n0 :: t)).toNat 0) = true := by
    unfold arrOk
    have e1 : (List.replicate (sizeV (n0 :: t)).toNat (0 : Int)).all ok = true := by
      rw [List.all_eq_true]
      intro x hx
      obtain rfl := (List.mem_replicate.1 hx).2
      decide
    rw [e1]
    simp
    omega
  obtain ⟨p0, p1, p2⟩ := tail_size ho hp
  refine ⟨p0, ?_⟩
  rw [p1]
  simp
  omega
theorem dim_bd {n0 : Int} {t : List Int} (h : 0 ≤ sizeV (n0 :: t)) : 0 ≤ n0 ∧ n0 ≤ 300 := by
  have := (sizeV_ok h).2.1
  rw [List.all_eq_true] at this
  have := this n0 (by simp)
  simpa [dimOk] using this
/-- What is taken, and what is left out, in numbers. -/
theorem take_nums {t e : List Int} {x : Int} (ho : arrOk t e = true) (hz : 0 ≤ sizeV (takeS x t e)) :
    (haveN x t e : Int) * sizeV ((vecS t e).drop 1) = ((haveN x t e * rowN (vecS t e) : Nat) : Int) ∧
    (((manyV x).toNat : Int) - (haveN x t e : Int)) * sizeV ((vecS t e).drop 1) = ((((manyV x).toNat - haveN x t e) * rowN (vecS t e) : Nat) : Int) ∧
    ((rowsN (vecS t e) : Int) - (haveN x t e : Int)) * sizeV ((vecS t e).drop 1) = (((rowsN (vecS t e) - haveN x t e) * rowN (vecS t e) : Nat) : Int) ∧
    haveN x t e * rowN (vecS t e) ≤ e.length ∧ ((manyV x).toNat - haveN x t e) * rowN (vecS t e) ≤ 300 ∧ (rowsN (vecS t e) - haveN x t e) * rowN (vecS t e) ≤ e.length ∧ (manyV x).toNat ≤ 300 ∧ haveN x t e ≤ (manyV x).toNat ∧ haveN x t e ≤ rowsN (vecS t e) ∧ -1 ≤ sizeV ((vecS t e).drop 1) ∧ sizeV ((vecS t e).drop 1) ≤ 300 := by
  obtain ⟨ov, hv0⟩ := vec_ok ho
  obtain ⟨e1, e2⟩ := rowsN_bd ov
  have eall := rows_all ov hv0
  have hm := many_nat x
  have eta := cons_eta hv0
  have hH : haveN x t e = min (manyV x).toNat (rowsN (vecS t e)) := rfl
  have hR : rowN (vecS t e) = (sizeV ((vecS t e).drop 1)).toNat := rfl
  have sb := sizeV_bd ((vecS t e).drop 1)
  unfold takeS at hz
  have hd := dim_bd hz
  have key : 0 ≤ sizeV ((vecS t e).drop 1) ∨ ((manyV x).toNat = 0 ∧ rowsN (vecS t e) = 0) := by
    by_cases h1 : 0 < manyV x
    · exact .inl (sizeV_tail hz h1).1
    · by_cases h2 : 0 < rowsN (vecS t e)
      · refine .inl ?_
        have hs := arrOk_shape ov
        rw [← eta] at hs
        exact (sizeV_tail hs (by omega)).1
      · exact .inr ⟨by omega, by omega⟩
  have hmz : (manyV x).toNat * rowN (vecS t e) ≤ 300 := by
    by_cases h1 : 0 < manyV x
    · obtain ⟨p0, p1⟩ := sizeV_tail hz h1
      have b := (sizeV_bd (manyV x :: (vecS t e).drop 1)).2
      have : (((manyV x).toNat * rowN (vecS t e) : Nat) : Int) ≤ 300 := by
        rw [Int.natCast_mul, ← hm, hR, Int.toNat_of_nonneg p0, p1]; exact b
      omega
    · have : (manyV x).toNat = 0 := by omega
      rw [this]; simp
  generalize rowsN (vecS t e) = N at *
  generalize haveN x t e = H at *
  generalize (manyV x).toNat = m at *
  have hH1 : H ≤ m := by rw [hH]; exact Nat.min_le_left _ _
  have hH2 : H ≤ N := by rw [hH]; exact Nat.min_le_right _ _
  have q1 : H * rowN (vecS t e) ≤ N * rowN (vecS t e) := Nat.mul_le_mul_right _ hH2
  have q2 : (m - H) * rowN (vecS t e) ≤ m * rowN (vecS t e) := Nat.mul_le_mul_right _ (Nat.sub_le _ _)
  have q3 : (N - H) * rowN (vecS t e) ≤ N * rowN (vecS t e) := Nat.mul_le_mul_right _ (Nat.sub_le _ _)
  refine ⟨?_, ?_, ?_, by omega, by omega, by omega, by omega, hH1, hH2, sb.1, sb.2⟩
  all_goals
    rcases key with k | ⟨k1, k2⟩
    · rw [Int.natCast_mul, hR, Int.toNat_of_nonneg k]
      try (congr 1; omega)
    · subst k1 k2
      obtain rfl : H = 0 := by omega
      simp
end Go.Proofs.Ythjjjnapcbkhjaa
namespace Go.Proofs.Ythjjjnapcbkhjaa
open Go.RowKit
set_option linter.unusedVariables false
set_option linter.unusedSimpArgs false
/-- The first k of n places are filled, again and again. -/
def againTo (e : List Int) (n k : Nat) : List Int := (List.range n).map fun i => if i < k then e.getD (i % e.length) 0 else 0
theorem againTo_zero (e : List Int) (n : Nat) : againTo e n 0 = List.replicate n 0 := by
  unfold againTo
  apply List.ext_getElem
  · simp
  · intro i h1 h2; simp
theorem againTo_all {e : List Int} (h : e ≠ []) (n : Nat) : againTo e n n = againD e n := by
  unfold againTo againD
  apply List.map_congr_left
  intro i hi
  rw [if_pos (by simpa using hi), if_neg h]
theorem againD_nil (n : Nat) : againD [] n = List.replicate n 0 := by
  unfold againD
  apply List.ext_getElem
  · simp
  · intro i h1 h2; simp
theorem againTo_length (e : List Int) (n k : Nat) : (againTo e n k).length = n := by simp [againTo]
theorem againTo_at (e : List Int) {n k i : Nat} (hi : i < n) : (againTo e n k).getD i 0 = if i < k then e.getD (i % e.length) 0 else 0 := by
  unfold againTo
  simp [hi]
theorem paste_again {e : List Int} {n k m : Nat} (hk : k % e.length = 0) (hm : m ≤ e.length) (hn : k + m ≤ n) : paste (againTo e n k) k e m = againTo e n (k + m) := by
  apply List.ext_getElem
  · rw [paste_length (by rw [againTo_length]; exact hn) hm, againTo_length, againTo_length]
  · intro i h1 h2
    have hi : i < n := by rwa [againTo_length] at h2
    have q := paste_at (l := againTo e n k) (e := e) (k := k) (m := m) (by rw [againTo_length]; exact hn) hm i
    rw [againTo_at e hi] at q
    have r := againTo_at e (k := k + m) hi
    simp only [List.getD_eq_getElem?_getD] at q r
    rw [List.getElem?_eq_getElem h1] at q
    rw [List.getElem?_eq_getElem h2] at r
    simp only [Option.getD_some] at q r
    rw [q, r]
    by_cases c1 : i < k
    · rw [if_pos c1, if_pos c1, if_pos (by omega)]
    · rw [if_neg c1, if_neg c1]
      by_cases c2 : i < k + m
      · rw [if_pos c2, if_pos c2]
        have : i % e.length = i - k := by
          have e1 : i = k + (i - k) := by omega
          conv => lhs; rw [e1]
          rw [Nat.add_mod, hk, Nat.zero_add, Nat.mod_mod, Nat.mod_eq_of_lt (by omega)]
        rw [this]
      · rw [if_neg c2, if_neg c2]
set_option maxRecDepth 20000 in
set_option maxHeartbeats 2000000 in
/-- againAndAgain. -/
theorem again_impl {e : List Int} {a : Option Addr} {w : World} {n c : Nat} (h : Ints w a e) (he : e.length ≤ 1048576) (hn : n ≤ 1048576) :
    Calls Try.prog 72 #[.slice a e.length c, .int .i64 (n : Int)] w fun r w' => r = .returned (.slice (some ⟨w.heap.size, 0, none⟩) n n) ∧ OwnInts w' w.heap.size (againD e n) ∧ Below w.heap.size w w' := by
  have hmk : ∀ w, (Instr.makeSlice 24 (.int .i64 (n : Int)) (.int .i64 (n : Int))).run Try.prog w = .ok (.slice (some ⟨w.heap.size, 0, none⟩) n n) (w.alloc (.cells (vals (List.replicate n 0)) 3)) := fun w => make_ints n (by omega) w
  obtain ⟨D, hD⟩ : ∃ D, D = againD e n := ⟨_, rfl⟩
  rw [← hD]
  by_cases h0 : e = []
  · have ED : Hid (D = List.replicate n 0) := by show _ = _; rw [hD, h0, againD_nil]
    subst h0
    clear hD
    simp only [List.length_nil]
    go_enter Try.func72, Try.ntmps72
    go_wp2
    go_ret
    refine ⟨rfl, ?_, bAlloc (Below.refl _ _) _⟩
    rw [ED.out]
    exact ownInts_new _ _
  · have ED : Hid (D = againTo e n n) := by show _ = _; rw [hD, againTo_all h0]
    have hl : 0 < e.length := by cases e with | nil => exact absurd rfl h0 | cons _ _ => simp
    have hne : ((e.length : Int) == 0) = false := by simp; exact h0
    have HI : Hid (Ints w a e) := h
    have HP : Hid (∀ k m, k % e.length = 0 → m ≤ e.length → k + m ≤ n → paste (againTo e n k) k e m = againTo e n (k + m)) := fun k m a b c => paste_again a b c
    have HCP : Hid (∀ W g l k r dC, Below w.heap.size w W → OwnInts W g l → k + min e.length r ≤ l.length → (Builtin.copy_ #[24, 24] 3 #[.slice (some ⟨g, k, none⟩) r dC, .slice a e.length c]).run Try.prog W = .ok (.int .i64 ((min e.length r : Nat) : Int)) (W.setRow g (vals (paste l k e (min e.length r))))) := fun W g l k r dC hb ho hf => copy_paste ho (HI.out.keep hb) hf _ dC c
    clear hD h0 h he
    generalize e.length = p at *
    go_enter Try.func72, Try.ntmps72
    go_wp2
    go_loopw [6] (fun i w' => ∃ (k r : Nat) (A : Option Addr), k + r = n ∧ i = .slice A r r ∧ (0 < r → A = some ⟨w.heap.size, k, none⟩ ∧ k % p = 0) ∧ OwnInts w' w.heap.size (againTo e n k) ∧ Below w.heap.size w w') (fun i _ => match i with | .slice _ r _ => r | _ => 0)
    case atStart => exact ⟨0, n, _, by omega, rfl, fun _ => ⟨rfl, by simp⟩, by rw [againTo_zero]; exact ownInts_new _ _, bAlloc (Below.refl _ _) _⟩
    case round =>
      obtain ⟨k, r, A, hkr, rfl, hA, hO, hb⟩ := hrel
      have HK : Hid (k + r = n) := hkr
      have HO : Hid (OwnInts wr w.heap.size (againTo e n k)) := hO
      have HB : Hid (Below w.heap.size w wr) := hb
      by_cases hlt : (0 : Int) < (r : Int)
      · obtain ⟨rfl, hk⟩ := hA (by omega)
        have hcp := HCP.out wr w.heap.size (againTo e n k) k r r hb hO (by rw [againTo_length]; omega)
        rw [HP.out k (min p r) hk (by omega) (by omega)] at hcp
        have HM : Hid (min p r ≤ r ∧ 0 < min p r ∧ (0 < r - min p r → (k + min p r) % p = 0)) := ⟨by omega, by omega, fun h => by
          have : min p r = p := by omega
          rw [this, Nat.add_mod_right, hk]⟩
        generalize min p r = m at *
        have hsl := fun W => run_from (a := some ⟨w.heap.size, k, none⟩) (n := r) (c := r) (M := m) HM.out.1 (Nat.le_refl _) W
        have HO' : Hid (OwnInts (wr.setRow w.heap.size (vals (againTo e n (k + m)))) w.heap.size (againTo e n (k + m))) := hO.setRow _
        have HB' : Hid (Below w.heap.size w (wr.setRow w.heap.size (vals (againTo e n (k + m))))) := below_setRow hb (Nat.le_refl _) _
        clear hA hO hb hkr hk
        generalize hW : wr.setRow w.heap.size (vals (againTo e n (k + m))) = W at *
        clear hW
        go_wp2
        go_roundw
        case rel => exact ⟨k + m, r - m, _, by have := HK.out; have := HM.out; omega, rfl, fun h => ⟨by rw [if_neg (by omega)]; first | done | simp [Addr.add], HM.out.2.2 h⟩, HO'.out, HB'.out⟩
        case measure => have := HM.out; show r - m < r; omega
      · obtain rfl : r = 0 := by omega
        obtain rfl : k = n := by omega
        clear hA hO hb hkr
        go_wp2
        go_ret
        exact ⟨rfl, by rw [ED.out]; exact HO.out, HB.out⟩
/-- belowNought. -/
theorem belowN_impl (x : Int) (w : World) : Calls Try.prog 71 #[.int .i64 x] w fun r w' => r = .returned (.bool (decide (x < 0))) ∧ w' = w := by
  by_cases h : x < 0
  all_goals
    go_enter Try.func71, Try.ntmps71
    go_wp2
    go_ret
    exact ⟨by simp [h], rfl⟩
set_option maxRecDepth 20000 in
set_option maxHeartbeats 2000000 in
/-- slices.IndexFunc over belowNought: where there is one below nought. -/
theorem indexBelow_impl {l : List Int} {a : Option Addr} {w : World} {c : Nat} (h : Ints w a l) (hl : l.length ≤ 1048576) :
    Calls Try.prog 92 #[.slice a l.length c, .func (.func 71) #[] #[]] w fun r w' => ∃ x : Int, r = .returned (.int .i64 x) ∧ (decide (0 ≤ x) = l.any fun x => decide (x < 0)) ∧ w' = w := by
  have HI : Hid (Ints w a l) := h
  have hE : ∀ (args : Array Value) (w : World), (callFunc 71 args).run Try.prog w = .ok (.enter 71 args) w := enters_of Try.func71 (by kernel_rfl) rfl
  clear h
  go_enter Try.func92, Try.ntmps92
  go_wp2
  go_loopw [8] (fun i w' => ∃ k : Nat, k ≤ l.length ∧ i = .int .i64 (k : Int) ∧ ((l.take k).any fun x => decide (x < 0)) = false ∧ w' = w) (fun i _ => l.length - (intOf i).toNat)
  case atStart => exact ⟨0, by omega, rfl, by simp, rfl⟩
  case round =>
    obtain ⟨k, hk, rfl, ht, rfl⟩ := hrel
    have HT : Hid (((l.take k).any fun x => decide (x < 0)) = false) := ht
    clear ht
    by_cases hlt : (k : Int) < (l.length : Int)
    · have L : k < l.length := by omega
      obtain ⟨b1, o1, rfl, _, c1⟩ := HI.out.at L
      have Q : Hid (((l.take (k + 1)).any fun x => decide (x < 0)) = (((l.take k).any fun x => decide (x < 0)) || decide (l.getD k 0 < 0))) := by show _ = _; rw [take_snoc L]; simp
      have QB : Hid (l.getD k 0 < 0 → (l.any fun x => decide (x < 0)) = true) := fun h => by
        rw [List.any_eq_true]
        exact ⟨l.getD k 0, by simp [L], by simpa using h⟩
      clear L
      generalize l.getD k 0 = x at c1 Q QB
      by_cases hx : x < 0
      · have QB' : Hid ((l.any fun x => decide (x < 0)) = true) := QB.out hx
        clear Q QB
        have hd : decide (x < 0) = true := by simp [hx]
        go_wp2_with (go_at_fn 71; refine (belowN_impl x _).mono ?_; rintro r w2 ⟨rfl, hw⟩; subst w2; rw [hd])
        go_ret
        exact ⟨_, rfl, by rw [QB'.out]; simp, rfl⟩
      · have HT' : Hid (((l.take (k + 1)).any fun x => decide (x < 0)) = false) := by show _ = _; rw [Q.out, HT.out]; simpa using hx
        clear Q QB
        have hd : decide (x < 0) = false := by simpa using hx
        go_wp2_with (go_at_fn 71; refine (belowN_impl x _).mono ?_; rintro r w2 ⟨rfl, hw⟩; subst w2; rw [hd])
        go_roundw
        case rel => exact ⟨k + 1, by omega, by go_num, HT'.out, by first | trivial | rfl⟩
        case measure => simp [intOf]; omega
    · have HV : Hid ((l.any fun x => decide (x < 0)) = false) := by
        have h := HT.out
        show _ = _
        rw [List.take_of_length_le (by omega)] at h
        exact h
      go_wp2
      go_ret
      exact ⟨_, rfl, by rw [HV.out]; rfl, rfl⟩
set_option maxRecDepth 20000 in
set_option maxHeartbeats 2000000 in
/-- slices.ContainsFunc over belowNought. -/
theorem containsBelow_impl {l : List Int} {a : Option Addr} {w : World} {c : Nat} (h : Ints w a l) (hl : l.length ≤ 1048576) :
    Calls Try.prog 49 #[.slice a l.length c, .func (.func 71) #[] #[]] w fun r w' => r = .returned (.bool (l.any fun x => decide (x < 0))) ∧ w' = w := by
  have HC : Hid (Calls Try.prog 92 #[.slice a l.length c, .func (.func 71) #[] #[]] w fun r w' => ∃ x : Int, r = .returned (.int .i64 x) ∧ (decide (0 ≤ x) = l.any fun x => decide (x < 0)) ∧ w' = w) := indexBelow_impl h hl
  clear h
  generalize (l.any fun x => decide (x < 0)) = q at *
  go_enter Try.func49, Try.ntmps49
  go_wp2_with fail
  refine HC.out.mono ?_
  rintro r w1 ⟨x, rfl, hx, rfl⟩
  clear HC
  by_cases h0 : (0 : Int) ≤ x
  · have E : Hid (q = true) := by show _ = _; rw [← hx]; simpa using h0
    clear hx
    go_wp2
    go_ret
    exact ⟨by rw [E.out]; simp [h0], rfl⟩
  · have E : Hid (q = false) := by show _ = _; rw [← hx]; simpa using h0
    clear hx
    go_wp2
    go_ret
    exact ⟨by rw [E.out]; simp [h0], rfl⟩
end Go.Proofs.Ythjjjnapcbkhjaa
namespace Go.Proofs.Ythjjjnapcbkhjaa
open Go.RowKit
set_option linter.unusedVariables false
set_option linter.unusedSimpArgs false
theorem run_between {a : Option Addr} {n c M N : Nat} (hM : M ≤ N) (hc : N ≤ c) (W : World) : (Instr.slice 24 (.slice a n c) (some (.int .i64 (M : Int))) (some (.int .i64 (N : Int))) none).run Try.prog W = .ok (.slice (if c - M = 0 then a else a.map (·.add (M * 1))) (N - M) (c - M)) W := by
  have hs : (sizeOf 3).run Try.prog W = .ok 1 W := by kernel_rfl
  have he : Try.prog.elem 24 = 3 := by kernel_rfl
  rw [run_slice_lh (P := Try.prog) (w := W) 24 a n c (by rw [he]; exact Try.underlying24) .i64 .i64 (M : Int) (N : Int) (by omega) (by omega) (by omega), he, hs]
  have e : (c = M) = (c - M = 0) := by apply propext; omega
  simp [Result.andThen, sliced, e]
theorem ints_cell5 {w : World} {b o : Nat} {l : List Int} {k : Nat} (h : Ints w (some ⟨b, o, none⟩) l) (hk : k < l.length) : w.cell? ⟨b, o + k, none⟩ = some (.int .i64 (l.getD k 0)) := by
  obtain ⟨b', o', e, hb, hc⟩ := h.at hk
  cases e
  exact hc
theorem ints_from5 {w : World} {b : Option Addr} {d : List Int} {e : Nat} (C : Nat) (h : Ints w b d) (he : d.length ≤ e) : Ints w (if e - C = 0 then b else b.map (·.add (C * 1))) (d.drop C) := by
  by_cases h0 : d.length ≤ C
  · exact .inl (List.drop_of_length_le h0)
  · rw [if_neg (by omega)]
    obtain ⟨b', o', rfl, _, _⟩ := h.at (k := 0) (by omega)
    have := ints_tail C h
    by_cases hC0 : C = 0 <;> simpa [Addr.add, hC0] using this
theorem OwnInts.keep5 {w w' : World} {g : Nat} {l : List Int} (h : OwnInts w g l) (hb : Below w.heap.size w w') : OwnInts w' g l := by
  unfold OwnInts
  rw [hb.block _ (lt_of_heapA h)]
  exact h
theorem measure5 {k n : Nat} (h : wrap64 ((k : Int) + 1) = (k : Int) + 1) (hk : k < n) : n - (wrap64 ((k : Int) + 1)).toNat < n - ((k : Int)).toNat := by
  rw [h]; omega
theorem wrap5 {a : Int} (h1 : -1000000000000000 ≤ a) (h2 : a ≤ 1000000000000000) : wrap64 a = a := by unfold wrap64; omega
/-- A row is copied to its place. -/
theorem copy_row5 {w : World} {g m A B C L e : Nat} {l d : List Int} {b : Option Addr} (ho : OwnInts w g l) (hl : l.length = m) (hi : Ints w b d) (he : d.length ≤ e) (hA : A + L = B) (hB : B ≤ m) (hC : C + L ≤ d.length) (ty : TypeId) :
    (Builtin.copy_ #[24, 24] ty #[.slice (if m - A = 0 then some ⟨g, 0, none⟩ else (some (⟨g, 0, none⟩ : Addr)).map (·.add (A * 1))) (B - A) (m - A), .slice (if e - C = 0 then b else b.map (·.add (C * 1))) (d.length - C) (e - C)]).run Try.prog w = .ok (.int .i64 (L : Int)) (w.setRow g (vals (paste l A (d.drop C) L))) := by
  have hi' := ints_from5 (e := e) C hi he
  have hL : B - A = L := by omega
  have hd : (d.drop C).length = d.length - C := by simp
  rw [hL]
  by_cases h0 : m - A = 0
  · obtain rfl : L = 0 := by omega
    rw [if_pos h0, paste_zero, setRow_self w g (vals l) _ _ ho]
    exact run_copy_none (P := Try.prog) _ 24 24 ty 3 _ _ _ _ _ _ Try.underlying24 int_size (Nat.min_zero _)
  · rw [if_neg h0]
    have q := copy_paste (k := A) (n := L) (l := l) ho hi' (by rw [hd]; omega) ty (m - A) (e - C)
    rw [hd, Nat.min_eq_right (by omega)] at q
    have e1 : (some (⟨g, 0, none⟩ : Addr)).map (·.add (A * 1)) = some ⟨g, A, none⟩ := by
      by_cases hA0 : A = 0 <;> simp [Addr.add, hA0]
    rw [e1]
    exact q
set_option maxRecDepth 20000 in
set_option maxHeartbeats 4000000 in
/-- chosenRows. -/
theorem chosen_impl {s d : List Int} {w : World} {v p : Value} {f n : Nat} {φ : Nat → Int} {z : Int} (hzn : z = (n : Int)) (hE : ∀ (args : Array Value) (w : World), (callFunc f args).run Try.prog w = .ok (.enter f args) w) (h : ArrI w v s d) (ho : arrOk s d = true) (hs : s ≠ []) (hz : 0 ≤ sizeV ((n : Int) :: s.drop 1))
    (hV : ∀ (W : World) (k : Nat), k < n → Below w.heap.size w W → Calls Try.prog f #[.int .i64 (k : Int), p] W fun r W' => r = .returned (.int .i64 (φ k)) ∧ Below W.heap.size W W') :
    Calls Try.prog 51 #[v, .int .i64 z, .func (.func f) #[] #[p]] w fun r w' => ∃ v', r = .returned v' ∧ Arr w.heap.size w'.heap.size w' v' ((n : Int) :: s.drop 1) (chosenD s d φ n) ∧ Below w.heap.size w w' := by
  obtain ⟨a, c, b, e, rfl, i1, i2, g1, g2⟩ := h
  have hsl : s.length ≤ 1048576 := by have := (sizeV_ok (arrOk_shape ho)).1; omega
  have HOR : Hid (∀ W, Below w.heap.size w W → Calls Try.prog 74 #[.slice a s.length c, .int .i64 z] W fun r w' => ∃ a' c', r = .returned (.slice a' ((n : Int) :: s.drop 1).length c') ∧ Piece W.heap.size w'.heap.size w' (.slice a' ((n : Int) :: s.drop 1).length c') ((n : Int) :: s.drop 1) ∧ Below W.heap.size W w') := fun W hb => by rw [hzn]; exact ofRows_impl (n : Int) (IntsI.keep ⟨a, c, rfl, g1, i1⟩ hb) hsl hs
  have HV : Hid (∀ (W : World) (k : Nat), k < n → Below w.heap.size w W → Calls Try.prog f #[.int .i64 (k : Int), p] W fun r W' => r = .returned (.int .i64 (φ k)) ∧ Below W.heap.size W W') := hV
  have hm : sizeV ((n : Int) :: s.drop 1) = ((n * rowN s : Nat) : Int) := by
    by_cases h0 : (n : Int) = 0
    · have : n = 0 := by omega
      subst this
      rw [Nat.zero_mul]
      exact zero5 hz
    · obtain ⟨p0, p1, p2⟩ := tail5 hz (by omega)
      rw [← p1, Int.natCast_mul]
      unfold rowN
      rw [Int.toNat_of_nonneg p0]
  have hz3 := sizeV_bd ((n : Int) :: s.drop 1)
  have hn3 := dim5 hz
  have HSZ : Hid (∀ W a' c', Ints W a' ((n : Int) :: s.drop 1) → Calls Try.prog 61 #[.slice a' ((n : Int) :: s.drop 1).length c'] W fun r w' => r = .returned (.int .i64 ((n * rowN s : Nat) : Int)) ∧ Below W.heap.size W w') := fun W a' c' h => by
    have q := size_impl c' h
    rw [hm] at q
    exact q
  have HTO0 : Hid (chosenTo s d φ n 0 = List.replicate (n * rowN s) 0) := chosenTo_zero s d φ n
  have HTOA : Hid (chosenTo s d φ n n = chosenD s d φ n) := chosenTo_all s d φ n
  have HTOL : Hid (∀ k, k ≤ n → (chosenTo s d φ n k).length = n * rowN s) := fun k hk => chosenTo_length ho hs φ hk
  have HTON : Hid (∀ k, k < n → ¬ (0 ≤ φ k ∧ φ k < s.getD 0 0) → chosenTo s d φ n k = chosenTo s d φ n (k + 1)) := fun k hk h => chosenTo_no hk h
  have HTOY : Hid (∀ k, k < n → 0 ≤ φ k ∧ φ k < s.getD 0 0 → paste (chosenTo s d φ n k) (k * rowN s) (d.drop ((φ k).toNat * rowN s)) (rowN s) = chosenTo s d φ n (k + 1)) := fun k hk h => chosenTo_yes ho hs hk h
  have HRW : Hid (∀ j : Int, 0 ≤ j → j < s.getD 0 0 → j.toNat * rowN s + rowN s ≤ d.length ∧ j ≤ 300) := fun j h0 h1 => by
    have q := rows5 ho hs
    obtain ⟨r1, r2⟩ := rowsN5 ho
    have : (j.toNat + 1) * rowN s ≤ rowsN s * rowN s := Nat.mul_le_mul_right _ (by omega)
    rw [Nat.succ_mul] at this
    omega
  have HD3 : Hid (d.length ≤ 300) := arrOk_len ho
  obtain ⟨ab, ao, rfl, _, _⟩ := i1.at (k := 0) (List.length_pos_iff.2 hs)
  have HN0 : Hid (∀ W, Below w.heap.size w W → W.cell? ⟨ab, ao, none⟩ = some (.int .i64 (s.getD 0 0))) := fun W hb => ints_cell5 (i1.keep hb) (List.length_pos_iff.2 hs)
  have HI2 : Hid (Ints w b d) := i2
  have HG2 : Hid (d.length ≤ e) := g2
  have hsp : 0 < s.length := List.length_pos_iff.2 hs
  have hmk : ∀ w, (Instr.makeSlice 24 (.int .i64 ((n * rowN s : Nat) : Int)) (.int .i64 ((n * rowN s : Nat) : Int))).run Try.prog w = .ok (.slice (some ⟨w.heap.size, 0, none⟩) (n * rowN s) (n * rowN s)) (w.alloc (.cells (vals (List.replicate (n * rowN s) 0)) 3)) := fun w => make_ints (n * rowN s) (by omega) w
  have HM : Hid (n * rowN s ≤ 300 ∧ n ≤ 300) := ⟨by omega, by omega⟩
  have HML : Hid (∀ k, k < n → (k + 1) * rowN s ≤ n * rowN s) := fun k hk => Nat.mul_le_mul_right _ hk
  have HQ : Hid (0 < n → Int.tdiv ((n * rowN s : Nat) : Int) z = (rowN s : Int)) := fun h => by
    rw [hzn, Int.natCast_mul, Int.mul_tdiv_cancel_left _ (by omega)]
  have HW : Hid (∀ k : Nat, k < n → wrap64 ((k : Int) + 1) = (k : Int) + 1 ∧ wrap64 ((k : Int) * (rowN s : Int)) = ((k * rowN s : Nat) : Int) ∧ wrap64 (((k : Int) + 1) * (rowN s : Int)) = (((k + 1) * rowN s : Nat) : Int)) := fun k hk => by
    have h1 : k * rowN s + rowN s = (k + 1) * rowN s := (Nat.succ_mul k _).symm
    have h2 : (k + 1) * rowN s ≤ n * rowN s := Nat.mul_le_mul_right _ hk
    refine ⟨wrap5 (by omega) (by omega), ?_, ?_⟩
    · rw [← Int.natCast_mul]; exact wrap5 (by omega) (by omega)
    · have : ((k : Int) + 1) * (rowN s : Int) = (((k + 1) * rowN s : Nat) : Int) := by rw [Int.natCast_mul]; rfl
      rw [this]; exact wrap5 (by omega) (by omega)
  have HWJ : Hid (∀ j : Int, 0 ≤ j → j < s.getD 0 0 → wrap64 (j * (rowN s : Int)) = ((j.toNat * rowN s : Nat) : Int)) := fun j h0 h1 => by
    obtain ⟨q1, q2⟩ := HRW.out j h0 h1
    have := HD3.out
    have : j * (rowN s : Int) = ((j.toNat * rowN s : Nat) : Int) := by rw [Int.natCast_mul, Int.toNat_of_nonneg h0]
    rw [this]; exact wrap5 (by omega) (by omega)
  have HWL : Hid (0 < n → wrap64 (rowN s : Int) = (rowN s : Int)) := fun h0 => by
    have h2 : 1 * rowN s ≤ n * rowN s := Nat.mul_le_mul_right _ h0
    exact wrap5 (by omega) (by omega)
  have HCY : Hid (∀ (k g : Nat) (j : Int) (W : World), k < n → 0 ≤ j → j < s.getD 0 0 → φ k = j → OwnInts W g (chosenTo s d φ n k) → Ints W b d → (Builtin.copy_ #[24, 24] 3 #[.slice (if n * rowN s - k * rowN s = 0 then some ⟨g, 0, none⟩ else (some (⟨g, 0, none⟩ : Addr)).map (·.add (k * rowN s * 1))) ((k + 1) * rowN s - k * rowN s) (n * rowN s - k * rowN s), .slice (if e - j.toNat * rowN s = 0 then b else b.map (·.add (j.toNat * rowN s * 1))) (d.length - j.toNat * rowN s) (e - j.toNat * rowN s)]).run Try.prog W = .ok (.int .i64 (rowN s : Int)) (W.setRow g (vals (chosenTo s d φ n (k + 1))))) := fun k g j W hk h0 h1 hj ho' hi => by
    have q := copy_row5 ho' (HTOL.out k (Nat.le_of_lt hk)) hi g2 (Nat.succ_mul k (rowN s)).symm (HML.out k hk) (HRW.out j h0 h1).1 3
    rw [← hj, HTOY.out k hk (by rw [hj]; exact ⟨h0, h1⟩), hj] at q
    exact q
  have HSA : Hid (∀ (k g : Nat) (W : World), k < n → (Instr.slice 24 (.slice (some ⟨g, 0, none⟩) (n * rowN s) (n * rowN s)) (some (.int .i64 ((k * rowN s : Nat) : Int))) (some (.int .i64 (((k + 1) * rowN s : Nat) : Int))) none).run Try.prog W = .ok (.slice (if n * rowN s - k * rowN s = 0 then some ⟨g, 0, none⟩ else (some (⟨g, 0, none⟩ : Addr)).map (·.add (k * rowN s * 1))) ((k + 1) * rowN s - k * rowN s) (n * rowN s - k * rowN s)) W) := fun k g W hk => run_between (Nat.mul_le_mul_right _ (Nat.le_succ k)) (HML.out k hk) W
  have HSB : Hid (∀ (j : Int) (W : World), 0 ≤ j → j < s.getD 0 0 → (Instr.slice 24 (.slice b d.length e) (some (.int .i64 ((j.toNat * rowN s : Nat) : Int))) none none).run Try.prog W = .ok (.slice (if e - j.toNat * rowN s = 0 then b else b.map (·.add (j.toNat * rowN s * 1))) (d.length - j.toNat * rowN s) (e - j.toNat * rowN s)) W) := fun j W h0 h1 => run_from (by have := (HRW.out j h0 h1).1; omega) g2 W
  obtain ⟨S, hS⟩ : ∃ S, S = (n : Int) :: s.drop 1 := ⟨_, rfl⟩
  obtain ⟨D, hD⟩ : ∃ D, D = chosenD s d φ n := ⟨_, rfl⟩
  rw [← hS] at HOR HSZ ⊢
  rw [← hD] at HTOA ⊢
  have HZ : Hid (z = (n : Int)) := hzn
  clear hzn hS hD hV ho hz hm i1 i2 g1 g2 hsl hs hz3 hn3 HTOY HRW HML HD3
  generalize rowN s = L at *
  generalize s.getD 0 0 = N at *
  generalize hN : n * L = m at *
  have HN : Hid (n * L = m) := hN
  clear hN
  generalize hTO : chosenTo s d φ n = TO at *
  clear hTO
  go_enter Try.func51, Try.ntmps51
  go_wp2_with fail
  refine (HOR.out _ (bAlloc (bAlloc (Below.refl _ _) _) _)).mono ?_
  rintro r w1 ⟨a1, c1, rfl, hp, hb⟩
  have HB1 : Hid (Below w.heap.size w w1) := bTrans (bAlloc (bAlloc (Below.refl _ _) _) _) hb
  have X1 : Hid (Box w1 w.heap.size (.slice (some ⟨ab, ao, none⟩) s.length c) (.slice b d.length e) 26) := ((box_new w _ _ _).keep (bAlloc (Below.refl _ _) _)).keep hb
  have R1 : Hid (Box w1 (w.heap.size + 1) (.slice none 0 0) (.slice none 0 0) 26) := (box_new2 w _ _ _ _).keep hb
  have P1 : Hid (Piece (w.heap.size + 2) w1.heap.size w1 (.slice a1 S.length c1) S) := by show Piece _ _ _ _ _; simpa using hp
  have I1 : Hid (Ints w1 a1 S) := by
    obtain ⟨q1, q2, q3, q4⟩ := hp.ints
    cases q3
    exact q4
  have LT : Hid (w.heap.size + 2 ≤ w1.heap.size) := by have := hb.size; show _ ≤ _; simpa using this
  clear hp hb
  go_wp2_with fail
  refine (HSZ.out _ _ _ I1.out).mono ?_
  rintro r w2 ⟨rfl, hb⟩
  have HB2 : Hid (Below w.heap.size w w2) := bTrans HB1.out hb
  have X2 : Hid (Box w2 w.heap.size (.slice (some ⟨ab, ao, none⟩) s.length c) (.slice b d.length e) 26) := X1.out.keep hb
  have R2 : Hid (Box w2 (w.heap.size + 1) (.slice none 0 0) (.slice none 0 0) 26) := R1.out.keep hb
  have P2 : Hid (Piece (w.heap.size + 2) w1.heap.size w2 (.slice a1 S.length c1) S) := P1.out.keep hb
  have LT2 : Hid (w1.heap.size ≤ w2.heap.size) := hb.size
  clear hb X1 R1 P1 I1 HB1 HOR HSZ
  go_wp2
  generalize hW : w2.alloc (.cells (vals (List.replicate m 0)) 3) = W
  have HBW : Hid (Below w2.heap.size w2 W) := by rw [← hW]; exact bAlloc (Below.refl _ _) _
  have HOW : Hid (OwnInts W w2.heap.size (TO 0)) := by rw [← hW, HTO0.out]; exact ownInts_new _ _
  clear hW hmk
  go_loopw [20] (fun i w' => ∃ k : Nat, k ≤ n ∧ i = .int .i64 (k : Int) ∧ OwnInts w' w2.heap.size (TO k) ∧ Below w2.heap.size w2 w') (fun i _ => n - (intOf i).toNat)
  case atStart => exact ⟨0, by omega, rfl, HOW.out, HBW.out⟩
  case round =>
    obtain ⟨k, hk, rfl, hO, hb⟩ := hrel
    have HO : Hid (OwnInts wr w2.heap.size (TO k)) := hO
    have HB : Hid (Below w2.heap.size w2 wr) := hb
    clear hO hb HOW HBW
    have hzn := HZ.out
    by_cases hlt : (k : Int) < z
    · have HLT : Hid (k < n) := by show _ < _; omega
      have hq := HQ.out (by omega)
      have hn0 : z ≠ 0 := by omega
      have HVK : Hid (Calls Try.prog f #[.int .i64 (k : Int), p] wr fun r W' => r = .returned (.int .i64 (φ k)) ∧ Below wr.heap.size wr W') := HV.out wr k HLT.out (bTrans HB2.out HB.out)
      have TN : Hid (¬ (0 ≤ φ k ∧ φ k < N) → TO k = TO (k + 1)) := HTON.out k HLT.out
      clear hzn
      have hwL := HWL.out (Nat.lt_of_le_of_lt (Nat.zero_le _) HLT.out)
      have hz3 : z ≤ 300 := by have := HZ.out; have := HM.out; omega
      have HCK := HCY.out k w2.heap.size (φ k)
      generalize φ k = j at *
      by_cases hj : 0 ≤ j
      · by_cases hj2 : j < N
        · have HCP : Hid (∀ W, OwnInts W w2.heap.size (TO k) → Ints W b d → (Builtin.copy_ #[24, 24] 3 #[.slice (if m - k * L = 0 then some ⟨w2.heap.size, 0, none⟩ else (some (⟨w2.heap.size, 0, none⟩ : Addr)).map (·.add (k * L * 1))) ((k + 1) * L - k * L) (m - k * L), .slice (if e - j.toNat * L = 0 then b else b.map (·.add (j.toNat * L * 1))) (d.length - j.toNat * L) (e - j.toNat * L)]).run Try.prog W = .ok (.int .i64 (L : Int)) (W.setRow w2.heap.size (vals (TO (k + 1))))) := fun W h1 h2 => HCK W HLT.out hj hj2 rfl h1 h2
          have hs1 := fun W => HSA.out k w2.heap.size W HLT.out
          have hs2 := fun W => HSB.out j W hj hj2
          obtain ⟨hk1, w1', w2'⟩ := HW.out k HLT.out
          have HZ3 : Hid (z ≤ 300 ∧ (k : Int) < z) := ⟨hz3, hlt⟩
          have HW4 : Hid (wrap64 ((k : Int) + 1) = (k : Int) + 1 ∧ wrap64 ((k : Int) * (L : Int)) = ((k * L : Nat) : Int) ∧ wrap64 (((k : Int) + 1) * (L : Int)) = (((k + 1) * L : Nat) : Int)) := ⟨hk1, w1', w2'⟩
          clear hk1 w1' w2'
          have HW3 : Hid (wrap64 (j * (L : Int)) = ((j.toNat * L : Nat) : Int)) := HWJ.out j hj hj2
          clear TN HCK HSA HSB HW HWJ HCY HTON HTOL
          generalize (if m - k * L = 0 then some ⟨w2.heap.size, 0, none⟩ else (some (⟨w2.heap.size, 0, none⟩ : Addr)).map (·.add (k * L * 1))) = A1 at *
          generalize (if e - j.toNat * L = 0 then b else b.map (·.add (j.toNat * L * 1))) = A2 at *
          generalize (k + 1) * L - k * L = n1 at *
          generalize m - k * L = n2 at *
          generalize d.length - j.toNat * L = n3 at *
          generalize e - j.toNat * L = n4 at *
          generalize (k + 1) * L = n5 at *
          generalize k * L = n6 at *
          generalize j.toNat * L = n7 at *
          go_wp2_with (go_at_fn f; refine HVK.out.mono ?_; rintro r w3 ⟨rfl, hb⟩; have HB3 : Hid (Below w2.heap.size w2 w3) := bTrans HB.out hb; have HO3 : Hid (OwnInts w3 w2.heap.size (TO k)) := (HO.out.keep5 hb); have x0 := (X2.out.keep HB3.out).c0; have x1 := (X2.out.keep HB3.out).c1; have xn := HN0.out _ (bTrans HB2.out HB3.out); have hcp := HCP.out w3.drew (HO3.out.keep5 (Below.refl w3.heap.size w3).drew) (HI2.out.keep (bTrans HB2.out HB3.out.drew)); clear hb)
          have HO4 : Hid (OwnInts (w3.drew.setRow w2.heap.size (vals (TO (k + 1)))) w2.heap.size (TO (k + 1))) := (HO3.out.keep5 (Below.refl w3.heap.size w3).drew).setRow _
          have HB4 : Hid (Below w2.heap.size w2 (w3.drew.setRow w2.heap.size (vals (TO (k + 1))))) := below_setRow HB3.out.drew (Nat.le_refl _) _
          generalize hW : w3.drew.setRow w2.heap.size (vals (TO (k + 1))) = W4 at *
          clear hW
          obtain ⟨hk1, w1', w2'⟩ := HW4.out
          have w3' := HW3.out
          clear hz3 hlt
          go_region
          obtain ⟨hz3, hlt⟩ := HZ3.out
          clear hk1 w1' w2' w3' hs1 hs2 hcp x0 x1 xn
          go_wp2
          go_roundw
          case rel => exact ⟨k + 1, HLT.out, by go_num, HO4.out, HB4.out⟩
          case measure => simp [intOf]; have := HLT.out; omega
        · have HT' : Hid (TO k = TO (k + 1)) := TN.out (fun q => hj2 q.2)
          clear TN HCK
          go_wp2_with (go_at_fn f; refine HVK.out.mono ?_; rintro r w3 ⟨rfl, hb⟩; have HB3 : Hid (Below w2.heap.size w2 w3) := bTrans HB.out hb; have HO3 : Hid (OwnInts w3 w2.heap.size (TO k)) := (HO.out.keep5 hb); have x0 := (X2.out.keep HB3.out).c0; have xn := HN0.out _ (bTrans HB2.out HB3.out); clear hb)
          go_roundw
          case rel => exact ⟨k + 1, HLT.out, by go_num, by rw [← HT'.out]; exact HO3.out, HB3.out⟩
          case measure => simp [intOf]; have := HLT.out; omega
      · have HT' : Hid (TO k = TO (k + 1)) := TN.out (fun q => hj q.1)
        clear TN HCK
        go_wp2_with (go_at_fn f; refine HVK.out.mono ?_; rintro r w3 ⟨rfl, hb⟩; have HB3 : Hid (Below w2.heap.size w2 w3) := bTrans HB.out hb; have HO3 : Hid (OwnInts w3 w2.heap.size (TO k)) := (HO.out.keep5 hb); clear hb)
        go_roundw
        case rel => exact ⟨k + 1, HLT.out, by go_num, by rw [← HT'.out]; exact HO3.out, HB3.out⟩
        case measure => simp [intOf]; have := HLT.out; omega
    · obtain rfl : k = n := by omega
      clear hzn
      have LD : Hid (D.length = m) := by show _ = _; rw [← HTOA.out]; exact HTOL.out k (Nat.le_refl _)
      have R3 : Hid (Box wr (w.heap.size + 1) (.slice none 0 0) (.slice none 0 0) 26) := R2.out.keep HB.out
      have P3 : Hid (Piece (w.heap.size + 2) w1.heap.size wr (.slice a1 S.length c1) S) := P2.out.keep HB.out
      have PD : Hid (Piece w2.heap.size (w2.heap.size + 1) wr (.slice (some ⟨w2.heap.size, 0, none⟩) m m) D) := by
        have q := OwnInts.piece HO.out (B := w2.heap.size) (C := w2.heap.size + 1) (Nat.le_refl _) (by omega) m (by rw [HTOL.out k (Nat.le_refl _)]; exact Nat.le_refl _)
        rw [HTOL.out k (Nat.le_refl _), HTOA.out] at q
        exact q
      have LW : Hid (w2.heap.size + 1 ≤ wr.heap.size) := lt_of_heapA HO.out
      have HB5 : Hid (Below w.heap.size w wr) := bTrans HB2.out HB.out
      have y0 := R3.out.c0
      have y1 := R3.out.c1
      have f0 : wr.frozen? ⟨w.heap.size + 1, 0, none⟩ = false := free_at R3.out 0
      have f1 : wr.frozen? ⟨w.heap.size + 1, 1, none⟩ = false := free_at R3.out 1
      have HR : Hid (((wr.setCell ⟨w.heap.size + 1, 0, none⟩ (.slice a1 S.length c1)).setCell ⟨w.heap.size + 1, 1, none⟩ (.slice (some ⟨w2.heap.size, 0, none⟩) m m)).heap[w.heap.size + 1]? = some (.cells #[.slice a1 S.length c1, .slice (some ⟨w2.heap.size, 0, none⟩) m m] 26 (0, 0))) := arr_stored R3.out
      go_wp2
      refine bodyPost_ret (v := .agg #[.slice a1 S.length c1, .slice (some ⟨w2.heap.size, 0, none⟩) m m]) (results_arr rfl _ _ (w.heap.size + 1) _ _ rfl HR.out) rfl ?_
      refine ⟨_, rfl, ?_, below_setCell (below_setCell HB5.out (by omega) _ _) (by omega) _ _⟩
      have L1 := LT.out
      have L2 := LT2.out
      have L3 := LW.out
      have p1' := (P3.out.win (win_setCell wr (w.heap.size + 1) 0 (.slice a1 S.length c1)) (.inr (by omega))).win (win_setCell _ (w.heap.size + 1) 1 (.slice (some ⟨w2.heap.size, 0, none⟩) m m)) (.inr (by omega))
      have p2' := (PD.out.win (win_setCell wr (w.heap.size + 1) 0 (.slice a1 S.length c1)) (.inr (by omega))).win (win_setCell _ (w.heap.size + 1) 1 (.slice (some ⟨w2.heap.size, 0, none⟩) m m)) (.inr (by omega))
      exact ⟨_, _, rfl, p1'.mono (by omega) (by simp only [size_setCell]; omega), p2'.mono (by omega) (by simp only [size_setCell]; omega), p1'.apart p2' (.inl (by omega))⟩
set_option maxRecDepth 20000 in
set_option maxHeartbeats 4000000 in
/-- chosenRows. -/
theorem chosen2_impl {s d : List Int} {w : World} {v p q : Value} {f n : Nat} {φ : Nat → Int} {z : Int} (hzn : z = (n : Int)) (hE : ∀ (args : Array Value) (w : World), (callFunc f args).run Try.prog w = .ok (.enter f args) w) (h : ArrI w v s d) (ho : arrOk s d = true) (hs : s ≠ []) (hz : 0 ≤ sizeV ((n : Int) :: s.drop 1))
    (hV : ∀ (W : World) (k : Nat), k < n → Below w.heap.size w W → Calls Try.prog f #[.int .i64 (k : Int), p, q] W fun r W' => r = .returned (.int .i64 (φ k)) ∧ Below W.heap.size W W') :
    Calls Try.prog 51 #[v, .int .i64 z, .func (.func f) #[] #[p, q]] w fun r w' => ∃ v', r = .returned v' ∧ Arr w.heap.size w'.heap.size w' v' ((n : Int) :: s.drop 1) (chosenD s d φ n) ∧ Below w.heap.size w w' := by
  obtain ⟨a, c, b, e, rfl, i1, i2, g1, g2⟩ := h
  have hsl : s.length ≤ 1048576 := by have := (sizeV_ok (arrOk_shape ho)).1; omega
  have HOR : Hid (∀ W, Below w.heap.size w W → Calls Try.prog 74 #[.slice a s.length c, .int .i64 z] W fun r w' => ∃ a' c', r = .returned (.slice a' ((n : Int) :: s.drop 1).length c') ∧ Piece W.heap.size w'.heap.size w' (.slice a' ((n : Int) :: s.drop 1).length c') ((n : Int) :: s.drop 1) ∧ Below W.heap.size W w') := fun W hb => by rw [hzn]; exact ofRows_impl (n : Int) (IntsI.keep ⟨a, c, rfl, g1, i1⟩ hb) hsl hs
  have HV : Hid (∀ (W : World) (k : Nat), k < n → Below w.heap.size w W → Calls Try.prog f #[.int .i64 (k : Int), p, q] W fun r W' => r = .returned (.int .i64 (φ k)) ∧ Below W.heap.size W W') := hV
  have hm : sizeV ((n : Int) :: s.drop 1) = ((n * rowN s : Nat) : Int) := by
    by_cases h0 : (n : Int) = 0
    · have : n = 0 := by omega
      subst this
      rw [Nat.zero_mul]
      exact zero5 hz
    · obtain ⟨p0, p1, p2⟩ := tail5 hz (by omega)
      rw [← p1, Int.natCast_mul]
      unfold rowN
      rw [Int.toNat_of_nonneg p0]
  have hz3 := sizeV_bd ((n : Int) :: s.drop 1)
  have hn3 := dim5 hz
  have HSZ : Hid (∀ W a' c', Ints W a' ((n : Int) :: s.drop 1) → Calls Try.prog 61 #[.slice a' ((n : Int) :: s.drop 1).length c'] W fun r w' => r = .returned (.int .i64 ((n * rowN s : Nat) : Int)) ∧ Below W.heap.size W w') := fun W a' c' h => by
    have q := size_impl c' h
    rw [hm] at q
    exact q
  have HTO0 : Hid (chosenTo s d φ n 0 = List.replicate (n * rowN s) 0) := chosenTo_zero s d φ n
  have HTOA : Hid (chosenTo s d φ n n = chosenD s d φ n) := chosenTo_all s d φ n
  have HTOL : Hid (∀ k, k ≤ n → (chosenTo s d φ n k).length = n * rowN s) := fun k hk => chosenTo_length ho hs φ hk
  have HTON : Hid (∀ k, k < n → ¬ (0 ≤ φ k ∧ φ k < s.getD 0 0) → chosenTo s d φ n k = chosenTo s d φ n (k + 1)) := fun k hk h => chosenTo_no hk h
  have HTOY : Hid (∀ k, k < n → 0 ≤ φ k ∧ φ k < s.getD 0 0 → paste (chosenTo s d φ n k) (k * rowN s) (d.drop ((φ k).toNat * rowN s)) (rowN s) = chosenTo s d φ n (k + 1)) := fun k hk h => chosenTo_yes ho hs hk h
  have HRW : Hid (∀ j : Int, 0 ≤ j → j < s.getD 0 0 → j.toNat * rowN s + rowN s ≤ d.length ∧ j ≤ 300) := fun j h0 h1 => by
    have q := rows5 ho hs
    obtain ⟨r1, r2⟩ := rowsN5 ho
    have : (j.toNat + 1) * rowN s ≤ rowsN s * rowN s := Nat.mul_le_mul_right _ (by omega)
    rw [Nat.succ_mul] at this
    omega
  have HD3 : Hid (d.length ≤ 300) := arrOk_len ho
  obtain ⟨ab, ao, rfl, _, _⟩ := i1.at (k := 0) (List.length_pos_iff.2 hs)
  have HN0 : Hid (∀ W, Below w.heap.size w W → W.cell? ⟨ab, ao, none⟩ = some (.int .i64 (s.getD 0 0))) := fun W hb => ints_cell5 (i1.keep hb) (List.length_pos_iff.2 hs)
  have HI2 : Hid (Ints w b d) := i2
  have HG2 : Hid (d.length ≤ e) := g2
  have hsp : 0 < s.length := List.length_pos_iff.2 hs
  have hmk : ∀ w, (Instr.makeSlice 24 (.int .i64 ((n * rowN s : Nat) : Int)) (.int .i64 ((n * rowN s : Nat) : Int))).run Try.prog w = .ok (.slice (some ⟨w.heap.size, 0, none⟩) (n * rowN s) (n * rowN s)) (w.alloc (.cells (vals (List.replicate (n * rowN s) 0)) 3)) := fun w => make_ints (n * rowN s) (by omega) w
  have HM : Hid (n * rowN s ≤ 300 ∧ n ≤ 300) := ⟨by omega, by omega⟩
  have HML : Hid (∀ k, k < n → (k + 1) * rowN s ≤ n * rowN s) := fun k hk => Nat.mul_le_mul_right _ hk
  have HQ : Hid (0 < n → Int.tdiv ((n * rowN s : Nat) : Int) z = (rowN s : Int)) := fun h => by
    rw [hzn, Int.natCast_mul, Int.mul_tdiv_cancel_left _ (by omega)]
  have HW : Hid (∀ k : Nat, k < n → wrap64 ((k : Int) + 1) = (k : Int) + 1 ∧ wrap64 ((k : Int) * (rowN s : Int)) = ((k * rowN s : Nat) : Int) ∧ wrap64 (((k : Int) + 1) * (rowN s : Int)) = (((k + 1) * rowN s : Nat) : Int)) := fun k hk => by
    have h1 : k * rowN s + rowN s = (k + 1) * rowN s := (Nat.succ_mul k _).symm
    have h2 : (k + 1) * rowN s ≤ n * rowN s := Nat.mul_le_mul_right _ hk
    refine ⟨wrap5 (by omega) (by omega), ?_, ?_⟩
    · rw [← Int.natCast_mul]; exact wrap5 (by omega) (by omega)
    · have : ((k : Int) + 1) * (rowN s : Int) = (((k + 1) * rowN s : Nat) : Int) := by rw [Int.natCast_mul]; rfl
      rw [this]; exact wrap5 (by omega) (by omega)
  have HWJ : Hid (∀ j : Int, 0 ≤ j → j < s.getD 0 0 → wrap64 (j * (rowN s : Int)) = ((j.toNat * rowN s : Nat) : Int)) := fun j h0 h1 => by
    obtain ⟨q1, q2⟩ := HRW.out j h0 h1
    have := HD3.out
    have : j * (rowN s : Int) = ((j.toNat * rowN s : Nat) : Int) := by rw [Int.natCast_mul, Int.toNat_of_nonneg h0]
    rw [this]; exact wrap5 (by omega) (by omega)
  have HWL : Hid (0 < n → wrap64 (rowN s : Int) = (rowN s : Int)) := fun h0 => by
    have h2 : 1 * rowN s ≤ n * rowN s := Nat.mul_le_mul_right _ h0
    exact wrap5 (by omega) (by omega)
  have HCY : Hid (∀ (k g : Nat) (j : Int) (W : World), k < n → 0 ≤ j → j < s.getD 0 0 → φ k = j → OwnInts W g (chosenTo s d φ n k) → Ints W b d → (Builtin.copy_ #[24, 24] 3 #[.slice (if n * rowN s - k * rowN s = 0 then some ⟨g, 0, none⟩ else (some (⟨g, 0, none⟩ : Addr)).map (·.add (k * rowN s * 1))) ((k + 1) * rowN s - k * rowN s) (n * rowN s - k * rowN s), .slice (if e - j.toNat * rowN s = 0 then b else b.map (·.add (j.toNat * rowN s * 1))) (d.length - j.toNat * rowN s) (e - j.toNat * rowN s)]).run Try.prog W = .ok (.int .i64 (rowN s : Int)) (W.setRow g (vals (chosenTo s d φ n (k + 1))))) := fun k g j W hk h0 h1 hj ho' hi => by
    have q := copy_row5 ho' (HTOL.out k (Nat.le_of_lt hk)) hi g2 (Nat.succ_mul k (rowN s)).symm (HML.out k hk) (HRW.out j h0 h1).1 3
    rw [← hj, HTOY.out k hk (by rw [hj]; exact ⟨h0, h1⟩), hj] at q
    exact q
  have HSA : Hid (∀ (k g : Nat) (W : World), k < n → (Instr.slice 24 (.slice (some ⟨g, 0, none⟩) (n * rowN s) (n * rowN s)) (some (.int .i64 ((k * rowN s : Nat) : Int))) (some (.int .i64 (((k + 1) * rowN s : Nat) : Int))) none).run Try.prog W = .ok (.slice (if n * rowN s - k * rowN s = 0 then some ⟨g, 0, none⟩ else (some (⟨g, 0, none⟩ : Addr)).map (·.add (k * rowN s * 1))) ((k + 1) * rowN s - k * rowN s) (n * rowN s - k * rowN s)) W) := fun k g W hk => run_between (Nat.mul_le_mul_right _ (Nat.le_succ k)) (HML.out k hk) W
  have HSB : Hid (∀ (j : Int) (W : World), 0 ≤ j → j < s.getD 0 0 → (Instr.slice 24 (.slice b d.length e) (some (.int .i64 ((j.toNat * rowN s : Nat) : Int))) none none).run Try.prog W = .ok (.slice (if e - j.toNat * rowN s = 0 then b else b.map (·.add (j.toNat * rowN s * 1))) (d.length - j.toNat * rowN s) (e - j.toNat * rowN s)) W) := fun j W h0 h1 => run_from (by have := (HRW.out j h0 h1).1; omega) g2 W
  obtain ⟨S, hS⟩ : ∃ S, S = (n : Int) :: s.drop 1 := ⟨_, rfl⟩
  obtain ⟨D, hD⟩ : ∃ D, D = chosenD s d φ n := ⟨_, rfl⟩
  rw [← hS] at HOR HSZ ⊢
  rw [← hD] at HTOA ⊢
  have HZ : Hid (z = (n : Int)) := hzn
  clear hzn hS hD hV ho hz hm i1 i2 g1 g2 hsl hs hz3 hn3 HTOY HRW HML HD3
  generalize rowN s = L at *
  generalize s.getD 0 0 = N at *
  generalize hN : n * L = m at *
  have HN : Hid (n * L = m) := hN
  clear hN
  generalize hTO : chosenTo s d φ n = TO at *
  clear hTO
  go_enter Try.func51, Try.ntmps51
  go_wp2_with fail
  refine (HOR.out _ (bAlloc (bAlloc (Below.refl _ _) _) _)).mono ?_
  rintro r w1 ⟨a1, c1, rfl, hp, hb⟩
  have HB1 : Hid (Below w.heap.size w w1) := bTrans (bAlloc (bAlloc (Below.refl _ _) _) _) hb
  have X1 : Hid (Box w1 w.heap.size (.slice (some ⟨ab, ao, none⟩) s.length c) (.slice b d.length e) 26) := ((box_new w _ _ _).keep (bAlloc (Below.refl _ _) _)).keep hb
  have R1 : Hid (Box w1 (w.heap.size + 1) (.slice none 0 0) (.slice none 0 0) 26) := (box_new2 w _ _ _ _).keep hb
  have P1 : Hid (Piece (w.heap.size + 2) w1.heap.size w1 (.slice a1 S.length c1) S) := by show Piece _ _ _ _ _; simpa using hp
  have I1 : Hid (Ints w1 a1 S) := by
    obtain ⟨q1, q2, q3, q4⟩ := hp.ints
    cases q3
    exact q4
  have LT : Hid (w.heap.size + 2 ≤ w1.heap.size) := by have := hb.size; show _ ≤ _; simpa using this
  clear hp hb
  go_wp2_with fail
  refine (HSZ.out _ _ _ I1.out).mono ?_
  rintro r w2 ⟨rfl, hb⟩
  have HB2 : Hid (Below w.heap.size w w2) := bTrans HB1.out hb
  have X2 : Hid (Box w2 w.heap.size (.slice (some ⟨ab, ao, none⟩) s.length c) (.slice b d.length e) 26) := X1.out.keep hb
  have R2 : Hid (Box w2 (w.heap.size + 1) (.slice none 0 0) (.slice none 0 0) 26) := R1.out.keep hb
  have P2 : Hid (Piece (w.heap.size + 2) w1.heap.size w2 (.slice a1 S.length c1) S) := P1.out.keep hb
  have LT2 : Hid (w1.heap.size ≤ w2.heap.size) := hb.size
  clear hb X1 R1 P1 I1 HB1 HOR HSZ
  go_wp2
  generalize hW : w2.alloc (.cells (vals (List.replicate m 0)) 3) = W
  have HBW : Hid (Below w2.heap.size w2 W) := by rw [← hW]; exact bAlloc (Below.refl _ _) _
  have HOW : Hid (OwnInts W w2.heap.size (TO 0)) := by rw [← hW, HTO0.out]; exact ownInts_new _ _
  clear hW hmk
  go_loopw [20] (fun i w' => ∃ k : Nat, k ≤ n ∧ i = .int .i64 (k : Int) ∧ OwnInts w' w2.heap.size (TO k) ∧ Below w2.heap.size w2 w') (fun i _ => n - (intOf i).toNat)
  case atStart => exact ⟨0, by omega, rfl, HOW.out, HBW.out⟩
  case round =>
    obtain ⟨k, hk, rfl, hO, hb⟩ := hrel
    have HO : Hid (OwnInts wr w2.heap.size (TO k)) := hO
    have HB : Hid (Below w2.heap.size w2 wr) := hb
    clear hO hb HOW HBW
    have hzn := HZ.out
    by_cases hlt : (k : Int) < z
    · have HLT : Hid (k < n) := by show _ < _; omega
      have hq := HQ.out (by omega)
      have hn0 : z ≠ 0 := by omega
      have HVK : Hid (Calls Try.prog f #[.int .i64 (k : Int), p, q] wr fun r W' => r = .returned (.int .i64 (φ k)) ∧ Below wr.heap.size wr W') := HV.out wr k HLT.out (bTrans HB2.out HB.out)
      have TN : Hid (¬ (0 ≤ φ k ∧ φ k < N) → TO k = TO (k + 1)) := HTON.out k HLT.out
      clear hzn
      have hwL := HWL.out (Nat.lt_of_le_of_lt (Nat.zero_le _) HLT.out)
      have hz3 : z ≤ 300 := by have := HZ.out; have := HM.out; omega
      have HCK := HCY.out k w2.heap.size (φ k)
      generalize φ k = j at *
      by_cases hj : 0 ≤ j
      · by_cases hj2 : j < N
        · have HCP : Hid (∀ W, OwnInts W w2.heap.size (TO k) → Ints W b d → (Builtin.copy_ #[24, 24] 3 #[.slice (if m - k * L = 0 then some ⟨w2.heap.size, 0, none⟩ else (some (⟨w2.heap.size, 0, none⟩ : Addr)).map (·.add (k * L * 1))) ((k + 1) * L - k * L) (m - k * L), .slice (if e - j.toNat * L = 0 then b else b.map (·.add (j.toNat * L * 1))) (d.length - j.toNat * L) (e - j.toNat * L)]).run Try.prog W = .ok (.int .i64 (L : Int)) (W.setRow w2.heap.size (vals (TO (k + 1))))) := fun W h1 h2 => HCK W HLT.out hj hj2 rfl h1 h2
          have hs1 := fun W => HSA.out k w2.heap.size W HLT.out
          have hs2 := fun W => HSB.out j W hj hj2
          obtain ⟨hk1, w1', w2'⟩ := HW.out k HLT.out
          have HZ3 : Hid (z ≤ 300 ∧ (k : Int) < z) := ⟨hz3, hlt⟩
          have HW4 : Hid (wrap64 ((k : Int) + 1) = (k : Int) + 1 ∧ wrap64 ((k : Int) * (L : Int)) = ((k * L : Nat) : Int) ∧ wrap64 (((k : Int) + 1) * (L : Int)) = (((k + 1) * L : Nat) : Int)) := ⟨hk1, w1', w2'⟩
          clear hk1 w1' w2'
          have HW3 : Hid (wrap64 (j * (L : Int)) = ((j.toNat * L : Nat) : Int)) := HWJ.out j hj hj2
          clear TN HCK HSA HSB HW HWJ HCY HTON HTOL
          generalize (if m - k * L = 0 then some ⟨w2.heap.size, 0, none⟩ else (some (⟨w2.heap.size, 0, none⟩ : Addr)).map (·.add (k * L * 1))) = A1 at *
          generalize (if e - j.toNat * L = 0 then b else b.map (·.add (j.toNat * L * 1))) = A2 at *
          generalize (k + 1) * L - k * L = n1 at *
          generalize m - k * L = n2 at *
          generalize d.length - j.toNat * L = n3 at *
          generalize e - j.toNat * L = n4 at *
          generalize (k + 1) * L = n5 at *
          generalize k * L = n6 at *
          generalize j.toNat * L = n7 at *
          go_wp2_with (go_at_fn f; refine HVK.out.mono ?_; rintro r w3 ⟨rfl, hb⟩; have HB3 : Hid (Below w2.heap.size w2 w3) := bTrans HB.out hb; have HO3 : Hid (OwnInts w3 w2.heap.size (TO k)) := (HO.out.keep5 hb); have x0 := (X2.out.keep HB3.out).c0; have x1 := (X2.out.keep HB3.out).c1; have xn := HN0.out _ (bTrans HB2.out HB3.out); have hcp := HCP.out w3.drew (HO3.out.keep5 (Below.refl w3.heap.size w3).drew) (HI2.out.keep (bTrans HB2.out HB3.out.drew)); clear hb)
          have HO4 : Hid (OwnInts (w3.drew.setRow w2.heap.size (vals (TO (k + 1)))) w2.heap.size (TO (k + 1))) := (HO3.out.keep5 (Below.refl w3.heap.size w3).drew).setRow _
          have HB4 : Hid (Below w2.heap.size w2 (w3.drew.setRow w2.heap.size (vals (TO (k + 1))))) := below_setRow HB3.out.drew (Nat.le_refl _) _
          generalize hW : w3.drew.setRow w2.heap.size (vals (TO (k + 1))) = W4 at *
          clear hW
          obtain ⟨hk1, w1', w2'⟩ := HW4.out
          have w3' := HW3.out
          clear hz3 hlt
          go_region
          obtain ⟨hz3, hlt⟩ := HZ3.out
          clear hk1 w1' w2' w3' hs1 hs2 hcp x0 x1 xn
          go_wp2
          go_roundw
          case rel => exact ⟨k + 1, HLT.out, by go_num, HO4.out, HB4.out⟩
          case measure => simp [intOf]; have := HLT.out; omega
        · have HT' : Hid (TO k = TO (k + 1)) := TN.out (fun q => hj2 q.2)
          clear TN HCK
          go_wp2_with (go_at_fn f; refine HVK.out.mono ?_; rintro r w3 ⟨rfl, hb⟩; have HB3 : Hid (Below w2.heap.size w2 w3) := bTrans HB.out hb; have HO3 : Hid (OwnInts w3 w2.heap.size (TO k)) := (HO.out.keep5 hb); have x0 := (X2.out.keep HB3.out).c0; have xn := HN0.out _ (bTrans HB2.out HB3.out); clear hb)
          go_roundw
          case rel => exact ⟨k + 1, HLT.out, by go_num, by rw [← HT'.out]; exact HO3.out, HB3.out⟩
          case measure => simp [intOf]; have := HLT.out; omega
      · have HT' : Hid (TO k = TO (k + 1)) := TN.out (fun q => hj q.1)
        clear TN HCK
        go_wp2_with (go_at_fn f; refine HVK.out.mono ?_; rintro r w3 ⟨rfl, hb⟩; have HB3 : Hid (Below w2.heap.size w2 w3) := bTrans HB.out hb; have HO3 : Hid (OwnInts w3 w2.heap.size (TO k)) := (HO.out.keep5 hb); clear hb)
        go_roundw
        case rel => exact ⟨k + 1, HLT.out, by go_num, by rw [← HT'.out]; exact HO3.out, HB3.out⟩
        case measure => simp [intOf]; have := HLT.out; omega
    · obtain rfl : k = n := by omega
      clear hzn
      have LD : Hid (D.length = m) := by show _ = _; rw [← HTOA.out]; exact HTOL.out k (Nat.le_refl _)
      have R3 : Hid (Box wr (w.heap.size + 1) (.slice none 0 0) (.slice none 0 0) 26) := R2.out.keep HB.out
      have P3 : Hid (Piece (w.heap.size + 2) w1.heap.size wr (.slice a1 S.length c1) S) := P2.out.keep HB.out
      have PD : Hid (Piece w2.heap.size (w2.heap.size + 1) wr (.slice (some ⟨w2.heap.size, 0, none⟩) m m) D) := by
        have q := OwnInts.piece HO.out (B := w2.heap.size) (C := w2.heap.size + 1) (Nat.le_refl _) (by omega) m (by rw [HTOL.out k (Nat.le_refl _)]; exact Nat.le_refl _)
        rw [HTOL.out k (Nat.le_refl _), HTOA.out] at q
        exact q
      have LW : Hid (w2.heap.size + 1 ≤ wr.heap.size) := lt_of_heapA HO.out
      have HB5 : Hid (Below w.heap.size w wr) := bTrans HB2.out HB.out
      have y0 := R3.out.c0
      have y1 := R3.out.c1
      have f0 : wr.frozen? ⟨w.heap.size + 1, 0, none⟩ = false := free_at R3.out 0
      have f1 : wr.frozen? ⟨w.heap.size + 1, 1, none⟩ = false := free_at R3.out 1
      have HR : Hid (((wr.setCell ⟨w.heap.size + 1, 0, none⟩ (.slice a1 S.length c1)).setCell ⟨w.heap.size + 1, 1, none⟩ (.slice (some ⟨w2.heap.size, 0, none⟩) m m)).heap[w.heap.size + 1]? = some (.cells #[.slice a1 S.length c1, .slice (some ⟨w2.heap.size, 0, none⟩) m m] 26 (0, 0))) := arr_stored R3.out
      go_wp2
      refine bodyPost_ret (v := .agg #[.slice a1 S.length c1, .slice (some ⟨w2.heap.size, 0, none⟩) m m]) (results_arr rfl _ _ (w.heap.size + 1) _ _ rfl HR.out) rfl ?_
      refine ⟨_, rfl, ?_, below_setCell (below_setCell HB5.out (by omega) _ _) (by omega) _ _⟩
      have L1 := LT.out
      have L2 := LT2.out
      have L3 := LW.out
      have p1' := (P3.out.win (win_setCell wr (w.heap.size + 1) 0 (.slice a1 S.length c1)) (.inr (by omega))).win (win_setCell _ (w.heap.size + 1) 1 (.slice (some ⟨w2.heap.size, 0, none⟩) m m)) (.inr (by omega))
      have p2' := (PD.out.win (win_setCell wr (w.heap.size + 1) 0 (.slice a1 S.length c1)) (.inr (by omega))).win (win_setCell _ (w.heap.size + 1) 1 (.slice (some ⟨w2.heap.size, 0, none⟩) m m)) (.inr (by omega))
      exact ⟨_, _, rfl, p1'.mono (by omega) (by simp only [size_setCell]; omega), p2'.mono (by omega) (by simp only [size_setCell]; omega), p1'.apart p2' (.inl (by omega))⟩
end Go.Proofs.Ythjjjnapcbkhjaa
namespace Go.Proofs.Ythjjjnapcbkhjaa
open Go.RowKit
set_option linter.unusedVariables false
set_option linter.unusedSimpArgs false
theorem sumL_bd {l : List Int} (h : ∀ j, j < l.length → 0 ≤ l.getD j 0 ∧ l.getD j 0 ≤ 1000000000000) : ∀ {k : Nat}, k ≤ l.length → 0 ≤ sumL l k ∧ sumL l k ≤ k * 1000000000000 := by
  intro k
  induction k with
  | zero => intro _; exact ⟨Int.le_refl _, by simp [sumL]⟩
  | succ k ih =>
    intro hk
    have h1 := h k (by omega)
    have h2 := ih (by omega)
    show 0 ≤ sumL l k + l.getD k 0 ∧ sumL l k + l.getD k 0 ≤ _
    push_cast
    omega
set_option maxRecDepth 20000 in
set_option maxHeartbeats 2000000 in
/-- sumOf. -/
theorem sumOf_impl {l : List Int} {a : Option Addr} {w : World} {c : Nat} (h : Ints w a l) (hl : l.length ≤ 300) (hb : ∀ j, j < l.length → 0 ≤ l.getD j 0 ∧ l.getD j 0 ≤ 1000000000000) :
    Calls Try.prog 73 #[.slice a l.length c] w fun r w' => r = .returned (.int .i64 (sumL l l.length)) ∧ w' = w := by
  have HI : Hid (Ints w a l) := h
  have HB : Hid (∀ j, j < l.length → 0 ≤ l.getD j 0 ∧ l.getD j 0 ≤ 1000000000000) := hb
  clear h hb
  go_enter Try.func73, Try.ntmps73
  go_wp2
  go_loopw [3, 8] (fun z i w' => ∃ k : Nat, k ≤ l.length ∧ i = .int .i64 (k : Int) ∧ z = .int .i64 (sumL l k) ∧ w' = w) (fun _ i _ => l.length - (intOf i).toNat)
  case atStart => exact ⟨0, by omega, rfl, rfl, rfl⟩
  case round =>
    obtain ⟨k, hk, rfl, rfl, hw⟩ := hrel
    have hw2 := hw.symm
    clear hw
    subst hw2
    by_cases hlt : (k : Int) < (l.length : Int)
    · have L : k < l.length := by omega
      obtain ⟨b1, o1, rfl, _, c1⟩ := HI.out.at L
      have eT : Hid (sumL l (k + 1) = sumL l k + l.getD k 0) := rfl
      have q1 := HB.out k L
      have q2 := sumL_bd HB.out (k := k) (by omega)
      have hw1 : IntKind.i64.wrap (sumL l k + l.getD k 0) = sumL l k + l.getD k 0 := by
        have h1 : (k : Int) * 1000000000000 ≤ 300 * 1000000000000 := Int.mul_le_mul_of_nonneg_right (by omega) (by decide)
        rw [IntKind.wrap_i64]
        omega
      generalize l.getD k 0 = y at *
      clear q1 q2
      go_wp2
      go_roundw
      case rel => exact ⟨k + 1, by omega, by go_num, by rw [eT.out], by first | rfl | trivial⟩
      case measure => simp [intOf]; omega
    · obtain rfl : k = l.length := by omega
      go_wp2
      go_ret
      exact ⟨rfl, rfl⟩
/-- A list of no number, with room. -/
theorem make0_ints (n : Nat) (hn : n ≤ 1073741824) (w : World) :
    ∃ w', (Instr.makeSlice 24 (.int .i64 0) (.int .i64 (n : Int))).run Try.prog w = .ok (.slice (some ⟨w.heap.size, 0, none⟩) 0 n) w' ∧ NewInts w.heap.size w' (.slice (some ⟨w.heap.size, 0, none⟩) 0 n) [] ∧ Below w.heap.size w w' := by
  have hi := info_int
  cases hq : Try.prog.info? 3 with
  | none => rw [hq] at hi; cases hi
  | some i =>
    rw [hq] at hi
    simp at hi
    obtain ⟨z1, z2, z3⟩ := hi
    have := run_make (P := Try.prog) w 24 3 i (.int .i64 0) Try.underlying24 hq z1 .i64 .i64 0 n (by omega) (by omega) (by rw [z3]; omega) (by omega)
    rw [z2, Int.toNat_natCast, Nat.mul_one] at this
    refine ⟨_, this, ⟨rfl, .inr ⟨w.heap.size, n, _, rfl, Nat.le_refl _, heap_alloc_new w _, Nat.zero_le _, by unfold maxLen; omega, ?_, by simp⟩⟩, bAlloc (Below.refl _ _) _⟩
    rw [made_zero]
    simp [vals]
set_option maxRecDepth 20000 in
set_option maxHeartbeats 4000000 in
/-- toldOften. -/
theorem told_impl {l : List Int} {a : Option Addr} {w : World} {c n : Nat} (h : Ints w a l) (hl : l.length ≤ 300) (hb : ∀ j, j < l.length → 0 ≤ l.getD j 0) (hs : sumL l l.length = (n : Int)) (hn : n ≤ 300) :
    Calls Try.prog 75 #[.slice a l.length c, .int .i64 (n : Int)] w fun r w' => ∃ a' c', r = .returned (.slice a' (toldP l l.length).length c') ∧ NewInts w.heap.size w' (.slice a' (toldP l l.length).length c') (toldP l l.length) ∧ Below w.heap.size w w' := by
  obtain ⟨w1, r1, n1, b1⟩ := make0_ints n (by omega) w
  have R1 : (Instr.makeSlice 24 (.int .i64 0) (.int .i64 (n : Int))).run Try.prog w = .ok (.slice (some ⟨w.heap.size, 0, none⟩) 0 n) w1 := r1
  have N1 : Hid (NewInts w.heap.size w1 (.slice (some ⟨w.heap.size, 0, none⟩) 0 n) []) := n1
  have B1 : Hid (Below w.heap.size w w1) := b1
  have HI : Hid (∀ W, Below w.heap.size w W → Ints W a l) := fun W q => h.keep q
  have TL : Hid (∀ k, k ≤ l.length → ((toldP l k).length : Int) ≤ 300) := fun k hk => by
    have e := toldP_len hb hk
    have hm : ∀ {i m : Nat}, i ≤ m → m ≤ l.length → sumL l i ≤ sumL l m := by
      intro i m him hml
      induction m with
      | zero => obtain rfl : i = 0 := by omega
                exact Int.le_refl _
      | succ m ih =>
        by_cases q : i = m + 1
        · subst q; exact Int.le_refl _
        · have := ih (by omega) (by omega)
          have := hb m (by omega)
          show sumL l i ≤ sumL l m + l.getD m 0
          omega
    have := hm hk (Nat.le_refl _)
    omega
  have HB : Hid (∀ j, j < l.length → 0 ≤ l.getD j 0) := hb
  clear r1 n1 b1 h hb hs
  go_enter Try.func75, Try.ntmps75
  go_wp2
  go_loopw [5, 12] (fun v i w' => ∃ (k : Nat), k ≤ l.length ∧ i = .int .i64 (k : Int) ∧ NewInts w.heap.size w' v (toldP l k) ∧ Below w.heap.size w w') (fun _ i _ => l.length - (intOf i).toNat)
  case atStart => exact ⟨0, by omega, rfl, N1.out, B1.out⟩
  case round =>
    obtain ⟨k, hk, rfl, hN, hB⟩ := hrel
    have NK : Hid (NewInts w.heap.size wr _ (toldP l k)) := hN
    have BK : Hid (Below w.heap.size w wr) := hB
    obtain ⟨a5, c5, rfl, _⟩ := hN.ints
    clear hN hB N1 B1 R1
    by_cases hlt : (k : Int) < (l.length : Int)
    · have L : k < l.length := by omega
      obtain ⟨b2, o2, rfl, _, c2⟩ := (HI.out _ BK.out).at L
      have h0 := HB.out k L
      have ET : Hid (toldP l (k + 1) = toldP l k ++ List.replicate (l.getD k 0).toNat (k : Int)) := rfl
      have TK := TL.out (k + 1) (by omega)
      rw [ET.out] at TK
      obtain ⟨m, hm⟩ : ∃ m : Nat, l.getD k 0 = (m : Int) := ⟨(l.getD k 0).toNat, by omega⟩
      rw [hm] at c2 ET TK
      rw [Int.toNat_natCast] at ET TK
      rw [List.length_append, List.length_replicate] at TK
      have TM : Hid (((toldP l k).length : Int) + (m : Int) ≤ 300) := by show _ ≤ _; push_cast at TK; omega
      obtain ⟨P, hP⟩ : ∃ P, P = toldP l k := ⟨_, rfl⟩
      rw [← hP] at NK ET TM ⊢
      have hm3 : m ≤ 300 := by have := TM.out; omega
      clear hm h0 TK hP
      go_wp2
      go_loopw [5, 18] (fun v i w' => ∃ (j : Nat), j ≤ m ∧ i = .int .i64 (j : Int) ∧ NewInts w.heap.size w' v (P ++ List.replicate j (k : Int)) ∧ Below w.heap.size w w') (fun _ i _ => m - (intOf i).toNat)
      case atStart => exact ⟨0, by omega, rfl, by simpa using NK.out, BK.out⟩
      case round =>
        obtain ⟨j, hj, rfl, hN, hB⟩ := hrel
        have NJ : Hid (NewInts w.heap.size wr _ (P ++ List.replicate j (k : Int))) := hN
        have BJ : Hid (Below w.heap.size w wr) := hB
        obtain ⟨a6, c6, rfl, _⟩ := hN.ints
        clear hN hB NK BK
        by_cases hjn : (j : Int) < (m : Int)
        · obtain ⟨a7, c7, w7, r7, n7, b7⟩ := grow1 (k : Int) NJ.out BJ.out.size (by have := TM.out; simp; omega)
          have EF : (P ++ List.replicate j (k : Int)) ++ [(k : Int)] = P ++ List.replicate (j + 1) (k : Int) := by rw [List.replicate_succ', List.append_assoc]
          rw [EF] at n7
          have R7 : Hid (_ = _) := r7
          have N7 : Hid (NewInts w.heap.size w7 (.slice a7 ((P ++ List.replicate j (k : Int)).length + 1) c7) (P ++ List.replicate (j + 1) (k : Int))) := n7
          have B7 : Hid (Below w.heap.size w w7) := BJ.out.trans b7
          clear r7 n7 b7 EF
          generalize (P ++ List.replicate j (k : Int)).length = q at *
          go_wp2_with (at_builtin; refine wpList_append_ty rfl _ _ 24 24 rfl _ _ _ rfl rfl R7.out ?_)
          go_roundw
          case rel => exact ⟨j + 1, by omega, by go_num, N7.out, B7.out⟩
          case measure => simp [intOf]; omega
        · obtain rfl : j = m := by omega
          rw [← ET.out] at NJ
          rw [← ET.out]
          go_wp2
          go_roundw
          case rel => exact ⟨k + 1, by omega, by go_num, NJ.out, BJ.out⟩
          case measure => simp [intOf]; omega
    · obtain rfl : k = l.length := by omega
      go_wp2
      go_ret
      exact ⟨_, _, rfl, NK.out, BK.out⟩
set_option maxHeartbeats 1000000 in
/-- Copy's closure. -/
theorem copy1_impl {P : List Int} {k o c : Nat} {a : Option Addr} {W : World} (h : W.cell? ⟨o, 0, none⟩ = some (.slice a P.length c)) (hi : Ints W a P) (hk : k < P.length) :
    Calls Try.prog 76 #[.int .i64 (k : Int), .pointer (some ⟨o, 0, none⟩)] W fun r W' => r = .returned (.int .i64 (P.getD k 0)) ∧ Below W.heap.size W W' := by
  obtain ⟨b1, o1, rfl, _, c1⟩ := hi.at hk
  have hki : (k : Int) < (P.length : Int) := by omega
  generalize P.getD k 0 = y at *
  clear hi
  go_enter Try.func76, Try.ntmps76
  go_wp2
  go_ret
  exact ⟨rfl, Below.refl _ _⟩
end Go.Proofs.Ythjjjnapcbkhjaa
namespace Go.Proofs.Ythjjjnapcbkhjaa
open Go.RowKit
set_option linter.unusedVariables false
set_option linter.unusedSimpArgs false
theorem arrs_one5 {W : World} {o : Nat} {x y : Value} {t : TypeId} {s d : List Int} (hb : Box W o x y t) (h : ArrI W (.agg #[x, y]) s d) : ArrsI W (.slice (some ⟨o, 0, none⟩) 1 1) [s, d] := by
  obtain ⟨a, c, b, e, e', i1, i2, g1, g2⟩ := h
  obtain ⟨rfl, rfl⟩ : x = .slice a s.length c ∧ y = .slice b d.length e := by cases e'; exact ⟨rfl, rfl⟩
  refine ⟨_, 1, 1, rfl, rfl, .inr ⟨o, 0, [.slice a s.length c, .slice b d.length e], rfl, hb.lt, rfl, fun j hj => ?_⟩⟩
  match j, hj with
  | 0, _ => exact ⟨hb.c0, a, c, rfl, g1, i1⟩
  | 1, _ => exact ⟨hb.c1, b, e, rfl, g2, i2⟩
theorem arrs_two5 {W : World} {o : Nat} {x y x' y' : Value} {t : TypeId} {s d s' d' : List Int} (hb : W.heap[o]? = some (.cells #[x, y, x', y'] t (0, 0))) (h : ArrI W (.agg #[x, y]) s d) (k : ArrI W (.agg #[x', y']) s' d') : ArrsI W (.slice (some ⟨o, 0, none⟩) 2 2) [s, d, s', d'] := by
  obtain ⟨a, c, b, e, e', i1, i2, g1, g2⟩ := h
  obtain ⟨rfl, rfl⟩ : x = .slice a s.length c ∧ y = .slice b d.length e := by cases e'; exact ⟨rfl, rfl⟩
  obtain ⟨a', c', b', f', e', i3, i4, g3, g4⟩ := k
  obtain ⟨rfl, rfl⟩ : x' = .slice a' s'.length c' ∧ y' = .slice b' d'.length f' := by cases e'; exact ⟨rfl, rfl⟩
  refine ⟨_, 2, 2, rfl, rfl, .inr ⟨o, 0, [.slice a s.length c, .slice b d.length e, .slice a' s'.length c', .slice b' d'.length f'], rfl, lt_of_heapA hb, rfl, fun j hj => ?_⟩⟩
  match j, hj with
  | 0, _ => exact ⟨cell_at hb rfl, a, c, rfl, g1, i1⟩
  | 1, _ => exact ⟨cell_at hb rfl, b, e, rfl, g2, i2⟩
  | 2, _ => exact ⟨cell_at hb rfl, a', c', rfl, g3, i3⟩
  | 3, _ => exact ⟨cell_at hb rfl, b', f', rfl, g4, i4⟩
theorem four5 (w : World) (A B C D : Obj) :
    ((((w.alloc A).alloc B).alloc C).alloc D).heap[w.heap.size]? = some A ∧ ((((w.alloc A).alloc B).alloc C).alloc D).heap[w.heap.size + 1]? = some B ∧ ((((w.alloc A).alloc B).alloc C).alloc D).heap[w.heap.size + 1 + 1]? = some C ∧ ((((w.alloc A).alloc B).alloc C).alloc D).heap[w.heap.size + 1 + 1 + 1]? = some D := by
  have e1 := heap_alloc_new w A
  have e2 := heap_alloc_new (w.alloc A) B
  have e3 := heap_alloc_new ((w.alloc A).alloc B) C
  have e4 := heap_alloc_new (((w.alloc A).alloc B).alloc C) D
  simp only [World.size_alloc] at e2 e3 e4
  refine ⟨?_, ?_, ?_, e4⟩
  · rw [heap_alloc_old _ _ (by simp only [World.size_alloc]; omega), heap_alloc_old _ _ (by simp only [World.size_alloc]; omega), heap_alloc_old _ _ (by simp only [World.size_alloc]; omega)]; exact e1
  · rw [heap_alloc_old _ _ (by simp only [World.size_alloc]; omega), heap_alloc_old _ _ (by simp only [World.size_alloc]; omega)]; exact e2
  · rw [heap_alloc_old _ _ (by simp only [World.size_alloc]; omega)]; exact e3
theorem allOkV_two (s d t e : List Int) : allOkV [s, d, t, e] 2 = (arrOk s d && arrOk t e) := by simp [allOkV, List.range_succ]
theorem allOkV_one (t e : List Int) : allOkV [t, e] 1 = arrOk t e := by simp [allOkV, List.range_succ]
theorem allOk2_impl {s d t e : List Int} {W : World} {o : Nat} {x y x' y' : Value} (h : ArrI W (.agg #[x, y]) s d) (k : ArrI W (.agg #[x', y']) t e) (hs : s.length ≤ 1048576) (hd : d.length ≤ 1048576) (ht : t.length ≤ 1048576) (he : e.length ≤ 1048576) {T : TypeId} (ho : W.heap[o]? = some (.cells #[x, y, x', y'] T (0, 0))) :
    Calls Try.prog 46 #[.slice (some ⟨o, 0, none⟩) 2 2] W fun r w' => r = .returned (.bool (arrOk s d && arrOk t e)) ∧ Below W.heap.size W w' := by
  rw [← allOkV_two]
  refine allOk_impl (arrs_two5 ho h k) (by decide) (fun j => ?_)
  match j with
  | 0 => exact hs
  | 1 => exact hd
  | 2 => exact ht
  | 3 => exact he
  | j + 4 => simp
theorem sole2_impl {s d t e : List Int} {W : World} {o : Nat} {x' y' v : Value} (h : ArrI W v s d) (k : ArrI W (.agg #[x', y']) t e) (hd : d.length ≤ 1048576) (ht : t.length ≤ 1048576) (he : e.length ≤ 1048576) {T : TypeId} (ho : Box W o x' y' T) :
    Calls Try.prog 39 #[v, .slice (some ⟨o, 0, none⟩) 1 1] W fun r w' => r = .returned (.tuple #[.int .i64 (soleV s d (arrOk t e)), .int .i64 (oneC s d t e)]) ∧ Below W.heap.size W w' := by
  have q := sole_impl h hd (arrs_one5 ho k) (by decide) (fun j => by
    match j with
    | 0 => exact ht
    | 1 => exact he
    | j + 2 => simp)
  rw [allOkV_one] at q
  exact q
end Go.Proofs.Ythjjjnapcbkhjaa
namespace Go.Proofs.Ythjjjnapcbkhjaa
open Go.RowKit
set_option linter.unusedVariables false
set_option linter.unusedSimpArgs false
set_option maxRecDepth 20000 in
set_option maxHeartbeats 8000000 in
/-- Copy. -/
theorem copy6_impl {s d t e : List Int} {w : World} {v u : Value} (h : ArrI w v s d) (k : ArrI w u t e) (hs : s.length ≤ 1048576) (hd : d.length ≤ 1048576) (ht : t.length ≤ 1048576) (he : e.length ≤ 1048576) :
    Calls Try.prog 28 #[v, u] w fun r w' => ∃ v', r = .returned (.tuple #[v', .int .i64 (copyR s d t e).1]) ∧ Arr w.heap.size w'.heap.size w' v' (copyR s d t e).2.1 (copyR s d t e).2.2 ∧ Below w.heap.size w w' := by
  have H : Hid (ArrI w v s d) := h
  have K : Hid (ArrI w u t e) := k
  obtain ⟨a, c, b, f, rfl, h1, h2, g1, g2⟩ := h
  obtain ⟨a', c', b', f', rfl, k1, k2, g3, g4⟩ := k
  have HOK : Hid (∀ (W : World) (o : Nat), Below w.heap.size w W → W.heap[o]? = some (.cells #[.slice a s.length c, .slice b d.length f, .slice a' t.length c', .slice b' e.length f'] 26 (0, 0)) → Calls Try.prog 46 #[.slice (some ⟨o, 0, none⟩) 2 2] W fun r w' => r = .returned (.bool (arrOk s d && arrOk t e)) ∧ Below W.heap.size W w') := fun W o hb ho => allOk2_impl (H.out.keep hb) (K.out.keep hb) hs hd ht he ho
  obtain ⟨x, hx⟩ : ∃ x, x = (copyR s d t e).1 := ⟨_, rfl⟩
  obtain ⟨S, hS⟩ : ∃ S, S = (copyR s d t e).2.1 := ⟨_, rfl⟩
  obtain ⟨D, hD⟩ : ∃ D, D = (copyR s d t e).2.2 := ⟨_, rfl⟩
  rw [← hx, ← hS, ← hD]
  have E1 : Hid (¬ (arrOk s d = true ∧ arrOk t e = true) → x = 1 ∧ S = [] ∧ D = []) := fun h => by
    rw [hx, hS, hD, copyR_bad h]; exact ⟨rfl, rfl, rfl⟩
  have I2 : Hid (Ints w b d) := h2
  by_cases ho : arrOk s d = true ∧ arrOk t e = true
  · have hd3 : d.length ≤ 300 := by have := arrOk_len ho.1; omega
    have EP := copyR_told ho.1 ho.2
    have hoo : (arrOk s d && arrOk t e) = true := by rw [ho.1, ho.2]; rfl
    rw [hoo] at HOK
    rw [EP] at hx hS hD
    by_cases hr : 1 < s.length
    · have hri : (1 : Int) < (s.length : Int) := by omega
      rw [if_pos (.inl hr)] at hx hS hD
      subst hx hS hD
      clear EP E1 ho hoo
      go_enter Try.func28, Try.ntmps28
      go_wp2_with fail
      refine (HOK.out _ _ (bAlloc (bAlloc (bAlloc (bAlloc (Below.refl _ _) _) _) _) _) (by exact (four5 w _ _ _ _).2.2.2)).mono ?_
      rintro r w1 ⟨rfl, hb⟩
      have q4 := four5 w (.cells #[.slice a s.length c, .slice b d.length f] 26) (.cells #[.slice a' t.length c', .slice b' e.length f'] 26) (.cells #[.slice none 0 0, .slice none 0 0] 26) (.cells #[.slice a s.length c, .slice b d.length f, .slice a' t.length c', .slice b' e.length f'] 26)
      have HB1 : Hid (Below w.heap.size w w1) := bTrans (bAlloc (bAlloc (bAlloc (bAlloc (Below.refl _ _) _) _) _) _) hb
      have X1 : Hid (Box w1 w.heap.size (.slice a s.length c) (.slice b d.length f) 26) := Box.keep q4.1 hb
      have Y1 : Hid (Box w1 (w.heap.size + 1) (.slice a' t.length c') (.slice b' e.length f') 26) := Box.keep q4.2.1 hb
      have R1 : Hid (Box w1 (w.heap.size + 1 + 1) (.slice none 0 0) (.slice none 0 0) 26) := Box.keep q4.2.2.1 hb
      have LT : Hid (w.heap.size + 1 + 1 < w1.heap.size) := R1.out.lt
      clear hb q4 HOK
      have x0 := X1.out.c0
      have z0 := Y1.out.c0
      have y0 := R1.out.c0
      have y1 := R1.out.c1
      have f0 : w1.frozen? ⟨w.heap.size + 1 + 1, 0, none⟩ = false := free_at R1.out 0
      have f1 : w1.frozen? ⟨w.heap.size + 1 + 1, 1, none⟩ = false := free_at R1.out 1
      have HR : Hid (((w1.setCell ⟨w.heap.size + 1 + 1, 0, none⟩ (.slice none 0 0)).setCell ⟨w.heap.size + 1 + 1, 1, none⟩ (.slice none 0 0)).heap[w.heap.size + 1 + 1]? = some (.cells #[.slice none 0 0, .slice none 0 0] 26 (0, 0))) := arr_stored R1.out
      go_wp2
      refine bodyPost_ret (results_arr_tmp Try.results28 _ _ (w.heap.size + 1 + 1) _ _ rfl HR.out) rfl ?_
      exact ⟨_, rfl, arr_zero _ _ _, below_setCell (below_setCell HB1.out (by omega) _ _) (by omega) _ _⟩
    · have hri : ¬ (1 : Int) < (s.length : Int) := by omega
      by_cases ht0 : t = []
      · have n1 : ((t.length : Int) == 0) = true := by simp [ht0]
        rw [if_pos (.inr ht0)] at hx hS hD
        subst hx hS hD
        clear EP E1 ho hoo ht0
        go_enter Try.func28, Try.ntmps28
        go_wp2_with fail
        refine (HOK.out _ _ (bAlloc (bAlloc (bAlloc (bAlloc (Below.refl _ _) _) _) _) _) (by exact (four5 w _ _ _ _).2.2.2)).mono ?_
        rintro r w1 ⟨rfl, hb⟩
        have q4 := four5 w (.cells #[.slice a s.length c, .slice b d.length f] 26) (.cells #[.slice a' t.length c', .slice b' e.length f'] 26) (.cells #[.slice none 0 0, .slice none 0 0] 26) (.cells #[.slice a s.length c, .slice b d.length f, .slice a' t.length c', .slice b' e.length f'] 26)
        have HB1 : Hid (Below w.heap.size w w1) := bTrans (bAlloc (bAlloc (bAlloc (bAlloc (Below.refl _ _) _) _) _) _) hb
        have X1 : Hid (Box w1 w.heap.size (.slice a s.length c) (.slice b d.length f) 26) := Box.keep q4.1 hb
        have Y1 : Hid (Box w1 (w.heap.size + 1) (.slice a' t.length c') (.slice b' e.length f') 26) := Box.keep q4.2.1 hb
        have R1 : Hid (Box w1 (w.heap.size + 1 + 1) (.slice none 0 0) (.slice none 0 0) 26) := Box.keep q4.2.2.1 hb
        have LT : Hid (w.heap.size + 1 + 1 < w1.heap.size) := R1.out.lt
        clear hb q4 HOK
        have x0 := X1.out.c0
        have z0 := Y1.out.c0
        have y0 := R1.out.c0
        have y1 := R1.out.c1
        have f0 : w1.frozen? ⟨w.heap.size + 1 + 1, 0, none⟩ = false := free_at R1.out 0
        have f1 : w1.frozen? ⟨w.heap.size + 1 + 1, 1, none⟩ = false := free_at R1.out 1
        have HR : Hid (((w1.setCell ⟨w.heap.size + 1 + 1, 0, none⟩ (.slice none 0 0)).setCell ⟨w.heap.size + 1 + 1, 1, none⟩ (.slice none 0 0)).heap[w.heap.size + 1 + 1]? = some (.cells #[.slice none 0 0, .slice none 0 0] 26 (0, 0))) := arr_stored R1.out
        go_wp2
        refine bodyPost_ret (results_arr_tmp Try.results28 _ _ (w.heap.size + 1 + 1) _ _ rfl HR.out) rfl ?_
        exact ⟨_, rfl, arr_zero _ _ _, below_setCell (below_setCell HB1.out (by omega) _ _) (by omega) _ _⟩
      · have n1 : ((t.length : Int) == 0) = false := by simpa using ht0
        rw [if_neg (fun q => q.elim hr ht0)] at hx hS hD
        obtain ⟨e1, e2⟩ := rowsN5 ho.2
        obtain ⟨NN, hNN⟩ : ∃ N, N = rowsN t := ⟨_, rfl⟩
        rw [← hNN] at e1 e2
        have hn : NN ≤ 300 := e1
        have KS : Hid (IntsI w (.slice a' t.length c') t) := ⟨a', c', rfl, g3, k1⟩
        obtain ⟨bY, oY, rfl, hbY, cY⟩ := k1.at (k := 0) (List.length_pos_iff.2 ht0)
        rw [Nat.add_zero, e2] at cY
        have CY : Hid (∀ W, Below w.heap.size w W → W.cell? ⟨bY, oY, none⟩ = some (.int .i64 (NN : Int))) := fun W h => (h.cell (p := ⟨bY, oY, none⟩) hbY).trans cY
        have hp0 : (0 : Int) < (t.length : Int) := by have := List.length_pos_iff.2 ht0; omega
        have HP0 : Hid ((0 : Int) < (t.length : Int)) := hp0
        rw [e2, ← hNN] at hx hS hD
        by_cases hl : d.length ≠ 1 ∧ (d.length : Int) ≠ (NN : Int)
        · rw [if_pos hl] at hx hS hD
          have hl1 : ((d.length : Int) != 1) = true := by simp; omega
          have hl2 : ((d.length : Int) != (NN : Int)) = true := by simp; omega
          subst hx hS hD
          clear EP E1 ho hoo e1 e2 hNN cY ht0 hl KS
          go_enter Try.func28, Try.ntmps28
          go_wp2_with fail
          refine (HOK.out _ _ (bAlloc (bAlloc (bAlloc (bAlloc (Below.refl _ _) _) _) _) _) (by exact (four5 w _ _ _ _).2.2.2)).mono ?_
          rintro r w1 ⟨rfl, hb⟩
          have q4 := four5 w (.cells #[.slice a s.length c, .slice b d.length f] 26) (.cells #[.slice (some ⟨bY, oY, none⟩) t.length c', .slice b' e.length f'] 26) (.cells #[.slice none 0 0, .slice none 0 0] 26) (.cells #[.slice a s.length c, .slice b d.length f, .slice (some ⟨bY, oY, none⟩) t.length c', .slice b' e.length f'] 26)
          have HB1 : Hid (Below w.heap.size w w1) := bTrans (bAlloc (bAlloc (bAlloc (bAlloc (Below.refl _ _) _) _) _) _) hb
          have X1 : Hid (Box w1 w.heap.size (.slice a s.length c) (.slice b d.length f) 26) := Box.keep q4.1 hb
          have Y1 : Hid (Box w1 (w.heap.size + 1) (.slice (some ⟨bY, oY, none⟩) t.length c') (.slice b' e.length f') 26) := Box.keep q4.2.1 hb
          have R1 : Hid (Box w1 (w.heap.size + 1 + 1) (.slice none 0 0) (.slice none 0 0) 26) := Box.keep q4.2.2.1 hb
          have LT : Hid (w.heap.size + 1 + 1 < w1.heap.size) := R1.out.lt
          clear hb q4 HOK
          have x0 := X1.out.c0
          have z0 := Y1.out.c0
          have x1 := X1.out.c1
          have cy := CY.out _ HB1.out
          have y0 := R1.out.c0
          have y1 := R1.out.c1
          have f0 : w1.frozen? ⟨w.heap.size + 1 + 1, 0, none⟩ = false := free_at R1.out 0
          have f1 : w1.frozen? ⟨w.heap.size + 1 + 1, 1, none⟩ = false := free_at R1.out 1
          go_wp2_with fail
          go_region
          all_goals
            have HR : Hid (((w1.drew.setCell ⟨w.heap.size + 1 + 1, 0, none⟩ (.slice none 0 0)).setCell ⟨w.heap.size + 1 + 1, 1, none⟩ (.slice none 0 0)).heap[w.heap.size + 1 + 1]? = some (.cells #[.slice none 0 0, .slice none 0 0] 26 (0, 0))) := arr_stored (Box.keep (w := w1) R1.out ((Below.refl _ _).drew))
            go_wp2
            refine bodyPost_ret (results_arr_tmp Try.results28 _ _ (w.heap.size + 1 + 1) _ _ rfl HR.out) rfl ?_
            exact ⟨_, rfl, arr_zero _ _ _, below_setCell (below_setCell (HB1.out.trans ((Below.refl _ _).drew.mono HB1.out.size)) (by omega) _ _) (by omega) _ _⟩
        · rw [if_neg hl] at hx hS hD
          have GD : Hid (((d.length : Int) != 1) = false ∨ (((d.length : Int) != 1) = true ∧ ((d.length : Int) != (NN : Int)) = false)) := by
            show _ ∨ _
            by_cases q : d.length = 1
            · exact .inl (by simp [q])
            · exact .inr ⟨by simp; omega, by simp; omega⟩
          obtain ⟨t', ht'⟩ : ∃ t', t' = t.drop 1 := ⟨_, rfl⟩
          rw [← ht'] at hx hS hD
          have E2 : Hid (d.any (fun x => decide (x < 0)) = true → x = 2 ∧ S = [] ∧ D = []) := fun q => by
            rw [if_pos q] at hx hS hD; exact ⟨hx, hS, hD⟩
          have E6 : Hid (d.any (fun x => decide (x < 0)) = false → sizeV (tot d NN :: t') < 0 → x = 6 ∧ S = [] ∧ D = []) := fun q q2 => by
            rw [if_neg (by rw [q]; decide), if_pos q2] at hx hS hD; exact ⟨hx, hS, hD⟩
          have E0 : Hid (d.any (fun x => decide (x < 0)) = false → 0 ≤ sizeV (tot d NN :: t') → x = 0 ∧ S = tot d NN :: t' ∧ D = copyD d t e) := fun q q2 => by
            rw [if_neg (by rw [q]; decide), if_neg (by omega)] at hx hS hD; exact ⟨hx, hS, hD⟩
          have OKS : Hid (arrOk s d = true) := ho.1
          have HT' : Hid (t' = t.drop 1) := ht'
          have HTN : Hid (t ≠ []) := ht0
          have HCH : Hid ((∀ j, j < d.length → 0 ≤ d.getD j 0) → 0 ≤ sizeV (tot d NN :: t') → ∀ (W : World) (o : Nat) (a6 : Option Addr) (c6 : Nat), Below w.heap.size w W → W.cell? ⟨o, 0, none⟩ = some (.slice a6 (toldP (againD d NN) NN).length c6) → o < W.heap.size → Ints W a6 (toldP (againD d NN) NN) → Calls Try.prog 51 #[.agg #[.slice (some ⟨bY, oY, none⟩) t.length c', .slice b' e.length f'], .int .i64 (tot d NN), .func (.func 76) #[] #[.pointer (some ⟨o, 0, none⟩)]] W fun r w' => ∃ v', r = .returned v' ∧ Arr W.heap.size w'.heap.size w' v' (tot d NN :: t') (copyD d t e) ∧ Below W.heap.size W w') := fun q q2 W o a6 c6 hb hc hlt hi => by
            have hal := again_len d NN
            have e3 : tot d NN = ((toldP (againD d NN) NN).length : Int) := by
              rw [toldP_len (l := againD d NN) (fun j hj => by rw [again_often (by omega)]; exact (often_bd ho.1 q j).1) (by omega)]
              exact (sumL_tot (Nat.le_refl _)).symm
            have qq := chosen_impl (s := t) (d := e) (w := W) (v := .agg #[.slice (some ⟨bY, oY, none⟩) t.length c', .slice b' e.length f']) (p := .pointer (some ⟨o, 0, none⟩)) (f := 76) (n := (toldP (againD d NN) NN).length) (φ := fun k => (toldP (againD d NN) NN).getD k 0) e3 (enters_of Try.func76 (by kernel_rfl) rfl) (K.out.keep hb) ho.2 ht0 (by rw [← e3, ← ht']; exact q2) (fun W' k hk hb' => copy1_impl ((hb'.cell (p := ⟨o, 0, none⟩) hlt).trans hc) (hi.keep hb') hk)
            have cc := copy_chosen (d := d) ho.2
            rw [← hNN] at cc
            rw [cc, ← e3, ← ht'] at qq
            exact qq
          clear EP E1 ho hoo ht0 hx hS hD e1 e2 hNN cY ht' h1 h2 k1 k2 g1 g2 g3 g4 hl
          go_enter Try.func28, Try.ntmps28
          go_wp2_with fail
          refine (HOK.out _ _ (bAlloc (bAlloc (bAlloc (bAlloc (Below.refl _ _) _) _) _) _) (by exact (four5 w _ _ _ _).2.2.2)).mono ?_
          rintro r w1 ⟨rfl, hb⟩
          have q4 := four5 w (.cells #[.slice a s.length c, .slice b d.length f] 26) (.cells #[.slice (some ⟨bY, oY, none⟩) t.length c', .slice b' e.length f'] 26) (.cells #[.slice none 0 0, .slice none 0 0] 26) (.cells #[.slice a s.length c, .slice b d.length f, .slice (some ⟨bY, oY, none⟩) t.length c', .slice b' e.length f'] 26)
          have HB1 : Hid (Below w.heap.size w w1) := bTrans (bAlloc (bAlloc (bAlloc (bAlloc (Below.refl _ _) _) _) _) _) hb
          have X1 : Hid (Box w1 w.heap.size (.slice a s.length c) (.slice b d.length f) 26) := Box.keep q4.1 hb
          have Y1 : Hid (Box w1 (w.heap.size + 1) (.slice (some ⟨bY, oY, none⟩) t.length c') (.slice b' e.length f') 26) := Box.keep q4.2.1 hb
          have R1 : Hid (Box w1 (w.heap.size + 1 + 1) (.slice none 0 0) (.slice none 0 0) 26) := Box.keep q4.2.2.1 hb
          have LT : Hid (w.heap.size + 1 + 1 < w1.heap.size) := R1.out.lt
          clear hb q4 HOK
          have x0 := X1.out.c0
          have z0 := Y1.out.c0
          have x1 := X1.out.c1
          have cy := CY.out _ HB1.out
          have S11 : Hid (w1.heap.size ≤ w1.heap.size) := Nat.le_refl _
          go_wp2_with fail
          go_cut [9, 16, 28] from 29 (fun _ _ q w' => q = .bool false ∧ w' = w1.drew)
          case first =>
            rcases GD.out with hl1 | ⟨hl1, hl2⟩
            · go_region
              all_goals
                go_wp2_with fail
                go_meet
                case rel => exact ⟨rfl, rfl⟩
            · go_region
              all_goals
                go_wp2_with fail
                go_meet
                case rel => exact ⟨rfl, rfl⟩
          obtain ⟨w2, hwc⟩ : ∃ x, x = wc := ⟨_, rfl⟩
          subst hwc
          obtain ⟨rfl, hw2⟩ := hcut
          have hb : Below w1.heap.size w1 w2 := by rw [hw2]; exact (Below.refl _ _).drew
          have X2 : Hid (Box w2 w.heap.size (.slice a s.length c) (.slice b d.length f) 26) := X1.out.keep hb
          have Y2 : Hid (Box w2 (w.heap.size + 1) (.slice (some ⟨bY, oY, none⟩) t.length c') (.slice b' e.length f') 26) := Y1.out.keep hb
          have R2 : Hid (Box w2 (w.heap.size + 1 + 1) (.slice none 0 0) (.slice none 0 0) 26) := R1.out.keep hb
          have HB2 : Hid (Below w.heap.size w w2) := bTrans HB1.out hb
          have S12 : Hid (w1.heap.size ≤ w2.heap.size) := Nat.le_trans S11.out hb.size
          clear hb hw2 x0 x1 z0 cy X1 Y1 R1 HB1 GD
          have x1 := X2.out.c1
          have HCF : Hid (Calls Try.prog 49 #[.slice b d.length f, .func (.func 71) #[] #[]] w2 fun r w' => r = .returned (.bool (d.any fun x => decide (x < 0))) ∧ w' = w2) := containsBelow_impl (I2.out.keep HB2.out) (by omega)
          go_wp2_with fail
          refine (HCF.out).mono ?_
          rintro r wz ⟨rfl, hw⟩
          have hw2 := hw.symm
          clear hw
          subst hw2
          clear HCF x1
          cases hany : d.any (fun x => decide (x < 0)) with
          | true =>
            obtain ⟨rfl, rfl, rfl⟩ := E2.out hany
            clear E2 E6 E0 hany
            have y0 := R2.out.c0
            have y1 := R2.out.c1
            have f0 : w2.frozen? ⟨w.heap.size + 1 + 1, 0, none⟩ = false := free_at R2.out 0
            have f1 : w2.frozen? ⟨w.heap.size + 1 + 1, 1, none⟩ = false := free_at R2.out 1
            have HR : Hid (((w2.setCell ⟨w.heap.size + 1 + 1, 0, none⟩ (.slice none 0 0)).setCell ⟨w.heap.size + 1 + 1, 1, none⟩ (.slice none 0 0)).heap[w.heap.size + 1 + 1]? = some (.cells #[.slice none 0 0, .slice none 0 0] 26 (0, 0))) := arr_stored R2.out
            go_wp2
            refine bodyPost_ret (results_arr_tmp Try.results28 _ _ (w.heap.size + 1 + 1) _ _ rfl HR.out) rfl ?_
            exact ⟨_, rfl, arr_zero _ _ _, below_setCell (below_setCell HB2.out (by omega) _ _) (by omega) _ _⟩
          | false =>
            have EA : Hid (∀ j, j < d.length → 0 ≤ d.getD j 0) := any_below.1 hany
            have EAN : Hid (d.any (fun x => decide (x < 0)) = false) := hany
            clear hany
            have x1 := X2.out.c1
            have z0 := Y2.out.c0
            have cy := CY.out _ HB2.out
            have HAG : Hid (∀ W, Below w.heap.size w W → Calls Try.prog 72 #[.slice b d.length f, .int .i64 (NN : Int)] W fun r w' => r = .returned (.slice (some ⟨W.heap.size, 0, none⟩) NN NN) ∧ OwnInts w' W.heap.size (againD d NN) ∧ Below W.heap.size W w') := fun W hb => again_impl (I2.out.keep hb) (by omega) (by omega)
            go_wp2_with fail
            have hp1 : (0 : Int) < (t.length : Int) := HP0.out
            have hp2 : 0 < t.length := by omega
            have hp3 : ¬ ((t.length : Int) ≤ 0) := by omega
            go_region_held3 (fun w' => w'.cell? ⟨w.heap.size, 1, none⟩ = some (.slice b d.length f) ∧ w'.cell? ⟨w.heap.size + 1, 0, none⟩ = some (.slice (some ⟨bY, oY, none⟩) t.length c') ∧ w'.cell? ⟨bY, oY, none⟩ = some (.int .i64 (NN : Int)))
              (first | with_reducible exact ⟨u0, u1, u2⟩ | with_reducible exact ⟨x1, z0, cy⟩ | exact ⟨x1, z0, cy⟩)
              ((go_at_call 72; refine (HAG.out _ (bTrans HB2.out ((Below.refl w2.heap.size w2).drew))).mono ?_; rintro r w3 ⟨rfl, ho3, hbb⟩; have O3 : Hid (OwnInts w3 w2.heap.size (againD d NN)) := ho3; have B3 : Hid (Below w2.heap.size w2 w3) := bTrans ((Below.refl w2.heap.size w2).drew) hbb; have u0 := (X2.out.keep B3.out).c1; have u1 := (Y2.out.keep B3.out).c0; have u2 := CY.out _ (bTrans HB2.out B3.out); clear ho3 hbb))
            have hb := B3.out
            have X3 : Hid (Box w3 w.heap.size (.slice a s.length c) (.slice b d.length f) 26) := X2.out.keep hb
            have Y3 : Hid (Box w3 (w.heap.size + 1) (.slice (some ⟨bY, oY, none⟩) t.length c') (.slice b' e.length f') 26) := Y2.out.keep hb
            have R3 : Hid (Box w3 (w.heap.size + 1 + 1) (.slice none 0 0) (.slice none 0 0) 26) := R2.out.keep hb
            have HB3 : Hid (Below w.heap.size w w3) := bTrans HB2.out hb
            have S13 : Hid (w1.heap.size ≤ w3.heap.size) := Nat.le_trans S12.out hb.size
            have L3 : Hid (w2.heap.size < w3.heap.size) := lt_of_heapA O3.out
            clear hb x1 z0 cy u0 u1 u2 X2 Y2 R2 B3 HAG
            obtain ⟨T, hT⟩ : ∃ T, T = againD d NN := ⟨_, rfl⟩
            have TL : Hid (T.length = NN) := by show _ = _; rw [hT]; exact again_len d NN
            have TB : Hid (∀ j, j < T.length → 0 ≤ T.getD j 0 ∧ T.getD j 0 ≤ 1000000000000) := fun j hj => by
              have := TL.out
              rw [hT, again_often (by omega)]
              exact often_bd OKS.out EA.out j
            have TS : Hid (sumL T T.length = tot d NN) := by show _ = _; rw [TL.out, hT]; exact sumL_tot (Nat.le_refl _)
            have IT : Hid (∀ W, Below w3.heap.size w3 W → Ints W (some ⟨w2.heap.size, 0, none⟩) T) := fun W hb => by
              have p := OwnInts.piece (by rw [← hT] at O3; exact O3.out) (Nat.le_refl w2.heap.size) L3.out T.length
              obtain ⟨_, _, ev, hi⟩ := p.ints
              cases ev
              exact hi.keep hb
            have HSM : Hid (Calls Try.prog 73 #[.slice (some ⟨w2.heap.size, 0, none⟩) NN NN] w3 fun r w' => r = .returned (.int .i64 (tot d NN)) ∧ w' = w3) := by
              have q := sumOf_impl (c := NN) (IT.out _ (Below.refl _ _)) (by have := TL.out; omega) TB.out
              rw [TS.out, TL.out] at q
              exact q
            go_wp2_with fail
            refine (HSM.out).mono ?_
            rintro r wz ⟨rfl, hw⟩
            have hw2 := hw.symm
            clear hw
            subst hw2
            obtain ⟨SH, hSH⟩ : ∃ SH, SH = tot d NN :: t' := ⟨_, rfl⟩
            have HOF : Hid (Calls Try.prog 74 #[.slice (some ⟨bY, oY, none⟩) t.length c', .int .i64 (tot d NN)] w3 fun r w' => ∃ a' c', r = .returned (.slice a' SH.length c') ∧ Piece w3.heap.size w'.heap.size w' (.slice a' SH.length c') SH ∧ Below w3.heap.size w3 w') := by
              rw [hSH, HT'.out]
              exact ofRows_impl (tot d NN) (KS.out.keep HB3.out) ht HTN.out
            have z0 := Y3.out.c0
            have HSH : Hid (SH = tot d NN :: t') := hSH
            have HTT : Hid (T = againD d NN) := hT
            clear HSM hSH hT
            go_wp2_with fail
            refine (HOF.out).mono ?_
            rintro r w4 ⟨a4, c4, rfl, hp, hb⟩
            have X4 : Hid (Box w4 w.heap.size (.slice a s.length c) (.slice b d.length f) 26) := X3.out.keep hb
            have Y4 : Hid (Box w4 (w.heap.size + 1) (.slice (some ⟨bY, oY, none⟩) t.length c') (.slice b' e.length f') 26) := Y3.out.keep hb
            have R4 : Hid (Box w4 (w.heap.size + 1 + 1) (.slice none 0 0) (.slice none 0 0) 26) := R3.out.keep hb
            have HB4 : Hid (Below w.heap.size w w4) := bTrans HB3.out hb
            have S14 : Hid (w1.heap.size ≤ w4.heap.size) := Nat.le_trans S13.out hb.size
            obtain ⟨_, _, ev, i4⟩ := hp.ints
            cases ev
            have B34 : Hid (Below w3.heap.size w3 w4) := hb
            have HSO : Hid (Calls Try.prog 50 #[.slice a4 SH.length c4] w4 fun r w' => r = .returned (.bool (decide (0 ≤ sizeV SH))) ∧ Below w4.heap.size w4 w') := ok_impl c4 i4
            clear hp hb z0 X3 Y3 R3 HB3 i4 HOF
            go_wp2_with fail
            refine (HSO.out).mono ?_
            rintro r w5 ⟨rfl, hb⟩
            have X5 : Hid (Box w5 w.heap.size (.slice a s.length c) (.slice b d.length f) 26) := X4.out.keep hb
            have Y5 : Hid (Box w5 (w.heap.size + 1) (.slice (some ⟨bY, oY, none⟩) t.length c') (.slice b' e.length f') 26) := Y4.out.keep hb
            have R5 : Hid (Box w5 (w.heap.size + 1 + 1) (.slice none 0 0) (.slice none 0 0) 26) := R4.out.keep hb
            have HB5 : Hid (Below w.heap.size w w5) := bTrans HB4.out hb
            have S15 : Hid (w1.heap.size ≤ w5.heap.size) := Nat.le_trans S14.out hb.size
            have B35 : Hid (Below w3.heap.size w3 w5) := bTrans B34.out hb
            clear hb X4 Y4 R4 HB4 HSO B34
            by_cases hz : 0 ≤ sizeV SH
            · have hdz : decide (0 ≤ sizeV SH) = true := by simpa using hz
              rw [hdz]
              rw [HSH.out] at hz
              obtain ⟨rfl, eS', eD'⟩ := E0.out EAN.out hz
              have EE : Hid (S = tot d NN :: t' ∧ D = copyD d t e) := ⟨eS', eD'⟩
              clear eS' eD'
              have HCC := HCH.out EA.out hz
              have tb := dim5 hz
              obtain ⟨n, hn'⟩ : ∃ n : Nat, tot d NN = (n : Int) := ⟨(tot d NN).toNat, by omega⟩
              have HTO : Hid (∀ W, Below w3.heap.size w3 W → Calls Try.prog 75 #[.slice (some ⟨w2.heap.size, 0, none⟩) NN NN, .int .i64 (tot d NN)] W fun r w' => ∃ a' c', r = .returned (.slice a' (toldP T NN).length c') ∧ NewInts W.heap.size w' (.slice a' (toldP T NN).length c') (toldP T NN) ∧ Below W.heap.size W w') := fun W hb => by
                have q := told_impl (c := NN) (n := n) (IT.out W hb) (by have := TL.out; omega) (fun j hj => (TB.out j hj).1) (by rw [TS.out, hn']) (by omega)
                rw [TL.out, ← hn'] at q
                exact q
              rw [← HTT.out] at HCC
              obtain ⟨P, hP⟩ : ∃ P, P = toldP T NN := ⟨_, rfl⟩
              rw [← hP] at HTO HCC
              have HCD : Hid (∀ (W : World) (o : Nat) (a6 : Option Addr) (c6 : Nat), Below w.heap.size w W → W.cell? ⟨o, 0, none⟩ = some (.slice a6 P.length c6) → o < W.heap.size → Ints W a6 P → _) := HCC
              clear HCC E2 E6 E0 hdz hz HCH hP TS TB IT tb hn'
              go_wp2_with fail
              refine (HTO.out _ B35.out).mono ?_
              rintro r w6 ⟨a6, c6, rfl, hn6, hb⟩
              have X6 : Hid (Box w6 w.heap.size (.slice a s.length c) (.slice b d.length f) 26) := X5.out.keep hb
              have Y6 : Hid (Box w6 (w.heap.size + 1) (.slice (some ⟨bY, oY, none⟩) t.length c') (.slice b' e.length f') 26) := Y5.out.keep hb
              have R6 : Hid (Box w6 (w.heap.size + 1 + 1) (.slice none 0 0) (.slice none 0 0) 26) := R5.out.keep hb
              have HB6 : Hid (Below w.heap.size w w6) := bTrans HB5.out hb
              have S16 : Hid (w1.heap.size ≤ w6.heap.size) := Nat.le_trans S15.out hb.size
              obtain ⟨_, _, ev, i6⟩ := hn6.ints
              cases ev
              have I6 : Hid (Ints w6 a6 P) := i6
              clear hn6 hb i6 X5 Y5 R5 HB5 HTO
              generalize hW : w6.alloc (.cells #[.slice a6 P.length c6] 24) = w7
              have hb : Below w6.heap.size w6 w7 := by rw [← hW]; exact bAlloc (Below.refl _ _) _
              have C7 : Hid (w7.cell? ⟨w6.heap.size, 0, none⟩ = some (.slice a6 P.length c6)) := by show _ = _; rw [← hW]; exact cell_at (heap_alloc_new w6 _) rfl
              have L7 : Hid (w6.heap.size < w7.heap.size) := by show _ < _; rw [← hW]; simp
              have X7 : Hid (Box w7 w.heap.size (.slice a s.length c) (.slice b d.length f) 26) := X6.out.keep hb
              have Y7 : Hid (Box w7 (w.heap.size + 1) (.slice (some ⟨bY, oY, none⟩) t.length c') (.slice b' e.length f') 26) := Y6.out.keep hb
              have R7 : Hid (Box w7 (w.heap.size + 1 + 1) (.slice none 0 0) (.slice none 0 0) 26) := R6.out.keep hb
              have HB7 : Hid (Below w.heap.size w w7) := bTrans HB6.out hb
              have S17 : Hid (w1.heap.size ≤ w7.heap.size) := Nat.le_trans S16.out hb.size
              have I7 : Hid (Ints w7 a6 P) := I6.out.keep hb
              have HC7 := HCD.out w7 w6.heap.size a6 c6 HB7.out C7.out L7.out I7.out
              have HC8 : Hid (Calls _ _ _ _ _) := HC7
              subst hW
              have y0 := Y7.out.c0
              have y1 := Y7.out.c1
              clear HC7 HCD hb C7 X6 Y6 R6 HB6 I6 I7
              go_wp2_with fail
              refine (HC8.out).mono ?_
              rintro r w8 ⟨v8, rfl, ha, hb⟩
              obtain ⟨eS, eD⟩ := EE.out
              obtain ⟨a8, c8, b8, f8, rfl, _, _, _, _⟩ := ha.arrI
              have ES : Hid (S = tot d NN :: t' ∧ D = copyD d t e) := ⟨eS, eD⟩
              rw [← eS, ← eD] at ha ⊢
              have HA8 : Hid (Arr w1.heap.size w8.heap.size w8 (.agg #[.slice a8 S.length c8, .slice b8 D.length f8]) S D) := ha.mono S17.out (Nat.le_refl _)
              have R8 : Hid (Box w8 (w.heap.size + 1 + 1) (.slice none 0 0) (.slice none 0 0) 26) := R7.out.keep hb
              have HB8 : Hid (Below w.heap.size w w8) := bTrans HB7.out hb
              clear ha hb HC8 y0 y1 eS eD X7 Y7 R7 HB7
              have y0 := R8.out.c0
              have y1 := R8.out.c1
              have f0 : w8.frozen? ⟨w.heap.size + 1 + 1, 0, none⟩ = false := free_at R8.out 0
              have f1 : w8.frozen? ⟨w.heap.size + 1 + 1, 1, none⟩ = false := free_at R8.out 1
              have HR : Hid (((w8.setCell ⟨w.heap.size + 1 + 1, 0, none⟩ (.slice a8 S.length c8)).setCell ⟨w.heap.size + 1 + 1, 1, none⟩ (.slice b8 D.length f8)).heap[w.heap.size + 1 + 1]? = some (.cells #[.slice a8 S.length c8, .slice b8 D.length f8] 26 (0, 0))) := arr_stored R8.out
              go_wp2
              refine bodyPost_ret (results_arr_tmp Try.results28 _ _ (w.heap.size + 1 + 1) _ _ rfl HR.out) rfl ?_
              refine ⟨_, rfl, ?_, below_setCell (below_setCell HB8.out (by omega) _ _) (by omega) _ _⟩
              have L := LT.out
              exact ((HA8.out.setCell L _ _).setCell L _ _).mono (by omega) (by simp [size_setCell])
            · have hdz : decide (0 ≤ sizeV SH) = false := by simpa using hz
              rw [hdz]
              obtain ⟨rfl, rfl, rfl⟩ := E6.out EAN.out (by rw [← HSH.out]; omega)
              clear E2 E6 E0 hdz HCH hz
              have y0 := R5.out.c0
              have y1 := R5.out.c1
              have f0 : w5.frozen? ⟨w.heap.size + 1 + 1, 0, none⟩ = false := free_at R5.out 0
              have f1 : w5.frozen? ⟨w.heap.size + 1 + 1, 1, none⟩ = false := free_at R5.out 1
              have HR : Hid (((w5.setCell ⟨w.heap.size + 1 + 1, 0, none⟩ (.slice none 0 0)).setCell ⟨w.heap.size + 1 + 1, 1, none⟩ (.slice none 0 0)).heap[w.heap.size + 1 + 1]? = some (.cells #[.slice none 0 0, .slice none 0 0] 26 (0, 0))) := arr_stored R5.out
              go_wp2
              refine bodyPost_ret (results_arr_tmp Try.results28 _ _ (w.heap.size + 1 + 1) _ _ rfl HR.out) rfl ?_
              exact ⟨_, rfl, arr_zero _ _ _, below_setCell (below_setCell HB5.out (by omega) _ _) (by omega) _ _⟩
  · obtain ⟨rfl, rfl, rfl⟩ := E1.out ho
    have hoo : (arrOk s d && arrOk t e) = false := by
      cases h1 : arrOk s d <;> cases h2 : arrOk t e <;> simp_all
    rw [hoo] at HOK
    clear E1 ho hoo hx hS hD
    go_enter Try.func28, Try.ntmps28
    go_wp2_with fail
    refine (HOK.out _ _ (bAlloc (bAlloc (bAlloc (bAlloc (Below.refl _ _) _) _) _) _) (by exact (four5 w _ _ _ _).2.2.2)).mono ?_
    rintro r w1 ⟨rfl, hb⟩
    have q4 := four5 w (.cells #[.slice a s.length c, .slice b d.length f] 26) (.cells #[.slice a' t.length c', .slice b' e.length f'] 26) (.cells #[.slice none 0 0, .slice none 0 0] 26) (.cells #[.slice a s.length c, .slice b d.length f, .slice a' t.length c', .slice b' e.length f'] 26)
    have HB1 : Hid (Below w.heap.size w w1) := bTrans (bAlloc (bAlloc (bAlloc (bAlloc (Below.refl _ _) _) _) _) _) hb
    have X1 : Hid (Box w1 w.heap.size (.slice a s.length c) (.slice b d.length f) 26) := Box.keep q4.1 hb
    have Y1 : Hid (Box w1 (w.heap.size + 1) (.slice a' t.length c') (.slice b' e.length f') 26) := Box.keep q4.2.1 hb
    have R1 : Hid (Box w1 (w.heap.size + 1 + 1) (.slice none 0 0) (.slice none 0 0) 26) := Box.keep q4.2.2.1 hb
    have LT : Hid (w.heap.size + 1 + 1 < w1.heap.size) := R1.out.lt
    clear hb q4 HOK
    have x0 := X1.out.c0
    have z0 := Y1.out.c0
    have y0 := R1.out.c0
    have y1 := R1.out.c1
    have f0 : w1.frozen? ⟨w.heap.size + 1 + 1, 0, none⟩ = false := free_at R1.out 0
    have f1 : w1.frozen? ⟨w.heap.size + 1 + 1, 1, none⟩ = false := free_at R1.out 1
    have HR : Hid (((w1.setCell ⟨w.heap.size + 1 + 1, 0, none⟩ (.slice none 0 0)).setCell ⟨w.heap.size + 1 + 1, 1, none⟩ (.slice none 0 0)).heap[w.heap.size + 1 + 1]? = some (.cells #[.slice none 0 0, .slice none 0 0] 26 (0, 0))) := arr_stored R1.out
    go_wp2
    refine bodyPost_ret (results_arr_tmp Try.results28 _ _ (w.heap.size + 1 + 1) _ _ rfl HR.out) rfl ?_
    exact ⟨_, rfl, arr_zero _ _ _, below_setCell (below_setCell HB1.out (by omega) _ _) (by omega) _ _⟩
end Go.Proofs.Ythjjjnapcbkhjaa
namespace Go.Proofs.Ythjjjnapcbkhjaa
open Go.RowKit Go.Shelf
set_option linter.unusedVariables false
set_option linter.unusedSimpArgs false
attribute [local go_sem] Oper.semAt_some
theorem wrapJ {a : Int} (h0 : 0 ≤ a) (h1 : a ≤ 1099511627776) : IntKind.i64.wrap a = a := by rw [IntKind.wrap_i64]; omega
/-- The first k numbers. -/
def upto (cnt k : Nat) : List (Fin cnt) := (List.finRange cnt).take k
theorem upto_succ {cnt k : Nat} (h : k < cnt) : upto cnt (k + 1) = upto cnt k ++ [⟨k, h⟩] := by
  unfold upto
  rw [List.take_succ_eq_append_getElem (by simpa using h)]
  simp
theorem upto_length {cnt k : Nat} (h : k ≤ cnt) : (upto cnt k).length = k := by simp [upto, h]
theorem upto_all (cnt : Nat) : upto cnt cnt = List.finRange cnt := by unfold upto; exact List.take_of_length_le (by simp)
/-- What a round keeps: the box of the array that is cut. -/
def KeepsBox (q : Nat) (W W' : World) : Prop := W'.heap[q]? = W.heap[q]?
theorem keepsBox_t {q : Nat} {A B C : World} (h : KeepsBox q A B) (k : KeepsBox q B C) : KeepsBox q A C := Eq.trans k h
theorem keepsBox_b {q : Nat} {w : World} (hq : q < w.heap.size) (W : World) (l : Nat) (o o' : Obj) (hl : w.heap.size ≤ l) (_ : W.heap[l]? = some o) (_ : o.isCells = false) (_ : o.isWalk = false) : KeepsBox q W (W.putObj l o') :=
  World.putObj_heap_other (by omega)
set_option maxRecDepth 100000 in
set_option maxHeartbeats 4000000 in
theorem cut_in (n l q cnt N r b1 o1 c dl e ct : Nat) (tl b : Option Addr) (ad : Nat → Option Addr) (cd : Nat → Nat) (hn : 1 ≤ n) (hc : cnt ≤ 300) (hN : N ≤ 300) (hr : r ≤ 3)
    (hq : 0 < cnt → (dl : Int) / (cnt : Int) = N)
    (hs1 : ∀ W, (Instr.slice 24 (.slice (some ⟨b1, o1, none⟩) (r + 1) c) (some (.int .i64 1)) (some (.int .i64 ((r : Int) + 1))) (some (.int .i64 ((r : Int) + 1)))).run Try.prog W = .ok (.slice tl r ct) W)
    (hs2 : ∀ (k M R : Nat) W, k < cnt → k * N = M → (k + 1) * N = R → (Instr.slice 24 (.slice b dl e) (some (.int .i64 (M : Int))) (some (.int .i64 (R : Int))) (some (.int .i64 (R : Int)))).run Try.prog W = .ok (.slice (ad k) N (cd k)) W)
    (J Jx : List (Fin cnt) → World → Prop)
    (hY : ∀ pre x W, J pre W → pre.length < cnt → YieldAt Fence.wide (n - 1) Try.prog l #[.agg #[.slice tl r ct, .slice (ad x.1) N (cd x.1)]] W fun e W' =>
      (e = .returned (.bool true) ∧ J (pre ++ [x]) W' ∧ KeepsBox q W W') ∨ (e = .returned (.bool false) ∧ Jx (pre ++ [x]) W'))
    (W : World) (hJ : AbidesFrom W.heap.size J) (hB : Box W q (.slice (some ⟨b1, o1, none⟩) (r + 1) c) (.slice b dl e) 26) (h0 : W.cell? ⟨b1, o1, none⟩ = some (.int .i64 (cnt : Int))) (hj : J [] W) :
    CallsIn Fence.wide n Try.prog 94 #[.func (.yield l) #[] #[], .pointer (some ⟨q, 0, none⟩)] W fun e W' => (∃ v, e = .returned v) ∧
      ((∃ ys, ys = List.finRange cnt ∧ J ys W') ∨ (∃ pre, True ∧ Jx pre W')) := by
  have HB : Hid (Box W q (.slice (some ⟨b1, o1, none⟩) (r + 1) c) (.slice b dl e) 26) := hB
  have x0 := hB.c0
  have x1 := hB.c1
  clear hB
  refine callsIn_of_wp Try.func94 rfl trivial ?_ rfl
  simp only [Try.ntmps94, List.size_toArray, List.length_cons, List.length_nil, Nat.reduceAdd, Nat.reduceSub, Array.replicate_succ, Array.replicate_zero, List.push_toArray, List.append_toArray, List.nil_append, List.cons_append]
  gi_wp2
  gi_region
  gi_wp2
  have HQ : Hid (0 < cnt → (dl : Int) / (cnt : Int) = N) := hq
  have HS2 : Hid (∀ (k M R : Nat) W, k < cnt → k * N = M → (k + 1) * N = R → (Instr.slice 24 (.slice b dl e) (some (.int .i64 (M : Int))) (some (.int .i64 (R : Int))) (some (.int .i64 (R : Int)))).run Try.prog W = .ok (.slice (ad k) N (cd k)) W) := hs2
  have HJ : Hid (AbidesFrom W.heap.size J) := hJ
  clear hq hs2 x0 x1 hJ
  gi_loopw [18] (fun i wr => ∃ k : Nat, k ≤ cnt ∧ i = .int .i64 k ∧ J (upto cnt k) wr ∧ KeepsBox q W wr)
    (fun i _ => cnt - (intOf i).toNat)
  case atStart => exact ⟨0, by omega, rfl, HJ.out _ _ _ none hj ⟨rfl, rfl, rfl, Nat.le_refl _, fun _ _ _ => rfl⟩ (fun r e => by cases e), rfl⟩
  case round =>
    obtain ⟨k, hk, rfl, hJs, hnx⟩ := hrel
    have X : Hid (Box wr q (.slice (some ⟨b1, o1, none⟩) (r + 1) c) (.slice b dl e) 26) := by
      have := HB.out; unfold Box at this; show wr.heap[q]? = _; rw [show wr.heap[q]? = W.heap[q]? from hnx]; exact this
    by_cases hlt : (k : Int) < (cnt : Int)
    · obtain ⟨M, hM⟩ : ∃ M : Nat, k * N = M := ⟨_, rfl⟩
      obtain ⟨R, hR⟩ : ∃ R : Nat, (k + 1) * N = R := ⟨_, rfl⟩
      have hs2 := fun W => HS2.out k M R W (by omega) hM hR
      have hR1 : R ≤ 90000 := by
        have h1 : (k + 1) * N ≤ 300 * 300 := Nat.mul_le_mul (by omega) hN
        omega
      have hM1 : M ≤ 90000 := by
        have h1 : k * N ≤ 300 * 300 := Nat.mul_le_mul (by omega) hN
        omega
      have eM : (k : Int) * (N : Int) = (M : Int) := by rw [← hM]; simp
      have eR : ((k : Int) + 1) * (N : Int) = (R : Int) := by rw [← hR]; simp
      have hwM : IntKind.i64.wrap (M : Int) = (M : Int) := wrapJ (by omega) (by omega)
      have hwR : IntKind.i64.wrap (R : Int) = (R : Int) := wrapJ (by omega) (by omega)
      have hdv : (dl : Int) / (cnt : Int) = N := HQ.out (by omega)
      have hpos : (0 : Int) < (cnt : Int) := by omega
      have HL : Hid (k < cnt) := by show _ < _; omega
      have x0 := X.out.c0
      have x1 := X.out.c1
      have HJS : Hid (J (upto cnt k) wr) := hJs
      have HNX : Hid (KeepsBox q W wr) := hnx
      clear hM hR hJs hnx
      have d0 : ∀ O : Obj, (wr.alloc O).drew.cell? ⟨q, 0, none⟩ = some (.slice (some ⟨b1, o1, none⟩) (r + 1) c) := fun O => (X.out.keep (bAlloc (Below.refl _ _) O)).c0
      have d1 : ∀ O : Obj, (wr.alloc O).drew.cell? ⟨q, 1, none⟩ = some (.slice b dl e) := fun O => (X.out.keep (bAlloc (Below.refl _ _) O)).c1
      gi_wp2
      gi_region
      generalize hW3 : (wr.alloc (.cells #[.slice tl r ct, .slice (ad k) N (cd k)] 26)).drew = W3
      have hJ3 : J (upto cnt k) W3 := by
        rw [← hW3]
        exact HJ.out _ _ _ none HJS.out ⟨rfl, rfl, rfl, by show wr.heap.size ≤ (wr.alloc _).heap.size; simp, fun j hj _ => Below.heap_alloc _ _ _ hj⟩ (fun r e => by cases e)
      have y0 : W3.cell? ⟨wr.heap.size, 0, none⟩ = some (.slice tl r ct) := by rw [← hW3]; exact cell_newA _ _ _ rfl
      have y1 : W3.cell? ⟨wr.heap.size, 1, none⟩ = some (.slice (ad k) N (cd k)) := by rw [← hW3]; exact cell_newA _ _ _ rfl
      have HK3 : Hid (KeepsBox q W W3) := keepsBox_t HNX.out (by rw [← hW3]; exact Below.heap_alloc _ _ _ X.out.lt)
      clear hW3 d0 d1
      obtain ⟨fn, tmps, assign, body, hy, hRd⟩ := hY (upto cnt k) ⟨k, HL.out⟩ W3 hJ3 (by rw [upto_length hk]; exact HL.out)
      dsimp only at hy
      clear hY
      gi_wp2
      refine hRd.mono ?_
      rintro e' W4 (⟨rfl, hJ4, hk4⟩ | ⟨rfl, hJx4⟩)
      · have HJ4 : Hid (J (upto cnt (k + 1)) W4) := by show J _ _; rw [upto_succ HL.out]; exact hJ4
        have HK4 : Hid (KeepsBox q W W4) := keepsBox_t HK3.out hk4
        clear hJ4 hk4
        gi_wp2
        go_roundw
        case rel => exact ⟨k + 1, by have := HL.out; omega, by go_num, HJ4.out, HK4.out⟩
        case measure => simp [intOf]; omega
      · gi_wp2
        refine bodyPost_ret (results_none rfl _ _ _) rfl ?_
        exact ⟨⟨_, rfl⟩, .inr ⟨_, trivial, hJx4⟩⟩
    · obtain rfl : k = cnt := by omega
      rw [upto_all] at hJs
      gi_wp2
      go_end0
      first
        | exact ⟨⟨_, rfl⟩, .inl ⟨_, rfl, hJs⟩⟩
        | exact ⟨⟨_, rfl⟩, .inl hJs⟩
/-- cutRows: the array is boxed; the function value captures the box. -/
theorem cutRows_in (n : Nat) (x y : Value) (w : World) (hx : x.oneCell' = true) (hy : y.oneCell' = true) :
    CallsIn Fence.wide n Try.prog 59 #[.agg #[x, y]] w fun e w' => e = .returned (.func (.func 94) #[] #[.pointer (some ⟨w.heap.size, 0, none⟩)]) ∧ w' = w.alloc (.cells #[x, y] 26) := by
  refine callsIn_of_wp Try.func59 rfl trivial ?_ rfl
  simp only [Try.ntmps59, List.size_toArray, List.length_cons, List.length_nil, Nat.reduceAdd, Nat.reduceSub, Array.replicate_succ, Array.replicate_zero, List.push_toArray, List.append_toArray, List.nil_append, List.cons_append]
  gi_wp2
  go_ret
  exact ⟨rfl, rfl⟩
/-- The value that cutRows hands back tells the rows in order. -/
theorem cut_stops (n q cnt N r b1 o1 c dl e ct : Nat) (tl b : Option Addr) (ad : Nat → Option Addr) (cd : Nat → Nat) (hn : 1 ≤ n) (hc : cnt ≤ 300) (hN : N ≤ 300) (hr : r ≤ 3)
    (hq : 0 < cnt → (dl : Int) / (cnt : Int) = N)
    (hs1 : ∀ W, (Instr.slice 24 (.slice (some ⟨b1, o1, none⟩) (r + 1) c) (some (.int .i64 1)) (some (.int .i64 ((r : Int) + 1))) (some (.int .i64 ((r : Int) + 1)))).run Try.prog W = .ok (.slice tl r ct) W)
    (hs2 : ∀ (k M R : Nat) W, k < cnt → k * N = M → (k + 1) * N = R → (Instr.slice 24 (.slice b dl e) (some (.int .i64 (M : Int))) (some (.int .i64 (R : Int))) (some (.int .i64 (R : Int)))).run Try.prog W = .ok (.slice (ad k) N (cd k)) W)
    (w : World) (hb1 : b1 < w.heap.size) (hB : Box w q (.slice (some ⟨b1, o1, none⟩) (r + 1) c) (.slice b dl e) 26) (h0 : w.cell? ⟨b1, o1, none⟩ = some (.int .i64 (cnt : Int))) :
    SeqStopsK Fence.wide n Try.prog 94 #[.pointer (some ⟨q, 0, none⟩)] (fun x : Fin cnt => #[.agg #[.slice tl r ct, .slice (ad x.1) N (cd x.1)]]) (KeepsBox q) (fun ys => ys = List.finRange cnt) (fun _ => True) cnt w := fun l J Jx W hW hJ _ hY hj =>
  cut_in n l q cnt N r b1 o1 c dl e ct tl b ad cd hn hc hN hr hq hs1 hs2 J Jx hY W hJ (hB.keep hW) ((hW.cell (p := ⟨b1, o1, none⟩) hb1).trans h0) hj
end Go.Proofs.Ythjjjnapcbkhjaa
namespace Go.Proofs.Ythjjjnapcbkhjaa
open Go.RowKit Go.Shelf
set_option linter.unusedVariables false
set_option linter.unusedSimpArgs false
attribute [local go_sem] Oper.semAt_some
/-- An append to a row of one's own, in a round: as 'step_append_lies' says it. -/
theorem stepIn_append {l n' : Nat} {P : Program} {w : World} {ops : Array Oper} {o : Oper} {a : Act} {K : Act → World → Prop} {Q : Exit → Act → World → Prop} {E : Prop} (hgd : o.guard = none) (s x : Operand) (t : TypeId)
    (ho : o.op = .call { callee := .builtin .append, args := #[s, x], argTypes := #[t, t] })
    (base : Nat) (e : TypeId) (i : TypeInfo) (z : Value) (size bytes : Nat) (ht : P.underlying t = some (.slice e)) (hi : P.info? e = some i) (hz : i.zero = some z)
    (hsize : i.size = size) (hby : i.bytes = bytes) (hzs : z.cells.size = size) (hsz : 0 < size)
    (v : Value) (n : Nat) (xs : List Value) (hs : a.eval s = v) (hown : w.ownsRow base e size v n xs)
    (ad : Addr) (m c : Nat) (news : List Value) (hx : a.eval x = .slice (some ad) m c) (hl : news.length = m * size) (hnews : ∀ j u, news[j]? = some u → w.cell? (ad.add j) = some u) (h1 : ∀ u ∈ news, u.oneCell' = true)
    (hm : 0 < m) (h63 : n + m ≤ maxLen) (hbytes : (n + m) * bytes ≤ 140737488355328) (hbase : base ≤ w.heap.size) (H : Nat) (hH : w.heap.size = H)
    (h : ∀ g cap w', w'.ownsRow base e size (.slice (some ⟨g, 0, none⟩) (n + m) cap) (n + m) (xs ++ news) → w.grownBy w' v.ownBlock → (v.ownBlock = some g ∨ g = H) → g < w'.heap.size → K (a.put o.dst (.slice (some ⟨g, 0, none⟩) (n + m) cap)) w') :
    if Region.wanted o (yielded ops a.tmps) = true then Oper.wpIn (Fence.wide.inRound l) n' P o a w K Q else E := by
  have hw : Region.wanted o (yielded ops a.tmps) = true := by simp [Region.wanted, hgd]
  rw [if_pos hw]
  obtain ⟨g, cap, w', hr, h2, h3, h4, h5⟩ := run_append_lies (P := P) w t o.type base e i z size bytes ht hi hz hsize hby hzs hsz v n xs hown ad m c news hl hnews h1 hm h63 hbytes hbase H hH
  refine ⟨fun _ _ => trivial, ?_⟩
  rw [show (Fence.wide.inRound l).round = some l from rfl, Oper.semAt_some l _ _ (fun c e => by rw [ho] at e; cases e)]
  unfold execOp
  simp only [ho, resolve, invoke, builtin, Sem.run_bind, Sem.run_pure, Result.andThen_ok, List.map_toArray, List.map_cons, List.map_nil, hs, hx, hr]
  exact h g cap w' h2 h3 h4 h5
theorem make_arrs (n : Nat) (hn : n ≤ 300) (w : World) :
    (Instr.makeSlice 35 (.int .i64 0) (.int .i64 (n : Int))).run Try.prog w = .ok (.slice (some ⟨w.heap.size, 0, none⟩) 0 n) (w.alloc (.cells (madeCells #[.slice none 0 0, .slice none 0 0] (n * 2)) 26)) := by
  have hi := info_arr
  cases hq : Try.prog.info? 26 with
  | none => rw [hq] at hi; cases hi
  | some i =>
    rw [hq] at hi
    simp at hi
    obtain ⟨z1, z2, z3⟩ := hi
    have := run_make (P := Try.prog) w 35 26 i _ Try.underlying35 hq z1 .i64 .i64 0 n (by omega) (by omega) (by rw [z3]; omega) (by omega)
    rw [z2, Int.toNat_natCast] at this
    exact this
/-- A block that holds no number holds no piece. -/
theorem Piece.notRow {B C g : Nat} {w : World} {u : Value} {m : List Int} (h : Piece B C w u m) (hg : ∀ cur t fr, w.heap[g]? = Option.some (.cells cur t fr) → ∀ (k : Nat) (z : Int), cur[k]? ≠ Option.some (Value.int .i64 z)) : NotAt g u := by
  obtain ⟨a, c, rfl, _, h⟩ := h
  intro off n c' e
  cases e
  rcases h with rfl | ⟨g', off, cur, t, e, _, _, hh, hc⟩
  · rfl
  · cases e
    apply Classical.byContradiction
    intro h0
    exact hg cur t _ hh off (m.getD 0 0) (hc 0 (Nat.pos_of_ne_zero h0))
theorem RI.grown {B : Nat} {w0 W W' : World} {v : Value} {k : Nat} {xs : List Value} {F : List (List Int)} {row : Option Nat} (h : RI B w0 W v k xs F) (hg : W.grownBy W' row) (hB : ∀ r, row = some r → B ≤ r) (ho : ∀ r, row = some r → v.ownBlock ≠ some r) (hp : ∀ r, row = some r → ∀ j, j < 2 * k → NotAt r (xs.getD j undef)) : RI B w0 W' v k xs F := by
  have hz := hg.size
  have hs := h.size
  refine ⟨h.own.kept hg ?_, fun j hj => ((h.piece j hj).grown hg (fun g e => hp g e j hj)).mono (Nat.le_refl _) hz, h.apart, h.far, ?_, by omega⟩
  · rcases h.own.2 with ⟨rfl, _⟩ | ⟨g, cap, cur, rfl, _⟩
    · exact .inl rfl
    · exact .inr (fun e => ho g (by rw [← e]; rfl) rfl)
  · refine ⟨hg.os.trans h.below.os, hg.tape.trans h.below.tape, hg.output.trans h.below.output, Nat.le_trans h.below.size hz, fun q hq => ?_⟩
    rw [hg.block q (by omega) (fun e => by have := hB q e.symm; omega)]
    exact h.below.block q hq
theorem RI.congr {B : Nat} {w0 W : World} {v : Value} {k : Nat} {xs : List Value} {F F' : List (List Int)} (h : RI B w0 W v k xs F) (he : ∀ j, j < 2 * k → F.getD j [] = F'.getD j []) : RI B w0 W v k xs F' :=
  ⟨h.own, fun j hj => by rw [← he j hj]; exact h.piece j hj, h.apart, h.far, h.below, h.size⟩
theorem keepsOthers_below {W W' : World} (h : Below W.heap.size W W') : KeepsOthers W W' := ⟨h.size, fun k o hk _ => by rw [h.block k (Array.getElem?_eq_some_iff.1 hk).1]; exact hk⟩
theorem flat_lenR {cnt : Nat} (f g : Fin cnt → List Int) (pre : List (Fin cnt)) : (pre.flatMap (fun k => [f k, g k])).length = 2 * pre.length := by
  induction pre with
  | nil => rfl
  | cons a l ih => simp [List.flatMap_cons] at ih ⊢; omega
/-- Behind the append, and behind the store of the longer list into its box. -/
theorem round_end {cnt B L q g cap g4 cap4 : Nat} {w0 W w3 w4 : World} {xs : List Value} {pre : List (Fin cnt)} {x : Fin cnt} {f h : Fin cnt → List Int} {u v : Value}
    (hri : RI B w0 W (.slice (some ⟨g, 0, none⟩) pre.length cap) pre.length xs (pre.flatMap (fun k => [f k, h k]))) (hbx : Boxed W L 35 (.slice (some ⟨g, 0, none⟩) pre.length cap))
    (hq : q < W.heap.size) (hgq : g ≠ q) (hLq : L ≠ q) (hBL : B ≤ L) (hb : Below W.heap.size W w3) (ha : Arr W.heap.size w3.heap.size w3 (.agg #[u, v]) (f x) (h x))
    (hown : w4.ownsRow B 26 2 (.slice (some ⟨g4, 0, none⟩) (pre.length + 1) cap4) (pre.length + 1) (xs ++ [u, v]))
    (hgrow : (w3.alloc (.cells #[u, v] 26)).grownBy w4 (Value.slice (some ⟨g, 0, none⟩) pre.length cap).ownBlock)
    (hat : (Value.slice (some ⟨g, 0, none⟩) pre.length cap).ownBlock = some g4 ∨ g4 = w3.heap.size + 1) :
    Boxed w4 L 35 (.slice (some ⟨g, 0, none⟩) pre.length cap) ∧ g4 ≠ q ∧
      RI B w0 (w4.setCell ⟨L, 0, none⟩ (.slice (some ⟨g4, 0, none⟩) (pre.length + 1) cap4)) (.slice (some ⟨g4, 0, none⟩) (pre.length + 1) cap4) (pre.length + 1) (xs ++ [u, v]) ((pre ++ [x]).flatMap (fun k => [f k, h k])) ∧
      Boxed (w4.setCell ⟨L, 0, none⟩ (.slice (some ⟨g4, 0, none⟩) (pre.length + 1) cap4)) L 35 (.slice (some ⟨g4, 0, none⟩) (pre.length + 1) cap4) ∧
      KeepsOthers W (w4.setCell ⟨L, 0, none⟩ (.slice (some ⟨g4, 0, none⟩) (pre.length + 1) cap4)) ∧ KeepsBox q W (w4.setCell ⟨L, 0, none⟩ (.slice (some ⟨g4, 0, none⟩) (pre.length + 1) cap4)) := by
  have eo : (Value.slice (some ⟨g, 0, none⟩) pre.length cap).ownBlock = some g := rfl
  rw [eo] at hgrow hat
  have hl := flat_lenR f h pre
  have hb' : Below W.heap.size W (w3.alloc (.cells #[u, v] 26)) := bAlloc hb _
  have eF : (pre ++ [x]).flatMap (fun k => [f k, h k]) = pre.flatMap (fun k => [f k, h k]) ++ [f x, h x] := by simp [List.flatMap_append]
  have hne : some L ≠ some g := hbx.not_row (by decide) hri.own
  have hne4 : L ≠ g4 := by
    rcases hat with e | e
    · cases e; intro e; exact hne (by rw [e])
    · have := hbx.lt; have := hb.size; omega
  have hbx4 : Boxed w4 L 35 (.slice (some ⟨g, 0, none⟩) pre.length cap) := by
    have : (w3.alloc (.cells #[u, v] 26)).heap[L]? = some (.cells #[.slice (some ⟨g, 0, none⟩) pre.length cap] 35 (0, 0)) := by rw [hb'.block L hbx.lt]; exact hbx
    unfold Boxed
    rw [hgrow.block L (lt_of_heapA this) hne]
    exact this
  obtain ⟨x', y', e', px, py, hap⟩ := ha
  obtain ⟨rfl, rfl⟩ : u = x' ∧ v = y' := by cases e'; exact ⟨rfl, rfl⟩
  have hsz : w3.heap.size ≤ (w3.alloc (.cells #[u, v] 26)).heap.size := by simp
  have R4 : RI B w0 w4 (.slice (some ⟨g4, 0, none⟩) (pre.length + 1) cap4) (pre.length + 1) (xs ++ [u, v]) ((pre ++ [x]).flatMap (fun k => [f k, h k])) := by
    refine (hri.congr (F' := (pre ++ [x]).flatMap (fun k => [f k, h k])) (fun j hj => ?_)).step hb' (x := u) (y := v) ?_ ?_ hap hown (by rw [eo]; exact hgrow) (by rw [eo]; rcases hat with e | e; exact .inl e; exact .inr (by simpa using e))
    · rw [eF, getD_app, if_pos (by omega)]
    · rw [eF, getD_app, if_neg (by omega), hl, Nat.sub_self]
      exact (px.keep (bAlloc (Below.refl _ _) _)).mono (Nat.le_refl _) hsz
    · rw [eF, getD_app, if_neg (by omega), hl, show 2 * pre.length + 1 - 2 * pre.length = 1 by omega]
      exact (py.keep (bAlloc (Below.refl _ _) _)).mono (Nat.le_refl _) hsz
  have hqq : w4.heap[q]? = W.heap[q]? := by
    rw [hgrow.block q (by have := hb'.size; omega) (fun e => hgq (by cases e; rfl)), hb'.block q hq]
  refine ⟨hbx4, ?_, R4.grown (grownBy_setCell' w4 L _) (fun r e => by cases e; exact hBL) (fun r e e2 => ?_) (fun r e j hj => ?_), hbx4.set _, ?_, ?_⟩
  · rcases hat with e | e
    · cases e; exact hgq
    · have := hb.size; omega
  · cases e; cases e2; exact hne4 rfl
  · cases e
    refine (R4.piece j hj).notRow (fun cur t fr hh k z hk => ?_)
    rw [show w4.heap[L]? = _ from hbx4] at hh
    cases hh
    cases k <;> simp at hk
  · refine ((keepsOthers_below hb').trans (KeepsOthers.of_grownBy hgrow ?_)).trans (KeepsOthers.setCell _ _ _)
    intro j o e hj
    cases e
    rcases hri.own.2 with ⟨h0, _⟩ | ⟨g', cap', cur, h0, _, hh, _⟩
    · cases h0
    · cases h0
      rw [hb'.block g (lt_of_heapA hh), hh] at hj
      cases hj
      rfl
  · exact (Below.heap_setCell _ _ _ _ (by show q ≠ L; omega)).trans hqq
set_option maxRecDepth 100000 in
set_option maxHeartbeats 4000000 in
theorem rows_walk (n0 cnt N r b1 o1 c e ct : Nat) (t d : List Int) (tl b : Option Addr) (ad : Nat → Option Addr) (cd : Nat → Nat) (D : Nat → List Int) (w : World) (hc : cnt ≤ 300) (hN : N ≤ 300) (hr : r ≤ 3) (htl : t.length = r)
    (hq : 0 < cnt → (d.length : Int) / (cnt : Int) = N) (ho : arrOk ((cnt : Int) :: t) d = true) (hd : d.length ≤ 300)
    (hs1 : ∀ W, (Instr.slice 24 (.slice (some ⟨b1, o1, none⟩) (r + 1) c) (some (.int .i64 1)) (some (.int .i64 ((r : Int) + 1))) (some (.int .i64 ((r : Int) + 1)))).run Try.prog W = .ok (.slice tl r ct) W)
    (hs2 : ∀ (k M R : Nat) W, k < cnt → k * N = M → (k + 1) * N = R → (Instr.slice 24 (.slice b d.length e) (some (.int .i64 (M : Int))) (some (.int .i64 (R : Int))) (some (.int .i64 (R : Int)))).run Try.prog W = .ok (.slice (ad k) N (cd k)) W)
    (hA : ArrI w (.agg #[.slice (some ⟨b1, o1, none⟩) (r + 1) c, .slice b d.length e]) ((cnt : Int) :: t) d) (hb1 : b1 < w.heap.size) (h0 : w.cell? ⟨b1, o1, none⟩ = some (.int .i64 (cnt : Int)))
    (hrow : ∀ k, k < cnt → ArrI w (.agg #[.slice tl r ct, .slice (ad k) N (cd k)]) t (D k)) (hDl : ∀ k, k < cnt → (D k).length ≤ 1048576) :
    Calls Try.prog 20 #[.agg #[.slice (some ⟨b1, o1, none⟩) (r + 1) c, .slice b d.length e]] w fun e w' => ∃ v', e = .returned v' ∧ Arrs w.heap.size w'.heap.size w' v' ((List.finRange cnt).flatMap (fun k => [t, D k.1])) ∧ Below w.heap.size w w' := by
  have HA : Hid (ArrI w (.agg #[.slice (some ⟨b1, o1, none⟩) (r + 1) c, .slice b d.length e]) ((cnt : Int) :: t) d) := hA
  have HO : Hid (arrOk ((cnt : Int) :: t) d = true) := ho
  have HR : Hid (∀ k, k < cnt → ArrI w (.agg #[.slice tl r ct, .slice (ad k) N (cd k)]) t (D k)) := hrow
  have hmk := make_arrs cnt hc
  obtain ⟨i0, hq0, z1, z2, z3⟩ : ∃ i0, Try.prog.info? 26 = some i0 ∧ i0.zero = some (.agg #[.slice none 0 0, .slice none 0 0]) ∧ i0.size = 2 ∧ i0.bytes = 48 := by
    have hi := info_arr
    cases hq : Try.prog.info? 26 with
    | none => rw [hq] at hi; cases hi
    | some i => rw [hq] at hi; simp at hi; exact ⟨i, rfl, hi.1, hi.2.1, hi.2.2⟩
  have hne : ((r : Int) + 1 == 0) = false := by simp; omega
  clear hA ho hrow
  refine (callsIn_wide (n := 6)).1 ?_
  refine callsIn_of_wp_marks Try.func20 rfl trivial ?_ rfl
  simp only [Try.ntmps20, List.size_toArray, List.length_cons, List.length_nil, Nat.reduceAdd, Nat.reduceSub, Array.replicate_succ, Array.replicate_zero, List.push_toArray, List.append_toArray, List.nil_append, List.cons_append]
  gi_wp2_with fail
  refine ⟨trivial, (callsIn_wide.2 (arrOk_impl (HA.out.keep (bAlloc (Below.refl _ _) _)) (by omega))).mono ?_⟩
  rintro rr w1 ⟨rfl, hb⟩
  have HB1 : Hid (Below w.heap.size w w1) := bTrans (bAlloc (Below.refl _ _) _) hb
  have X1 : Hid (Box w1 w.heap.size (.slice (some ⟨b1, o1, none⟩) (r + 1) c) (.slice b d.length e) 26) := (box_new w _ _ _).keep hb
  have x0 := X1.out.c0
  have x1 := X1.out.c1
  have z0 : w1.cell? ⟨b1, o1, none⟩ = some (.int .i64 (cnt : Int)) := by rw [HB1.out.cell (p := ⟨b1, o1, none⟩) hb1]; exact h0
  have e0 : ∀ O O' : Obj, ((w1.alloc O).alloc O').cell? ⟨w.heap.size, 0, none⟩ = some (.slice (some ⟨b1, o1, none⟩) (r + 1) c) := fun O O' => (X1.out.keep (bAlloc (bAlloc (Below.refl _ _) O) O')).c0
  have e1 : ∀ O O' : Obj, ((w1.alloc O).alloc O').cell? ⟨w.heap.size, 1, none⟩ = some (.slice b d.length e) := fun O O' => (X1.out.keep (bAlloc (bAlloc (Below.refl _ _) O) O')).c1
  clear hb
  rw [HO.out]
  gi_wp2_with fail
  refine ⟨trivial, (cutRows_in _ _ _ _ rfl rfl).mono ?_⟩
  rintro rr w2 ⟨rfl, hw⟩
  generalize hM : madeCells #[Value.slice none 0 0, Value.slice none 0 0] (cnt * 2) = Z at hw ⊢
  have bL : Boxed w2 (w1.heap.size + 1) 35 (.slice (some ⟨w1.heap.size, 0, none⟩) 0 cnt) := by rw [hw]; have := (Boxed.new (w1.alloc (.cells Z 26)) 35 (.slice (some ⟨w1.heap.size, 0, none⟩) 0 cnt)).alloc (.cells #[.slice (some ⟨b1, o1, none⟩) (r + 1) c, .slice b d.length e] 26); simpa using this
  have Q2 : Hid (Box w2 (w1.heap.size + 2) (.slice (some ⟨b1, o1, none⟩) (r + 1) c) (.slice b d.length e) 26) := by rw [hw]; show Box _ _ _ _ _; have := box_new ((w1.alloc (.cells Z 26)).alloc (.cells #[.slice (some ⟨w1.heap.size, 0, none⟩) 0 cnt] 35)) (.slice (some ⟨b1, o1, none⟩) (r + 1) c) (.slice b d.length e) 26; simpa using this
  have HB2 : Hid (Below w1.heap.size w1 w2) := by rw [hw]; exact bAlloc (bAlloc (bAlloc (Below.refl _ _) _) _) _
  have hsz : w2.heap.size = w1.heap.size + 3 := by rw [hw]; simp
  have RI0 : Hid (RI w1.heap.size w2 w2 (.slice (some ⟨w1.heap.size, 0, none⟩) 0 cnt) 0 [] []) := by
    have hh : w2.heap[w1.heap.size]? = some (.cells Z 26 (0, 0)) := by rw [hw, (bAlloc (bAlloc (Below.refl _ (w1.alloc (.cells Z 26))) _) _).block w1.heap.size (by simp)]; exact heap_alloc_new w1 _
    exact ⟨⟨rfl, .inr ⟨_, cnt, Z, rfl, Nat.le_refl _, hh, Nat.zero_le _, by unfold maxLen; omega, by rw [← hM]; simp [size_madeCells], by simp⟩⟩, fun j hj => by omega, fun i j _ hj => by omega, fun j hj => by omega, Below.refl _ _, by omega⟩
  have HBW : Hid (Below w.heap.size w w2) := bTrans HB1.out HB2.out
  have hz2 : w2.cell? ⟨b1, o1, none⟩ = some (.int .i64 (cnt : Int)) := by rw [HBW.out.cell (p := ⟨b1, o1, none⟩) hb1]; exact h0
  have hb2 : b1 < w2.heap.size := by have := HBW.out.size; omega
  clear hw hM e0 e1 x0 x1 hmk
  gi_wp2_with fail
  refine wpIn_rangeFunc_ownH rfl (by decide) (gf := 94) (lb := #[.pointer (some ⟨w1.heap.size + 1 + 1, 0, none⟩)]) rfl trivial (enters_of Try.func94 (by kernel_rfl) rfl)
    (cut_stops 5 (w1.heap.size + 2) cnt N r b1 o1 c d.length e ct tl b ad cd (by decide) hc hN hr hq hs1 hs2 w2 hb2 Q2.out hz2) keepsBox_t (keepsBox_b (by omega)) (Below.refl _ _) (fun _ => rfl)
    (fun pre W => ∃ g cap xs, Boxed W (w1.heap.size + 1) 35 (.slice (some ⟨g, 0, none⟩) pre.length cap) ∧ g ≠ w1.heap.size + 2 ∧ RI w1.heap.size w2 W (.slice (some ⟨g, 0, none⟩) pre.length cap) pre.length xs (pre.flatMap (fun k => [t, D k.1])))
    (fun _ _ _ => False)
    ?hI (fun _ _ _ _ _ hs _ _ => hs)
    ⟨_, _, _, bL, by omega, RI0.out⟩
    (fun x a' W => ∃ Bx, w1.heap.size + 2 < Bx ∧ Box W Bx (.slice tl r ct) (.slice (ad x.1) N (cd x.1)) 26 ∧ a' = { tmps := #[.agg #[.slice (some ⟨b1, o1, none⟩) (r + 1) c, .slice b d.length e], .pointer (some ⟨w.heap.size, 0, none⟩), .slice none 0 0, .pointer (some ⟨w1.heap.size + 1, 0, none⟩), .pointer (some ⟨Bx, 0, none⟩), .agg #[.slice (some ⟨b1, o1, none⟩) (r + 1) c, .slice b d.length e], .bool true, .bool false, .bool false, .pointer (some ⟨w.heap.size, 0, none⟩), .slice (some ⟨b1, o1, none⟩) (r + 1) c, .int .i64 ((r : Int) + 1), .bool false, .bool false, .pointer (some ⟨w.heap.size, 0, none⟩), .slice (some ⟨b1, o1, none⟩) (r + 1) c, .pointer (some ⟨b1, o1, none⟩), .int .i64 (cnt : Int), .slice (some ⟨w1.heap.size, 0, none⟩) 0 cnt, .agg #[.slice (some ⟨b1, o1, none⟩) (r + 1) c, .slice b d.length e], .func (.func 94) #[] #[.pointer (some ⟨w1.heap.size + 1 + 1, 0, none⟩)], .agg #[.slice tl r ct, .slice (ad x.1) N (cd x.1)], undef, undef, undef, undef, undef, undef], defers := [] })
    ?hAx ?assign ?body ?done ?stop
  case hI =>
    rintro pre X Y row ⟨g, cap, xs, hbx, hgq, hri⟩ hg hrow
    refine ⟨g, cap, xs, hbx.kept hg (fun e' => ?_), hgq, hri.grown hg (fun r' e' => ?_) (fun r' e' e2 => ?_) (fun r' e' j hj => ?_)⟩
    · obtain ⟨_, o, ho, hcc⟩ := hrow _ e'.symm; rw [show X.heap[_]? = _ from hbx] at ho; cases ho; cases hcc
    · have := (hrow r' e').1; omega
    · obtain ⟨_, o, ho, hcc⟩ := hrow r' e'
      rcases hri.own.2 with ⟨h, _⟩ | ⟨g', cap', cur, h, _, hh, _⟩
      · cases h
      · cases h; cases e2; rw [hh] at ho; cases ho; cases hcc
    · obtain ⟨_, o, ho, hcc⟩ := hrow r' e'
      exact (hri.piece j hj).notRow (fun cur t' fr hh => by rw [hh] at ho; cases ho; cases hcc)
  case hAx =>
    rintro x a' _ X Y row ⟨Bx, h1, h2, h3⟩ hg hr'
    refine ⟨Bx, h1, ?_, h3⟩
    unfold Box at h2 ⊢
    rw [hg.block Bx (lt_of_heapA h2) (fun e' => ?_)]
    · exact h2
    · obtain ⟨_, o, ho, hcc⟩ := hr' Bx e'.symm; rw [h2] at ho; cases ho; cases hcc
  case assign =>
    rintro l pre x W K ⟨g, cap, xs, hbx, hgq, hri⟩ hK
    gi_wp2
    exact hK _ _ ((KeepsOthers.alloc _ _).from _) (Below.heap_alloc _ _ _ (by have := hbx.lt; have := hri.below.size; omega)) ⟨g, cap, xs, hbx.alloc _, hgq, hri.grown (World.grownBy_alloc W _ none) (fun _ e' => by cases e') (fun _ e' => by cases e') (fun _ e' => by cases e')⟩ ⟨W.heap.size, by have := hri.below.size; omega, box_new W _ _ _, rfl⟩
  case body =>
    rintro l pre x a' W hl _ ⟨g, cap, xs, hbx, hgq, hri⟩ ⟨Bx, hBx, hX, rfl⟩ hlt
    have c0 := hbx.cell
    have y0 := hX.c0
    have y1 := hX.c1
    have HRI : Hid (RI w1.heap.size w2 W (.slice (some ⟨g, 0, none⟩) pre.length cap) pre.length xs (pre.flatMap (fun k => [t, D k.1]))) := hri
    have HBD : Hid (Below w.heap.size w W.drew) := ((bTrans HB1.out (HB2.out.trans hri.below))).drew
    have HRX : Hid (ArrI w (.agg #[.slice tl r ct, .slice (ad x.1) N (cd x.1)]) t (D x.1)) := HR.out x.1 x.2
    have HDL : Hid ((D x.1).length ≤ 1048576) := hDl x.1 x.2
    have HTL : Hid (t.length ≤ 1048576) := by show _ ≤ _; omega
    have H63 : Hid (pre.length + 1 ≤ maxLen) := by show _ ≤ _; unfold maxLen; omega
    have HBYT : Hid ((pre.length + 1) * 48 ≤ 140737488355328) := by show _ ≤ _; omega
    have HQL : Hid (w1.heap.size + 2 < W.heap.size) := by have := hri.below.size; show _ < _; omega
    clear hri
    gi_wp2_with fail
    refine wpIn_region_any (by kernel_rfl) ?_
    change wpAnyIn _ _ _ _ _ _ _ _ _ (World.drew _)
    refine wpAnyIn_ready (rs := [0, 1]) (by kernel_rfl) (by simp) ?_
    refine AllReadyIn.cons rfl (fun K hK => ?_) (AllReadyIn.cons rfl (fun K hK => ?_) AllReadyIn.nil)
    · -- 0
      go_simp
      refine hK _ _ ?_
      clear hK K
      refine wpAnyIn_ready (rs := [1]) (by kernel_rfl) (by simp) ?_
      refine AllReadyIn.cons rfl (fun K hK => ?_) AllReadyIn.nil
      go_simp
      refine hK _ _ ?_
      clear hK K
      refine wpAnyIn_ready (rs := [2]) (by kernel_rfl) (by simp) ?_
      refine AllReadyIn.cons rfl (fun K hK => ?_) AllReadyIn.nil
      go_simp
      refine ⟨trivial, (CallsIn.inRound l (callsIn_wide.2 (copyOf_impl (HRX.out.keep HBD.out) HTL.out HDL.out))).mono ?_⟩
      rintro rr w3 ⟨v3, rfl, ha, hb⟩
      obtain ⟨ax, cx, ay, cy, rfl, _, _, _, _⟩ := ha.arrI
      have HA3 : Hid (Arr W.heap.size w3.heap.size w3 (.agg #[.slice ax r cx, .slice ay (D x.1).length cy]) t (D x.1)) := by rw [htl] at ha; exact ha
      have HB3 : Hid (Below W.heap.size W w3) := bTrans ((Below.refl W.heap.size W).drew) hb
      have c3 : w3.cell? ⟨w1.heap.size + 1, 0, none⟩ = some (.slice (some ⟨g, 0, none⟩) pre.length cap) := (HB3.out.cell (p := ⟨w1.heap.size + 1, 0, none⟩) hbx.lt).trans c0
      have c3n : ∀ O : Obj, (w3.alloc O).cell? ⟨w1.heap.size + 1, 0, none⟩ = some (.slice (some ⟨g, 0, none⟩) pre.length cap) := fun O => ((bAlloc HB3.out O).cell (p := ⟨w1.heap.size + 1, 0, none⟩) hbx.lt).trans c0
      clear ha hb
      refine hK _ _ ?_
      clear hK K
      refine wpAnyIn_ready (rs := [3]) (by kernel_rfl) (by simp) ?_
      refine AllReadyIn.cons rfl (fun K hK => ?_) AllReadyIn.nil
      go_simp
      refine hK _ _ ?_
      clear hK K
      refine wpAnyIn_ready (rs := [4]) (by kernel_rfl) (by simp) ?_
      refine AllReadyIn.cons rfl (fun K hK => ?_) AllReadyIn.nil
      refine stepIn_append rfl (.tmp 22) (.tmp 25) 35 rfl w1.heap.size 26 i0 (.agg #[.slice none 0 0, .slice none 0 0]) 2 48 Try.underlying35 hq0 z1 z2 z3 rfl (by decide) (.slice (some ⟨g, 0, none⟩) pre.length cap) pre.length xs rfl (ownsRow_keep HRI.out.own (bAlloc HB3.out _)) ⟨w3.heap.size, 0, none⟩ 1 1 [.slice ax r cx, .slice ay (D x.1).length cy] rfl rfl (World.news_of_block (cs := #[.slice ax r cx, .slice ay (D x.1).length cy]) (heap_alloc_new w3 _)) (by simp [Value.oneCell']) (by decide) H63.out HBYT.out (Nat.le_trans HRI.out.size (bAlloc HB3.out _).size) (w3.heap.size + 1) (by simp) ?_
      intro g4 cap4 w4 hown hgrow hat hlt4
      obtain ⟨hbx4, hg4, R5, hbx5, hk5, hq5⟩ := round_end (q := w1.heap.size + 2) HRI.out hbx HQL.out hgq (by omega) (by omega) HB3.out HA3.out hown hgrow hat
      have c4 := hbx4.cell
      have f4 := hbx4.frozen
      refine hK _ _ ?_
      clear hK K
      refine wpAnyIn_ready (rs := [5]) (by kernel_rfl) (by simp) ?_
      refine AllReadyIn.cons rfl (fun K hK => ?_) AllReadyIn.nil
      go_simp
      refine hK _ _ ?_
      clear hK K
      refine wpAnyIn_done (by kernel_rfl) ?_ _
      gi_wp2
      exact ⟨hk5.from _, hq5, g4, cap4, _, by simpa using hbx5, hg4, by simpa using R5⟩
    · -- 1
      go_simp
      refine hK _ _ ?_
      clear hK K
      refine wpAnyIn_ready (rs := [0, 2]) (by kernel_rfl) (by simp) ?_
      refine AllReadyIn.cons rfl (fun K hK => ?_) (AllReadyIn.cons rfl (fun K hK => ?_) AllReadyIn.nil)
      · -- 0
        go_simp
        refine hK _ _ ?_
        clear hK K
        refine wpAnyIn_ready (rs := [2]) (by kernel_rfl) (by simp) ?_
        refine AllReadyIn.cons rfl (fun K hK => ?_) AllReadyIn.nil
        go_simp
        refine ⟨trivial, (CallsIn.inRound l (callsIn_wide.2 (copyOf_impl (HRX.out.keep HBD.out) HTL.out HDL.out))).mono ?_⟩
        rintro rr w3 ⟨v3, rfl, ha, hb⟩
        obtain ⟨ax, cx, ay, cy, rfl, _, _, _, _⟩ := ha.arrI
        have HA3 : Hid (Arr W.heap.size w3.heap.size w3 (.agg #[.slice ax r cx, .slice ay (D x.1).length cy]) t (D x.1)) := by rw [htl] at ha; exact ha
        have HB3 : Hid (Below W.heap.size W w3) := bTrans ((Below.refl W.heap.size W).drew) hb
        have c3 : w3.cell? ⟨w1.heap.size + 1, 0, none⟩ = some (.slice (some ⟨g, 0, none⟩) pre.length cap) := (HB3.out.cell (p := ⟨w1.heap.size + 1, 0, none⟩) hbx.lt).trans c0
        have c3n : ∀ O : Obj, (w3.alloc O).cell? ⟨w1.heap.size + 1, 0, none⟩ = some (.slice (some ⟨g, 0, none⟩) pre.length cap) := fun O => ((bAlloc HB3.out O).cell (p := ⟨w1.heap.size + 1, 0, none⟩) hbx.lt).trans c0
        clear ha hb
        refine hK _ _ ?_
        clear hK K
        refine wpAnyIn_ready (rs := [3]) (by kernel_rfl) (by simp) ?_
        refine AllReadyIn.cons rfl (fun K hK => ?_) AllReadyIn.nil
        go_simp
        refine hK _ _ ?_
        clear hK K
        refine wpAnyIn_ready (rs := [4]) (by kernel_rfl) (by simp) ?_
        refine AllReadyIn.cons rfl (fun K hK => ?_) AllReadyIn.nil
        refine stepIn_append rfl (.tmp 22) (.tmp 25) 35 rfl w1.heap.size 26 i0 (.agg #[.slice none 0 0, .slice none 0 0]) 2 48 Try.underlying35 hq0 z1 z2 z3 rfl (by decide) (.slice (some ⟨g, 0, none⟩) pre.length cap) pre.length xs rfl (ownsRow_keep HRI.out.own (bAlloc HB3.out _)) ⟨w3.heap.size, 0, none⟩ 1 1 [.slice ax r cx, .slice ay (D x.1).length cy] rfl rfl (World.news_of_block (cs := #[.slice ax r cx, .slice ay (D x.1).length cy]) (heap_alloc_new w3 _)) (by simp [Value.oneCell']) (by decide) H63.out HBYT.out (Nat.le_trans HRI.out.size (bAlloc HB3.out _).size) (w3.heap.size + 1) (by simp) ?_
        intro g4 cap4 w4 hown hgrow hat hlt4
        obtain ⟨hbx4, hg4, R5, hbx5, hk5, hq5⟩ := round_end (q := w1.heap.size + 2) HRI.out hbx HQL.out hgq (by omega) (by omega) HB3.out HA3.out hown hgrow hat
        have c4 := hbx4.cell
        have f4 := hbx4.frozen
        refine hK _ _ ?_
        clear hK K
        refine wpAnyIn_ready (rs := [5]) (by kernel_rfl) (by simp) ?_
        refine AllReadyIn.cons rfl (fun K hK => ?_) AllReadyIn.nil
        go_simp
        refine hK _ _ ?_
        clear hK K
        refine wpAnyIn_done (by kernel_rfl) ?_ _
        gi_wp2
        exact ⟨hk5.from _, hq5, g4, cap4, _, by simpa using hbx5, hg4, by simpa using R5⟩
      · -- 2
        go_simp
        refine ⟨trivial, (CallsIn.inRound l (callsIn_wide.2 (copyOf_impl (HRX.out.keep HBD.out) HTL.out HDL.out))).mono ?_⟩
        rintro rr w3 ⟨v3, rfl, ha, hb⟩
        obtain ⟨ax, cx, ay, cy, rfl, _, _, _, _⟩ := ha.arrI
        have HA3 : Hid (Arr W.heap.size w3.heap.size w3 (.agg #[.slice ax r cx, .slice ay (D x.1).length cy]) t (D x.1)) := by rw [htl] at ha; exact ha
        have HB3 : Hid (Below W.heap.size W w3) := bTrans ((Below.refl W.heap.size W).drew) hb
        have c3 : w3.cell? ⟨w1.heap.size + 1, 0, none⟩ = some (.slice (some ⟨g, 0, none⟩) pre.length cap) := (HB3.out.cell (p := ⟨w1.heap.size + 1, 0, none⟩) hbx.lt).trans c0
        have c3n : ∀ O : Obj, (w3.alloc O).cell? ⟨w1.heap.size + 1, 0, none⟩ = some (.slice (some ⟨g, 0, none⟩) pre.length cap) := fun O => ((bAlloc HB3.out O).cell (p := ⟨w1.heap.size + 1, 0, none⟩) hbx.lt).trans c0
        clear ha hb
        refine hK _ _ ?_
        clear hK K
        refine wpAnyIn_ready (rs := [0, 3]) (by kernel_rfl) (by simp) ?_
        refine AllReadyIn.cons rfl (fun K hK => ?_) (AllReadyIn.cons rfl (fun K hK => ?_) AllReadyIn.nil)
        · -- 0
          go_simp
          refine hK _ _ ?_
          clear hK K
          refine wpAnyIn_ready (rs := [3]) (by kernel_rfl) (by simp) ?_
          refine AllReadyIn.cons rfl (fun K hK => ?_) AllReadyIn.nil
          go_simp
          refine hK _ _ ?_
          clear hK K
          refine wpAnyIn_ready (rs := [4]) (by kernel_rfl) (by simp) ?_
          refine AllReadyIn.cons rfl (fun K hK => ?_) AllReadyIn.nil
          refine stepIn_append rfl (.tmp 22) (.tmp 25) 35 rfl w1.heap.size 26 i0 (.agg #[.slice none 0 0, .slice none 0 0]) 2 48 Try.underlying35 hq0 z1 z2 z3 rfl (by decide) (.slice (some ⟨g, 0, none⟩) pre.length cap) pre.length xs rfl (ownsRow_keep HRI.out.own (bAlloc HB3.out _)) ⟨w3.heap.size, 0, none⟩ 1 1 [.slice ax r cx, .slice ay (D x.1).length cy] rfl rfl (World.news_of_block (cs := #[.slice ax r cx, .slice ay (D x.1).length cy]) (heap_alloc_new w3 _)) (by simp [Value.oneCell']) (by decide) H63.out HBYT.out (Nat.le_trans HRI.out.size (bAlloc HB3.out _).size) (w3.heap.size + 1) (by simp) ?_
          intro g4 cap4 w4 hown hgrow hat hlt4
          obtain ⟨hbx4, hg4, R5, hbx5, hk5, hq5⟩ := round_end (q := w1.heap.size + 2) HRI.out hbx HQL.out hgq (by omega) (by omega) HB3.out HA3.out hown hgrow hat
          have c4 := hbx4.cell
          have f4 := hbx4.frozen
          refine hK _ _ ?_
          clear hK K
          refine wpAnyIn_ready (rs := [5]) (by kernel_rfl) (by simp) ?_
          refine AllReadyIn.cons rfl (fun K hK => ?_) AllReadyIn.nil
          go_simp
          refine hK _ _ ?_
          clear hK K
          refine wpAnyIn_done (by kernel_rfl) ?_ _
          gi_wp2
          exact ⟨hk5.from _, hq5, g4, cap4, _, by simpa using hbx5, hg4, by simpa using R5⟩
        · -- 3
          go_simp
          refine hK _ _ ?_
          clear hK K
          refine wpAnyIn_ready (rs := [0]) (by kernel_rfl) (by simp) ?_
          refine AllReadyIn.cons rfl (fun K hK => ?_) AllReadyIn.nil
          go_simp
          refine hK _ _ ?_
          clear hK K
          refine wpAnyIn_ready (rs := [4]) (by kernel_rfl) (by simp) ?_
          refine AllReadyIn.cons rfl (fun K hK => ?_) AllReadyIn.nil
          refine stepIn_append rfl (.tmp 22) (.tmp 25) 35 rfl w1.heap.size 26 i0 (.agg #[.slice none 0 0, .slice none 0 0]) 2 48 Try.underlying35 hq0 z1 z2 z3 rfl (by decide) (.slice (some ⟨g, 0, none⟩) pre.length cap) pre.length xs rfl (ownsRow_keep HRI.out.own (bAlloc HB3.out _)) ⟨w3.heap.size, 0, none⟩ 1 1 [.slice ax r cx, .slice ay (D x.1).length cy] rfl rfl (World.news_of_block (cs := #[.slice ax r cx, .slice ay (D x.1).length cy]) (heap_alloc_new w3 _)) (by simp [Value.oneCell']) (by decide) H63.out HBYT.out (Nat.le_trans HRI.out.size (bAlloc HB3.out _).size) (w3.heap.size + 1) (by simp) ?_
          intro g4 cap4 w4 hown hgrow hat hlt4
          obtain ⟨hbx4, hg4, R5, hbx5, hk5, hq5⟩ := round_end (q := w1.heap.size + 2) HRI.out hbx HQL.out hgq (by omega) (by omega) HB3.out HA3.out hown hgrow hat
          have c4 := hbx4.cell
          have f4 := hbx4.frozen
          refine hK _ _ ?_
          clear hK K
          refine wpAnyIn_ready (rs := [5]) (by kernel_rfl) (by simp) ?_
          refine AllReadyIn.cons rfl (fun K hK => ?_) AllReadyIn.nil
          go_simp
          refine hK _ _ ?_
          clear hK K
          refine wpAnyIn_done (by kernel_rfl) ?_ _
          gi_wp2
          exact ⟨hk5.from _, hq5, g4, cap4, _, by simpa using hbx5, hg4, by simpa using R5⟩
  case done =>
    rintro D' zs W hD rfl ⟨g, cap, xs, hbx, hgq, hri⟩ hK
    have c0 := hbx.cell
    have R9 := hri.grown (grownBy_putObj' W D' (.deferred none)) (fun r' e' => by cases e'; omega) (fun r' e' e2 => by
      cases e'
      rcases hri.own.2 with ⟨h, _⟩ | ⟨g', cap', cur, h, _, hh, _⟩
      · cases h
      · cases h; cases e2; rw [hh] at hK; cases hK) (fun r' e' j hj => by
      cases e'
      exact (hri.piece j hj).notRow (fun cur t' fr hh => by rw [hh] at hK; cases hK))
    have HA9 := (R9.done (by rw [flat_lenR])).mono (B' := w.heap.size) HB1.out.size (Nat.le_refl _)
    have HB9 : Below w.heap.size w (W.putObj D' (.deferred none)) := bTrans HB1.out (HB2.out.trans R9.below)
    clear R9 hri
    gi_wp2
    refine ⟨by simp, .inl ⟨_, _, rfl, run_takeDeferred hK, ?_⟩⟩
    exact ⟨_, results_tmp rfl _ _ _, _, rfl, by simpa using HA9, HB9⟩
  case stop =>
    rintro D' c' pre W _ _ h _
    exact h.elim
end Go.Proofs.Ythjjjnapcbkhjaa
namespace Go.Proofs.Ythjjjnapcbkhjaa
open Go.RowKit
set_option linter.unusedVariables false
set_option linter.unusedSimpArgs false
theorem finRange_val (n : Nat) : (List.finRange n).map (fun k => k.1) = List.range n := by
  apply List.ext_getElem
  · simp
  · intro i h1 h2
    simp
theorem finRange_flat (n : Nat) (f : Nat → List (List Int)) : (List.finRange n).flatMap (fun k => f k.1) = (List.range n).flatMap f := by
  rw [← finRange_val, List.flatMap_map]
theorem slice_tail3 (W : World) (b o n c : Nat) (hc : n + 1 ≤ c) : (Instr.slice 24 (.slice (some ⟨b, o, none⟩) (n + 1) c) (some (.int .i64 1)) (some (.int .i64 ((n : Int) + 1))) (some (.int .i64 ((n : Int) + 1)))).run Try.prog W = .ok (.slice (if n = 0 then some ⟨b, o, none⟩ else some ⟨b, o + 1, none⟩) n n) W := by
  have hs : (sizeOf 3).run Try.prog W = .ok 1 W := by kernel_rfl
  have he : Try.prog.elem 24 = 3 := by kernel_rfl
  rw [run_slice_lhm (P := Try.prog) (w := W) 24 (some ⟨b, o, none⟩) (n + 1) c (by rw [he]; exact Try.underlying24) .i64 .i64 .i64 1 ((n : Int) + 1) ((n : Int) + 1) (by decide) (by omega) (by omega) (by omega), he, hs]
  have e1 : ((n : Int) + 1).toNat = n + 1 := by omega
  by_cases h0 : n = 0
  · subst h0; simp [Result.andThen, sliced, Addr.add]
  · simp [Result.andThen, sliced, Addr.add, e1, h0]
theorem slice_cut3 (W : World) (b : Option Addr) (n e M R N : Nat) (h : M + N = R) (hR : R ≤ e) : (Instr.slice 24 (.slice b n e) (some (.int .i64 (M : Int))) (some (.int .i64 (R : Int))) (some (.int .i64 (R : Int)))).run Try.prog W = .ok (.slice (if N = 0 then b else b.map (·.add M)) N N) W := by
  have hs : (sizeOf 3).run Try.prog W = .ok 1 W := by kernel_rfl
  have he : Try.prog.elem 24 = 3 := by kernel_rfl
  rw [run_slice_lhm (P := Try.prog) (w := W) 24 b n e (by rw [he]; exact Try.underlying24) .i64 .i64 .i64 (M : Int) (R : Int) (R : Int) (by omega) (by omega) (by omega) (by omega), he, hs]
  have e2 : R - M = N := by omega
  by_cases h0 : N = 0
  · have e3 : R = M := by omega
    simp [Result.andThen, sliced, h0, e3]
  · have e3 : ¬ R = M := by omega
    simp [Result.andThen, sliced, h0, e3, e2]
theorem rows_good {n0 : Int} {t d : List Int} {w : World} {v : Value} (h : ArrI w v (n0 :: t) d) (ho : arrOk (n0 :: t) d = true) :
    Calls Try.prog 20 #[v] w fun e w' => ∃ v', e = .returned v' ∧ Arrs w.heap.size w'.heap.size w' v' (rowsF (n0 :: t) d) ∧ Below w.heap.size w w' := by
  have H := h
  obtain ⟨a, c, b, e, rfl, h1, h2, g1, g2⟩ := h
  obtain ⟨b1, o1, rfl, hb1, c0⟩ := h1.at (k := 0) (by simp)
  have hh := head_bd ho
  simp only [List.getD_cons_zero] at hh c0
  rw [Nat.add_zero] at c0
  obtain ⟨cnt, rfl⟩ : ∃ cnt : Nat, n0 = (cnt : Int) := ⟨n0.toNat, by omega⟩
  have k1 := (sizeV_ok (arrOk_shape ho)).1
  simp at k1
  have hdl := arrOk_len ho
  obtain ⟨N, hN⟩ : ∃ N : Nat, (0 < cnt → sizeV t = (N : Int)) ∧ (¬ 0 < cnt → N = 0) := by
    by_cases hp : 0 < cnt
    · exact ⟨(sizeV t).toNat, fun _ => by have := tail_size ho (by omega); omega, fun h => absurd hp h⟩
    · exact ⟨0, fun h => absurd h hp, fun _ => rfl⟩
  have hmul : 0 < cnt → cnt * N = d.length := fun hp => by
    have q := (tail_size ho (by omega)).2.1
    rw [hN.1 hp] at q
    have : ((cnt * N : Nat) : Int) = (d.length : Int) := by simpa using q
    omega
  have hN3 : N ≤ 300 := by
    by_cases hp : 0 < cnt
    · have := (tail_size ho (by omega)).2.2; have := hN.1 hp; omega
    · have := hN.2 hp; omega
  have hle : ∀ k, k < cnt → k * N + N ≤ d.length := fun k hk => by
    have q : (k + 1) * N ≤ cnt * N := Nat.mul_le_mul_right N (by omega)
    rw [hmul (by omega), Nat.add_mul, Nat.one_mul] at q
    exact q
  have ht : Ints w (some ⟨b1, o1 + 1, none⟩) t := by
    rcases h1 with h1 | ⟨b', off', e', hb', hc'⟩
    · cases h1
    · cases e'
      refine .inr ⟨b1, o1 + 1, rfl, hb', fun k hk => ?_⟩
      have q := hc' (k + 1) (by simp; omega)
      rw [show o1 + (k + 1) = o1 + 1 + k by omega] at q
      simpa using q
  have hlen : ∀ k, k < cnt → ((d.drop (k * N)).take N).length = N := fun k hk => by have := hle k hk; simp; omega
  have hF : (List.finRange cnt).flatMap (fun k => [t, (d.drop (k.1 * N)).take N]) = rowsF ((cnt : Int) :: t) d := by
    rw [finRange_flat cnt (fun i => [t, (d.drop (i * N)).take N])]
    unfold rowsF
    rw [if_pos ⟨ho, by simp⟩]
    by_cases hp : 0 < cnt
    · simp [hN.1 hp]
    · obtain rfl : cnt = 0 := by omega
      rfl
  rw [← hF]
  refine rows_walk 0 cnt N t.length b1 o1 c e t.length t d (if t.length = 0 then some ⟨b1, o1, none⟩ else some ⟨b1, o1 + 1, none⟩) b (fun k => if N = 0 then b else b.map (·.add (k * N))) (fun _ => N) (fun k => (d.drop (k * N)).take N) w (by omega) hN3 (by omega) rfl ?_ ho hdl ?_ ?_ H hb1 c0 ?_ ?_
  · intro hp
    rw [← hmul hp]
    rw [Int.natCast_mul, Int.mul_ediv_cancel_left _ (by omega)]
  · exact fun W => slice_tail3 W b1 o1 t.length c (by simpa using g1)
  · intro k M R W hk hM hR
    rw [← hM]
    exact slice_cut3 W b d.length e (k * N) R N (by rw [← hR, Nat.add_mul, Nat.one_mul]) (by have := hle k hk; rw [← hR, Nat.add_mul, Nat.one_mul]; omega)
  · intro k hk
    refine ⟨_, _, _, _, by rw [hlen k hk], ?_, ?_, Nat.le_refl _, by rw [hlen k hk]; exact Nat.le_refl _⟩
    · by_cases h0 : t.length = 0
      · exact .inl (List.eq_nil_of_length_eq_zero h0)
      · rw [if_neg h0]; exact ht
    · by_cases h0 : N = 0
      · subst h0; exact .inl (by simp)
      · have hd0 : 0 < d.length := by have := hle k hk; omega
        obtain ⟨b2, o2, rfl, hb2, _⟩ := h2.at hd0
        rw [if_neg h0]
        have e : (⟨b2, o2, none⟩ : Addr).add (k * N) = ⟨b2, o2 + k * N, none⟩ := by unfold Addr.add; split <;> simp_all
        simp only [Option.map_some, e]
        exact ints_cut h2 (hle k hk)
  · intro k hk
    rw [hlen k hk]; omega
set_option maxRecDepth 20000 in
set_option maxHeartbeats 1000000 in
/-- Rows. -/
theorem rows_impl {s d : List Int} {w : World} {v : Value} (h : ArrI w v s d) (hs : s.length ≤ 1048576) (hd : d.length ≤ 1048576) :
    Calls Try.prog 20 #[v] w fun e w' => ∃ v, e = .returned v ∧ Arrs w.heap.size w'.heap.size w' v (rowsF s d) ∧ Below w.heap.size w w' := by
  by_cases hg : arrOk s d = true ∧ s ≠ []
  · obtain ⟨ho, hne⟩ := hg
    cases s with
    | nil => exact absurd rfl hne
    | cons n0 t => exact rows_good h ho
  · have HF : Hid (rowsF s d = []) := by show _ = _; unfold rowsF; rw [if_neg hg]
    have H : Hid (ArrI w v s d) := h
    obtain ⟨a, c, b, e, rfl, _, _, _, _⟩ := h
    have HD : Hid (d.length ≤ 1048576) := hd
    have hq : arrOk s d = false ∨ (arrOk s d = true ∧ s = []) := by
      cases ho : arrOk s d
      · exact .inl rfl
      · exact .inr ⟨rfl, Classical.byContradiction fun e => hg ⟨ho, e⟩⟩
    clear hd hs hg
    rcases hq with hq | ⟨hq, rfl⟩
    all_goals
      have HO : Hid (arrOk _ d = _) := hq
      clear hq
      go_enter Try.func20, Try.ntmps20
      go_wp2_with fail
      refine (arrOk_impl (H.out.keep (bAlloc (Below.refl _ _) _)) HD.out).mono ?_
      rintro r w1 ⟨rfl, hb⟩
      have HB : Hid (Below w.heap.size w w1) := bTrans (bAlloc (Below.refl _ _) _) hb
      have X : Hid (Box w1 w.heap.size _ (.slice b d.length e) 26) := (box_new w _ _ _).keep hb
      have p0 := X.out.c0
      have p1 := X.out.c1
      clear hb
      rw [HO.out]
      go_wp2
      go_ret
      exact ⟨_, rfl, by rw [HF.out]; exact arrs_none _ _ _ _ _, HB.out⟩
end Go.Proofs.Ythjjjnapcbkhjaa
namespace Go.Proofs.Ythjjjnapcbkhjaa
open Go.RowKit
theorem ret_int' {k : IntKind} {a b : Int} (h : a = b) : Ending.returned (.int k a) = .returned (.int k b) := by rw [h]
theorem ret_two' {a b c d : Int} (h : a = b) (h' : c = d) : Ending.returned (.tuple #[.int .i64 a, .int .i64 c]) = .returned (.tuple #[.int .i64 b, .int .i64 d]) := by rw [h, h']
theorem ret_bool {a b : Bool} (h : a = b) : Ending.returned (.bool a) = .returned (.bool b) := by rw [h]
end Go.Proofs.Ythjjjnapcbkhjaa
namespace Go.Proofs.Ythjjjnapcbkhjaa
open Go.RowKit
set_option linter.unusedVariables false
set_option linter.unusedSimpArgs false
theorem eachOne_bad {g : Int} {s d : List Int} (h : eachOneC g s d ≠ 0) : eachOneS g s d = [] ∧ eachOneD g s d = [] := by
  unfold eachOneS eachOneD; rw [if_neg h, if_neg h]; exact ⟨rfl, rfl⟩
theorem eachOne_good {g : Int} {s d : List Int} (h : eachOneC g s d = 0) : eachOneS g s d = s ∧ eachOneD g s d = (List.range d.length).map (fun i => (oneV g (d.getD i 0)).1) := by
  unfold eachOneS eachOneD; rw [if_pos h, if_pos h]; exact ⟨rfl, rfl⟩
theorem below_of_win {B : Nat} {w a b : World} (h : Below w.heap.size w a) (k : Win B B a b) : Below w.heap.size w b := by
  exact h.trans ⟨k.os, k.tape, k.output, k.size, fun i hi => k.block i (Nat.lt_of_lt_of_le hi h.size) (by omega)⟩
end Go.Proofs.Ythjjjnapcbkhjaa
namespace Go.Proofs.Ythjjjnapcbkhjaa
open Go.RowKit
set_option linter.unusedVariables false
set_option linter.unusedSimpArgs false
theorem ok_neg (x : Int) : ok (-x) = ok x := by
  unfold ok
  rw [Bool.eq_iff_iff]
  simp
  omega
theorem getD_mem {d : List Int} {i : Nat} (h : i < d.length) : d.getD i 0 ∈ d := by
  have e : d.getD i 0 = d[i] := by simp [List.getD, h]
  rw [e]; exact List.getElem_mem h
theorem arrOk_all {s d : List Int} (h : arrOk s d = true) {i : Nat} (hi : i < d.length) : ok (d.getD i 0) = true := by
  simp only [arrOk, Bool.and_eq_true] at h
  exact (List.all_eq_true.1 h.2) _ (getD_mem hi)
theorem firstC_none {g : Nat → Int} {n : Nat} (h : ∀ i, i < n → g i = 0) : firstC g n = 0 := by
  induction n with
  | zero => rfl
  | succ n ih => exact firstC_go (ih (fun i hi => h i (by omega))) (h n (by omega))
theorem each_neg {s d : List Int} (ho : arrOk s d = true) : eachOneC 45 s d = 0 ∧ eachOneS 45 s d = s ∧ eachOneD 45 s d = d.map (fun x => -x) := by
  have hc : eachOneC 45 s d = 0 := by
    unfold eachOneC
    rw [if_pos ⟨ho, by decide⟩]
    exact firstC_none (fun i hi => by simp only [oneV_45 (arrOk_all ho hi)])
  refine ⟨hc, (eachOne_good hc).1, ?_⟩
  rw [(eachOne_good hc).2]
  apply List.ext_getElem
  · simp
  · intro i h1 h2
    have hi : i < d.length := by simpa using h2
    have e : d.getD i 0 = d[i] := by simp [List.getD, hi]
    simp only [List.getElem_map, List.getElem_range]
    rw [oneV_45 (arrOk_all ho hi), e]
theorem arrOk_neg {s d : List Int} (ho : arrOk s d = true) : arrOk s (d.map (fun x => -x)) = true := by
  simp only [arrOk, Bool.and_eq_true] at ho ⊢
  refine ⟨by simpa using ho.1, ?_⟩
  rw [List.all_eq_true] at *
  intro x hx
  obtain ⟨y, hy, rfl⟩ := List.mem_map.1 hx
  rw [ok_neg]
  exact ho.2 y hy
theorem each_neg2 {s d : List Int} (ho : arrOk s d = true) : eachOneC 45 (eachOneS 45 s d) (eachOneD 45 s d) = 0 ∧ eachOneS 45 (eachOneS 45 s d) (eachOneD 45 s d) = s ∧ eachOneD 45 (eachOneS 45 s d) (eachOneD 45 s d) = d := by
  obtain ⟨_, h2, h3⟩ := each_neg ho
  rw [h2, h3]
  obtain ⟨k1, k2, k3⟩ := each_neg (arrOk_neg ho)
  exact ⟨k1, k2, by rw [k3, List.map_map]; exact (List.map_congr_left (fun x _ => by simp)).trans (List.map_id d)⟩
theorem one_facts {g : Int} {s d : List Int} (h : eachOneC g s d = 0) : arrOk s d = true ∧ (eachOneD g s d).length = d.length ∧ ∀ i, i < d.length → (oneV g (d.getD i 0)).2 = 0 ∧ (eachOneD g s d).getD i 0 = (oneV g (d.getD i 0)).1 := by
  have hg : arrOk s d = true ∧ sign1 g = true := by
    apply Classical.byContradiction
    intro hn
    unfold eachOneC at h
    rw [if_neg hn] at h
    cases h
  have hf : firstC (fun i => (oneV g (d.getD i 0)).2) d.length = 0 := by
    have q := h
    unfold eachOneC at q
    rw [if_pos hg] at q
    exact q
  rw [(eachOne_good h).2]
  refine ⟨hg.1, by simp, fun i hi => ⟨firstC_all hf i hi, ?_⟩⟩
  simp [List.getD, hi]
theorem eachOne_len (g : Int) (s d : List Int) : (eachOneS g s d).length ≤ s.length ∧ (eachOneD g s d).length ≤ d.length := by
  unfold eachOneS eachOneD
  split <;> simp
set_option maxRecDepth 20000 in
set_option maxHeartbeats 1000000 in
/-- sameArray. -/
theorem same_arr {s d s' d' : List Int} {w : World} {v u : Value} (h : ArrI w v s d) (k : ArrI w u s' d') (hs : s.length ≤ 1048576) (hd : d.length ≤ 1048576) :
    Calls Try.prog 14 #[v, u] w fun e w' => e = .returned (.bool (decide (s = s') && decide (d = d'))) ∧ Below w.heap.size w w' := by
  obtain ⟨a, c, b, e, rfl, h1, h2, _, _⟩ := h
  obtain ⟨a', c', b', e', rfl, k1, k2, _, _⟩ := k
  have H1 : Hid (Ints w a s) := h1
  have H2 : Hid (Ints w b d) := h2
  have K1 : Hid (Ints w a' s') := k1
  have K2 : Hid (Ints w b' d') := k2
  have HS : Hid (s.length ≤ 4611686018427387904) := by show _ ≤ _; omega
  have HD : Hid (d.length ≤ 4611686018427387904) := by show _ ≤ _; omega
  clear h1 h2 k1 k2 hs hd
  generalize hp : decide (s = s') = p
  generalize hq : decide (d = d') = q
  have HP : Hid (decide (s = s') = p) := hp
  have HQ : Hid (decide (d = d') = q) := hq
  clear hp hq
  go_enter Try.func14, Try.ntmps14
  go_wp2_with fail
  refine (same_ints c c' HS.out ((H1.out.alloc _).alloc _) ((K1.out.alloc _).alloc _)).mono ?_
  rintro r w1 ⟨rfl, j, hw⟩
  have HB : Hid (Below w.heap.size w w1) := by rw [hw]; exact bDrewN (bAlloc (bAlloc (Below.refl _ _) _) _) j
  have r1 : w1.cell? ⟨w.heap.size, 1, none⟩ = some (.slice b d.length e) := by rw [hw]; show World.cell? _ _ = _; simp [World.cell?_drewN]
  have r2 : w1.cell? ⟨w.heap.size + 1, 1, none⟩ = some (.slice b' d'.length e') := by rw [hw]; show World.cell? _ _ = _; simp [World.cell?_drewN]
  clear hw j
  rw [HP.out]
  cases p
  · go_wp2
    go_ret
    exact ⟨rfl, HB.out⟩
  · go_wp2_with fail
    refine (same_ints e e' HD.out (H2.out.keep HB.out) (K2.out.keep HB.out)).mono ?_
    rintro r w2 ⟨rfl, j, hw⟩
    have HB2 : Hid (Below w.heap.size w w2) := by rw [hw]; exact bDrewN HB.out j
    clear hw j
    rw [HQ.out]
    cases q
    · go_wp2
      go_ret
      exact ⟨rfl, HB2.out⟩
    · go_wp2
      go_ret
      exact ⟨rfl, HB2.out⟩
end Go.Proofs.Ythjjjnapcbkhjaa
namespace Go.Proofs.Ythjjjnapcbkhjaa
open Go.RowKit
set_option linter.unusedVariables false
structure OutB (g : Nat) (W0 wr : World) (sv : Value) (ad : Option Addr) (cd k : Nat) (m : List Int) : Prop where
  box : Box wr g sv (.slice ad k cd) 26
  row : NewInts W0.heap.size wr (.slice ad k cd) m
  win : Win g (g + 1) W0 wr
  lt : g < W0.heap.size
  len : m.length = k
theorem outB_new {W : World} {g : Nat} {sv : Value} (h : Box W g sv (.slice none 0 0) 26) : OutB g W W sv none 0 0 [] :=
  ⟨h, NewInts.nil _ _, ⟨rfl, rfl, rfl, Nat.le_refl _, fun _ _ _ => rfl⟩, h.lt, rfl⟩
theorem OutB.keep {g cd k : Nat} {W0 wr w' : World} {sv : Value} {ad : Option Addr} {m : List Int} (h : OutB g W0 wr sv ad cd k m) (hb : Below wr.heap.size wr w') : OutB g W0 w' sv ad cd k m :=
  ⟨h.box.keep hb, h.row.keep hb, ⟨hb.os.trans h.win.os, hb.tape.trans h.win.tape, hb.output.trans h.win.output, Nat.le_trans h.win.size hb.size, fun k h1 h2 => (hb.block k (Nat.lt_of_lt_of_le h1 h.win.size)).trans (h.win.block k h1 h2)⟩, h.lt, h.len⟩
theorem OutB.cells {g cd k : Nat} {W0 wr : World} {sv : Value} {ad : Option Addr} {m : List Int} (h : OutB g W0 wr sv ad cd k m) : wr.cell? ⟨g, 0, none⟩ = some sv ∧ wr.cell? ⟨g, 1, none⟩ = some (.slice ad k cd) ∧ wr.frozen? ⟨g, 0, none⟩ = false ∧ wr.frozen? ⟨g, 1, none⟩ = false :=
  ⟨h.box.c0, h.box.c1, free_at h.box 0, free_at h.box 1⟩
/-- A list more. -/
theorem OutB.growL {g cd k : Nat} {W0 wr : World} {sv : Value} {ad : Option Addr} {m l : List Int} {a : Option Addr} (h : OutB g W0 wr sv ad cd k m) (hi : Ints wr a l) (hk : k + l.length ≤ 1048576) (c : Nat) :
    ∃ a' c' w', (Builtin.append_ #[24, 24] 24 #[.slice ad k cd, .slice a l.length c]).run Try.prog wr = .ok (.slice a' (k + l.length) c') w' ∧ Box w' g sv (.slice ad k cd) 26 ∧ OutB g W0 (w'.setCell ⟨g, 1, none⟩ (.slice a' (k + l.length) c')) sv a' c' (k + l.length) (m ++ l) := by
  obtain ⟨a', c', w', hr, hn, hb⟩ := Go.Proofs.Ythjjjnapcbkhjaa.growL h.row hi h.win.size (by rw [h.len]; exact hk) c
  rw [List.length_append, h.len] at hr hn
  have hl := h.lt
  have hx : Box w' g sv (.slice ad k cd) 26 := by
    unfold Box; rw [hb.block g hl]; exact h.box
  refine ⟨a', c', w', hr, hx, ?_, ?_, ?_, hl, by simp [h.len]⟩
  · have := heap_setCell_same w' g 1 _ _ (.slice a' (k + l.length) c') hx
    unfold Box; simpa using this
  · exact hn.but ((But.refl g w').setCell 1 (.slice a' (k + l.length) c')) (by omega)
  · have s1 := win_setCell w' g 1 (.slice a' (k + l.length) c')
    have hz := h.win.size
    have hb2 := hb.size
    refine ⟨s1.os.trans (hb.os.trans h.win.os), s1.tape.trans (hb.tape.trans h.win.tape), s1.output.trans (hb.output.trans h.win.output), Nat.le_trans hz (Nat.le_trans hb2 s1.size), fun o h1 h2 => ?_⟩
    exact (s1.block o (by omega) h2).trans ((hb.block o h1).trans (h.win.block o h1 h2))
/-- One number more. -/
theorem OutB.grow1 {g cd k : Nat} {W0 wr : World} {sv : Value} {ad : Option Addr} {m : List Int} (h : OutB g W0 wr sv ad cd k m) (hk : k < 1048576) (x : Int) :
    ∃ a' c' w', (Builtin.append_ #[24, 24] 24 #[.slice ad k cd, .slice (some ⟨wr.heap.size, 0, none⟩) 1 1]).run Try.prog (wr.alloc (.cells #[.int .i64 x] 3)) = .ok (.slice a' (k + 1) c') w' ∧ Box w' g sv (.slice ad k cd) 26 ∧ OutB g W0 (w'.setCell ⟨g, 1, none⟩ (.slice a' (k + 1) c')) sv a' c' (k + 1) (m ++ [x]) := by
  obtain ⟨a', c', w', hr, hn, hb⟩ := Go.Proofs.Ythjjjnapcbkhjaa.grow1 x h.row h.win.size (by rw [h.len]; exact hk)
  rw [h.len] at hr hn
  have hl := h.lt
  have hx : Box w' g sv (.slice ad k cd) 26 := by
    unfold Box; rw [hb.block g hl]; exact h.box
  refine ⟨a', c', w', hr, hx, ?_, ?_, ?_, hl, by simp [h.len]⟩
  · have := heap_setCell_same w' g 1 _ _ (.slice a' (k + 1) c') hx
    unfold Box; simpa using this
  · exact hn.but ((But.refl g w').setCell 1 (.slice a' (k + 1) c')) (by omega)
  · have s1 := win_setCell w' g 1 (.slice a' (k + 1) c')
    have hz := h.win.size
    have hb2 := hb.size
    refine ⟨s1.os.trans (hb.os.trans h.win.os), s1.tape.trans (hb.tape.trans h.win.tape), s1.output.trans (hb.output.trans h.win.output), Nat.le_trans hz (Nat.le_trans hb2 s1.size), fun o h1 h2 => ?_⟩
    exact (s1.block o (by omega) h2).trans ((hb.block o h1).trans (h.win.block o h1 h2))
/-- The array that was made: its shape lies elsewhere. -/
theorem OutB.arr {g cd k B E : Nat} {W0 wr : World} {a : Option Addr} {c : Nat} {ad : Option Addr} {m S : List Int} (h : OutB g W0 wr (.slice a S.length c) ad cd k m) (hS : Piece B E W0 (.slice a S.length c) S) (hE : E ≤ W0.heap.size) (hB : B ≤ W0.heap.size) (hg : E ≤ g ∨ g + 1 ≤ B) : Arr B wr.heap.size wr (.agg #[.slice a S.length c, .slice ad k cd]) S m := by
  have p1 : Piece B E wr (.slice a S.length c) S := hS.win h.win hg
  have p2 := h.row.piece
  have hz := h.win.size
  exact ⟨_, _, rfl, p1.mono (Nat.le_refl _) (by omega), p2.mono hB (Nat.le_refl _), p1.apart p2 (.inl hE)⟩
/-- Growing by a list: what else stands, and where the list lies then. -/
theorem growX {B : Nat} {w : World} {v : Value} {l m : List Int} {a : Option Addr} (h : NewInts B w v l) (hm : Ints w a m) (hB : B ≤ w.heap.size) (hl : l.length + m.length ≤ 1048576) (c : Nat) :
    ∃ a' c' w', (Builtin.append_ #[24, 24] 24 #[v, .slice a m.length c]).run Try.prog w = .ok (.slice a' (l ++ m).length c') w' ∧ NewInts B w' (.slice a' (l ++ m).length c') (l ++ m) ∧ Below B w w' ∧ (∀ o, o < w.heap.size → v.ownBlock ≠ some o → w'.heap[o]? = w.heap[o]?) ∧ ((Value.slice a' (l ++ m).length c').ownBlock = v.ownBlock ∨ (Value.slice a' (l ++ m).length c').ownBlock = some w.heap.size) := by
  obtain ⟨i, hq, z1, z2, z3⟩ : ∃ i, Try.prog.info? 3 = some i ∧ i.zero = some (.int .i64 0) ∧ i.size = 1 ∧ i.bytes = 8 := by
    have hi := info_int
    cases hq : Try.prog.info? 3 with
    | none => rw [hq] at hi; cases hi
    | some i => rw [hq] at hi; simp at hi; exact ⟨i, rfl, hi.1, hi.2.1, hi.2.2⟩
  cases a with
  | none =>
    obtain rfl : m = [] := by
      rcases hm with h | ⟨b, off, e, _⟩
      · exact h
      · cases e
    obtain ⟨base, cap, rfl, hle⟩ : ∃ base cap, v = .slice base l.length cap ∧ l.length ≤ cap := by
      rcases h.2 with ⟨e, h0⟩ | ⟨g, cap, cur, e, _, _, hle, _⟩
      · exact ⟨none, 0, by rw [e, h0], by omega⟩
      · exact ⟨_, cap, e, hle⟩
    refine ⟨base, cap, w, ?_, by simpa using h, Below.refl _ _, fun _ _ _ => rfl, .inl (by simp)⟩
    have := run_append_nothing (P := Try.prog) w 24 24 24 3 i Try.underlying24 hq base l.length cap hle (.slice none 0 c) (by rw [z2]; exact Src.ofNil w Try.underlying24 c)
    simpa using this
  | some ad =>
    have hn : ∀ (j : Nat) (u : Value), (m.map (Value.int .i64))[j]? = some u → w.cell? (ad.add j) = some u := by
      rcases hm with rfl | ⟨b, off, e, _, hc⟩
      · intro j u hu; simp at hu
      · cases e; exact ints_news hc
    obtain ⟨v', w', hr, h2, h3, _, h5⟩ := run_append_own_at (P := Try.prog) w B 24 24 3 i (.int .i64 0) 1 8 Try.underlying24 hq z1 z2 z3 rfl (by decide) v l.length (l.map (Value.int .i64)) h ad m.length c (m.map (Value.int .i64)) (by simp) hn (by intro u hu; obtain ⟨x, _, rfl⟩ := List.mem_map.1 hu; rfl) (by unfold maxLen; omega) (by omega) hB
    have h2' : NewInts B w' v' (l ++ m) := by
      show World.ownsRow _ _ _ _ _ _ _
      simpa using h2
    obtain ⟨a', c', rfl, _⟩ := h2'.ints
    exact ⟨a', c', w', hr, h2', grown_below h3 h.row hB, fun o ho hne => h3.block o ho (fun e => hne e.symm), h5⟩
/-- A list of numbers does not lie in a box of two lists. -/
theorem Piece.notBox {B C g : Nat} {w : World} {v : Value} {l : List Int} {a b : Option Addr} {n c n' c' : Nat} {T : TypeId} (h : Piece B C w v l) (hb : Box w g (.slice a n c) (.slice b n' c') T) : NotAt g v := by
  obtain ⟨a0, c0, rfl, hle, h⟩ := h
  intro off m cc e
  cases l with
  | nil => cases e; rfl
  | cons x l =>
    rcases h with h | ⟨o, of, cur, t, rfl, _, _, hg, hr⟩
    · cases h
    · exfalso
      cases e
      unfold Box at hb
      rw [hb] at hg
      cases hg
      have := hr 0 (by simp)
      rw [Nat.add_zero] at this
      match off, this with
      | 0, h => simp at h
      | 1, h => simp at h
      | k + 2, h => simp at h
theorem Piece.winB {B C g : Nat} {w w' : World} {v : Value} {l : List Int} (h : Piece B C w v l) (hw : Win g (g + 1) w w') (hn : NotAt g v) (hC : C ≤ w.heap.size) : Piece B C w' v l := by
  obtain ⟨a, c, rfl, hle, h⟩ := h
  refine ⟨a, c, rfl, hle, ?_⟩
  rcases h with rfl | ⟨o, off, cur, t, rfl, h1, h2, hg, r⟩
  · exact .inl rfl
  · by_cases e : o = g
    · subst e
      have := hn _ _ _ rfl
      exact .inl (List.eq_nil_of_length_eq_zero this)
    · exact .inr ⟨o, off, cur, t, rfl, h1, h2, by rw [hw.block o (by omega) (by omega)]; exact hg, r⟩
/-- The array that was made, its shape anywhere but in its own box. -/
theorem OutB.arrN {g cd k B E : Nat} {W0 wr : World} {a : Option Addr} {c : Nat} {ad : Option Addr} {m S : List Int} (h : OutB g W0 wr (.slice a S.length c) ad cd k m) (hS : Piece B E W0 (.slice a S.length c) S) (hE : E ≤ W0.heap.size) (hB : B ≤ W0.heap.size) (hn : NotAt g (.slice a S.length c)) : Arr B wr.heap.size wr (.agg #[.slice a S.length c, .slice ad k cd]) S m := by
  have p1 : Piece B E wr (.slice a S.length c) S := hS.winB h.win hn hE
  have p2 := h.row.piece
  have hz := h.win.size
  exact ⟨_, _, rfl, p1.mono (Nat.le_refl _) (by omega), p2.mono hB (Nat.le_refl _), p1.apart p2 (.inl hE)⟩
/-- A list of numbers of one's own does not lie in a box of an array. -/
theorem newInts_notBox {B g : Nat} {w : World} {v x y : Value} {l : List Int} (h : NewInts B w v l) (hb : Box w g x y 26) : v.ownBlock ≠ some g := by
  rcases h.2 with ⟨rfl, _⟩ | ⟨o, cap, cur, rfl, _, hg, _⟩
  · simp [Value.ownBlock]
  · intro e
    simp only [Value.ownBlock, Option.some.injEq] at e
    subst e
    unfold Box at hb
    rw [hb] at hg
    injection hg with hg
    injection hg with _ h2 _
    exact absurd h2 (by decide)
theorem notAt_own {g : Nat} {v : Value} (h : v.ownBlock ≠ some g) : NotAt g v := by
  intro off n c e
  subst e
  exact absurd rfl h
theorem newInts_setBox {B g i : Nat} {w : World} {v x y u : Value} {l : List Int} (h : NewInts B w v l) (hb : Box w g x y 26) : NewInts B (w.setCell ⟨g, i, none⟩ u) v l := by
  have hn := newInts_notBox h hb
  obtain ⟨h1, h2⟩ := h
  refine ⟨h1, ?_⟩
  rcases h2 with h2 | ⟨o, cap, cur, rfl, hB, hg, r⟩
  · exact .inl h2
  · refine .inr ⟨o, cap, cur, rfl, hB, ?_, r⟩
    rw [heap_setCell_other _ _ _ _ (by show o ≠ g; intro e; subst e; exact hn rfl)]
    exact hg
/-- Growing by a list: boxes of arrays stand. -/
theorem growK {B : Nat} {w : World} {v : Value} {l m : List Int} {a : Option Addr} (h : NewInts B w v l) (hm : Ints w a m) (hB : B ≤ w.heap.size) (hl : l.length + m.length ≤ 1048576) (c : Nat) :
    ∃ a' c' w', (Builtin.append_ #[24, 24] 24 #[v, .slice a m.length c]).run Try.prog w = .ok (.slice a' (l ++ m).length c') w' ∧ NewInts B w' (.slice a' (l ++ m).length c') (l ++ m) ∧ Below B w w' ∧ (∀ g x y, Box w g x y 26 → Box w' g x y 26) := by
  obtain ⟨a', c', w', r, n, b, k, _⟩ := growX h hm hB hl c
  refine ⟨a', c', w', r, n, b, fun g x y hb => ?_⟩
  unfold Box
  rw [k g hb.lt (newInts_notBox h hb)]
  exact hb
theorem shape_put {w V : World} {q : Nat} {v x0 y0 : Value} {l : List Int} (hb : Below w.heap.size w V) (hq : w.heap.size ≤ q) (bq : Box V q x0 y0 26) (n : NewInts w.heap.size V v l) :
    Box ((V.setCell ⟨q, 0, none⟩ v).setCell ⟨q, 1, none⟩ (.slice none 0 0)) q v (.slice none 0 0) 26 ∧ NewInts w.heap.size ((V.setCell ⟨q, 0, none⟩ v).setCell ⟨q, 1, none⟩ (.slice none 0 0)) v l ∧ Below w.heap.size w ((V.setCell ⟨q, 0, none⟩ v).setCell ⟨q, 1, none⟩ (.slice none 0 0)) := by
  have b1 : Box (V.setCell ⟨q, 0, none⟩ v) q v y0 26 := by
    have := heap_setCell_same V q 0 _ _ v bq
    unfold Box; simpa using this
  exact ⟨arr_stored bq, newInts_setBox (newInts_setBox n bq) b1, below_setCell (below_setCell hb hq _ _) hq _ _⟩
theorem shape_new {w V : World} {v : Value} {l : List Int} (hb : Below w.heap.size w V) (n : NewInts w.heap.size V v l) :
    Box (V.alloc (.cells #[v, .slice none 0 0] 26)) V.heap.size v (.slice none 0 0) 26 ∧ NewInts w.heap.size (V.alloc (.cells #[v, .slice none 0 0] 26)) v l ∧ Below w.heap.size w (V.alloc (.cells #[v, .slice none 0 0] 26)) :=
  ⟨box_new V _ _ _, n.keep (bAlloc (Below.refl _ _) _), bAlloc hb _⟩
/-- Two lists one behind the other, in whatever order the box of the answer is laid among the steps: the four ways. -/
theorem shape_ways {w : World} {a b : Option Addr} {l m : List Int} (ha : Ints w a l) (hb : Ints w b m) (hl : l.length + m.length ≤ 1048576) (c c' : Nat) (E N : Obj) (hE : E = .cells #[] 3) (hN : N = .cells #[.slice none 0 0, .slice none 0 0] 26) :
    ∃ aA cA wA aB cB wB aC cC wC aD cD wD aE cE wE aF cF wF aG cG wG,
      ((Builtin.append_ #[24, 24] 24 #[.slice (some ⟨w.heap.size, 0, none⟩) 0 0, .slice a l.length c]).run Try.prog (World.drew (w.alloc E)) = .ok (.slice aA l.length cA) wA ∧
       (Builtin.append_ #[24, 24] 24 #[.slice (some ⟨w.heap.size + 1, 0, none⟩) 0 0, .slice a l.length c]).run Try.prog (World.drew ((w.alloc N).alloc E)) = .ok (.slice aB l.length cB) wB ∧
       (Builtin.append_ #[24, 24] 24 #[.slice (some ⟨w.heap.size, 0, none⟩) 0 0, .slice a l.length c]).run Try.prog (World.drew ((w.alloc E).alloc N)) = .ok (.slice aC l.length cC) wC ∧
       (Builtin.append_ #[24, 24] 24 #[.slice aA l.length cA, .slice b m.length c']).run Try.prog wA = .ok (.slice aD (l.length + m.length) cD) wD ∧
       (Builtin.append_ #[24, 24] 24 #[.slice aA l.length cA, .slice b m.length c']).run Try.prog (wA.alloc N) = .ok (.slice aE (l.length + m.length) cE) wE ∧
       (Builtin.append_ #[24, 24] 24 #[.slice aB l.length cB, .slice b m.length c']).run Try.prog wB = .ok (.slice aF (l.length + m.length) cF) wF ∧
       (Builtin.append_ #[24, 24] 24 #[.slice aC l.length cC, .slice b m.length c']).run Try.prog wC = .ok (.slice aG (l.length + m.length) cG) wG) ∧
      (Below w.heap.size w wA ∧ Below w.heap.size w wB ∧ Below w.heap.size w wC ∧ Below w.heap.size w wD ∧ Below w.heap.size w wE ∧ Below w.heap.size w wF ∧ Below w.heap.size w wG) ∧
      (NewInts w.heap.size wD (.slice aD (l ++ m).length cD) (l ++ m) ∧ NewInts w.heap.size wE (.slice aE (l ++ m).length cE) (l ++ m) ∧ NewInts w.heap.size wF (.slice aF (l ++ m).length cF) (l ++ m) ∧ NewInts w.heap.size wG (.slice aG (l ++ m).length cG) (l ++ m)) ∧
      (Box wE wA.heap.size (.slice none 0 0) (.slice none 0 0) 26 ∧ Box wB w.heap.size (.slice none 0 0) (.slice none 0 0) 26 ∧ Box wF w.heap.size (.slice none 0 0) (.slice none 0 0) 26 ∧ Box wC (w.heap.size + 1) (.slice none 0 0) (.slice none 0 0) 26 ∧ Box wG (w.heap.size + 1) (.slice none 0 0) (.slice none 0 0) 26) := by
  have s1 : (w.alloc N).heap.size = w.heap.size + 1 := by simp
  have BA : Below w.heap.size w (World.drew (w.alloc E)) := (bAlloc (Below.refl _ _) _).drew
  have BB : Below w.heap.size w (World.drew ((w.alloc N).alloc E)) := (bAlloc (bAlloc (Below.refl _ _) _) _).drew
  have BC : Below w.heap.size w (World.drew ((w.alloc E).alloc N)) := (bAlloc (bAlloc (Below.refl _ _) _) _).drew
  have NA0 : NewInts w.heap.size (w.alloc E) (.slice (some ⟨w.heap.size, 0, none⟩) 0 0) [] := by rw [hE]; exact newInts_alloc w [] (Nat.le_refl _) (by simp)
  have NA : NewInts w.heap.size (World.drew (w.alloc E)) (.slice (some ⟨w.heap.size, 0, none⟩) 0 0) [] := NA0.keep ((Below.refl _ _).drew)
  have NB : NewInts w.heap.size (World.drew ((w.alloc N).alloc E)) (.slice (some ⟨w.heap.size + 1, 0, none⟩) 0 0) [] := by
    have q : NewInts w.heap.size ((w.alloc N).alloc E) (.slice (some ⟨(w.alloc N).heap.size, 0, none⟩) 0 0) [] := by rw [hE]; exact newInts_alloc (w.alloc N) [] (by omega) (by simp)
    rw [s1] at q
    exact q.keep ((Below.refl _ _).drew)
  have NC : NewInts w.heap.size (World.drew ((w.alloc E).alloc N)) (.slice (some ⟨w.heap.size, 0, none⟩) 0 0) [] := NA0.keep ((bAlloc (Below.refl _ _) N).drew)
  obtain ⟨aA, cA, wA, rA, nA, bA, kA⟩ := growK NA (ha.keep BA) BA.size (by simp; omega) c
  obtain ⟨aB, cB, wB, rB, nB, bB, kB⟩ := growK NB (ha.keep BB) BB.size (by simp; omega) c
  obtain ⟨aC, cC, wC, rC, nC, bC, kC⟩ := growK NC (ha.keep BC) BC.size (by simp; omega) c
  rw [List.nil_append] at rA rB rC nA nB nC
  have bA := BA.trans bA
  have bB := BB.trans bB
  have bC := BC.trans bC
  have bAN : Below w.heap.size w (wA.alloc N) := bAlloc bA _
  obtain ⟨aD, cD, wD, rD, nD, bD, kD⟩ := growK nA (hb.keep bA) bA.size hl c'
  obtain ⟨aE, cE, wE, rE, nE, bE, kE⟩ := growK (nA.keep (bAlloc (Below.refl _ _) N)) (hb.keep bAN) bAN.size hl c'
  obtain ⟨aF, cF, wF, rF, nF, bF, kF⟩ := growK nB (hb.keep bB) bB.size hl c'
  obtain ⟨aG, cG, wG, rG, nG, bG, kG⟩ := growK nC (hb.keep bC) bC.size hl c'
  have xB : Box (World.drew ((w.alloc N).alloc E)) w.heap.size (.slice none 0 0) (.slice none 0 0) 26 := by rw [hN]; exact heap_alloc2_old w _ _
  have xC : Box (World.drew ((w.alloc E).alloc N)) (w.heap.size + 1) (.slice none 0 0) (.slice none 0 0) 26 := by rw [hN]; exact heap_alloc2_new w _ _
  have xE : Box (wA.alloc N) wA.heap.size (.slice none 0 0) (.slice none 0 0) 26 := by rw [hN]; exact box_new wA _ _ _
  have eL : (l ++ m).length = l.length + m.length := List.length_append
  refine ⟨aA, cA, wA, aB, cB, wB, aC, cC, wC, aD, cD, wD, aE, cE, wE, aF, cF, wF, aG, cG, wG, ⟨rA, rB, rC, ?_, ?_, ?_, ?_⟩, ⟨bA, bB, bC, bA.trans bD, bAN.trans bE, bB.trans bF, bC.trans bG⟩, ⟨nD, nE, nF, nG⟩, ⟨kE _ _ _ xE, kB _ _ _ xB, kF _ _ _ (kB _ _ _ xB), kC _ _ _ xC, kG _ _ _ (kC _ _ _ xC)⟩⟩
  · rw [← eL]; exact rD
  · rw [← eL]; exact rE
  · rw [← eL]; exact rF
  · rw [← eL]; exact rG
end Go.Proofs.Ythjjjnapcbkhjaa
namespace Go.Proofs.Ythjjjnapcbkhjaa
open Go.RowKit
set_option linter.unusedVariables false
/-- Begun in block b0; since the world wR nothing has turned but that block and what is newer. -/
structure OutQ (b0 : Nat) (wR w : World) (v : Value) (l : List Int) : Prop where
  row : NewInts b0 w v l
  own : v.ownBlock = some b0 ∨ ∃ o, v.ownBlock = some o ∧ wR.heap.size ≤ o
  win : Win b0 (b0 + 1) wR w
  lt : b0 < wR.heap.size
theorem OutQ.grow {b0 : Nat} {wR w : World} {v : Value} {l m : List Int} {a : Option Addr} (h : OutQ b0 wR w v l) (hm : Ints w a m) (hl : l.length + m.length ≤ 1048576) (c : Nat) :
    ∃ a' c' w', (Builtin.append_ #[24, 24] 24 #[v, .slice a m.length c]).run Try.prog w = .ok (.slice a' (l ++ m).length c') w' ∧ OutQ b0 wR w' (.slice a' (l ++ m).length c') (l ++ m) := by
  have hs := h.win.size
  have hl0 := h.lt
  obtain ⟨a', c', w', r, n, b, k, e⟩ := growX h.row hm (by omega) hl c
  refine ⟨a', c', w', r, n, ?_, ?_, hl0⟩
  · rcases e with e | e
    · rw [e]; exact h.own
    · exact .inr ⟨_, e, hs⟩
  · refine ⟨b.os.trans h.win.os, b.tape.trans h.win.tape, b.output.trans h.win.output, Nat.le_trans hs b.size, fun o ho hd => ?_⟩
    rw [k o (by omega) (fun eq => ?_), h.win.block o ho hd]
    rcases h.own with q | ⟨o', q, hq'⟩
    · rw [q] at eq; cases eq; omega
    · rw [q] at eq; cases eq; omega
theorem OutQ.drewN {b0 : Nat} {wR w : World} {v : Value} {l : List Int} (h : OutQ b0 wR w v l) (n : Nat) : OutQ b0 wR (w.drewN n) v l :=
  ⟨h.row.keep (bDrewN (Below.refl _ _) n), h.own, ⟨h.win.os, h.win.tape, h.win.output, h.win.size, h.win.block⟩, h.lt⟩
theorem OutQ.start {w WL wR : World} (hW : WL = w.alloc (.cells #[] 3)) (hb : Below WL.heap.size WL wR) : OutQ w.heap.size wR wR (.slice (some ⟨w.heap.size, 0, none⟩) 0 0) [] := by
  have hs := hb.size
  have hz : WL.heap.size = w.heap.size + 1 := by rw [hW]; simp
  refine ⟨?_, .inl rfl, Win.refl _ _ _, by omega⟩
  have n0 : NewInts w.heap.size WL (.slice (some ⟨w.heap.size, 0, none⟩) 0 0) [] := by rw [hW]; exact newInts_alloc w [] (Nat.le_refl _) (by simp)
  exact n0.keep hb
end Go.Proofs.Ythjjjnapcbkhjaa
