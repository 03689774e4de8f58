/-
  Several texts, one behind the other: ReduceM, InnerM, OuterM.
-/
import Derived.Test.YtnkacfgbkfkhdaaGreatY5
import Derived.Test.YtnkacfgbkfkhdaaGreatY10
import Derived.Test.YtnkacfgbkfkhdaaGreatY11
namespace Go.Proofs.YtnkacfgbkfkhdaaGreat
set_option linter.unusedVariables false
/-- Rows, reduced from the last one on to the left: the first code, the numbers. -/
def redL (g : Int) (t : List Int) : List (List Int) → Int × List Int
  | [] => (0, [])
  | r :: rs => if rs = [] then (0, r) else if (redL g t rs).1 = 0 then (eachTwoC g t r t (redL g t rs).2, eachTwoD g t r t (redL g t rs).2) else ((redL g t rs).1, [])
theorem redL_one (g : Int) (t r : List Int) : redL g t [r] = (0, r) := by unfold redL; rw [if_pos rfl]
theorem redL_cons {g : Int} {t r : List Int} {rs : List (List Int)} (h : rs ≠ []) (h0 : (redL g t rs).1 = 0) : redL g t (r :: rs) = (eachTwoC g t r t (redL g t rs).2, eachTwoD g t r t (redL g t rs).2) := by
  rw [redL, if_neg h, if_pos h0]
theorem redL_stop {g : Int} {t r : List Int} {rs : List (List Int)} (h0 : (redL g t rs).1 ≠ 0) : redL g t (r :: rs) = ((redL g t rs).1, []) := by
  have h : rs ≠ [] := by rintro rfl; exact h0 rfl
  rw [redL, if_neg h, if_neg h0]
theorem redL_none {g : Int} {t : List Int} {R : List (List Int)} (h : (redL g t R).1 ≠ 0) : (redL g t R).2 = [] := by
  cases R with
  | nil => rfl
  | cons r rs =>
    by_cases hr : rs = []
    · subst hr; rw [redL_one] at h; exact absurd rfl h
    · by_cases h0 : (redL g t rs).1 = 0
      · rw [redL_cons hr h0] at h ⊢
        exact (eachTwo_bad h).2
      · rw [redL_stop h0]
theorem redL_left {g : Int} {t : List Int} (R : List (List Int)) (i : Nat) (h : (redL g t (R.drop i)).1 ≠ 0) : redL g t R = ((redL g t (R.drop i)).1, []) := by
  induction R generalizing i with
  | nil => rw [List.drop_nil] at h; exact absurd rfl h
  | cons r rs ih =>
    cases i with
    | zero => rw [List.drop_zero] at h ⊢; exact Prod.ext rfl (redL_none h)
    | succ i =>
      rw [List.drop_succ_cons] at h ⊢
      have q := ih i h
      have h1 : (redL g t rs).1 ≠ 0 := by rw [q]; exact h
      rw [redL_stop h1, q]
theorem drop_at {R : List (List Int)} {i : Nat} (h : i < R.length) : R.drop i = R.getD i [] :: R.drop (i + 1) := by
  rw [List.drop_eq_getElem_cons h]
  simp [List.getD, h]
/-- Two rows of one shape: the shape stays. -/
theorem row_shape {g : Int} {t r q : List Int} (h : eachTwoC g t r t q = 0) : eachTwoS g t r t q = t := by
  obtain ⟨hf, hS, _⟩ := two_facts h
  rw [hS]
  unfold fitS
  rw [if_pos hf]
  split <;> simp_all
theorem redL_ok {g : Int} {t : List Int} {R : List (List Int)} (hR : R ≠ []) (h : ∀ i, i < R.length → arrOk t (R.getD i []) = true) (h0 : (redL g t R).1 = 0) : arrOk t (redL g t R).2 = true := by
  cases R with
  | nil => exact absurd rfl hR
  | cons r rs =>
    by_cases hr : rs = []
    · subst hr; rw [redL_one]; exact h 0 (by simp)
    · by_cases h1 : (redL g t rs).1 = 0
      · rw [redL_cons hr h1] at h0 ⊢
        obtain ⟨_, _, _, q, _⟩ := two_facts h0
        rw [row_shape h0] at q
        exact q
      · rw [redL_stop h1] at h0; exact absurd h0 h1
/-- A list of arrays of one shape, as cells have them. -/
def flatR (t : List Int) (R : List (List Int)) : List (List Int) := R.flatMap (fun r => [t, r])
theorem flatR_len (t : List Int) (R : List (List Int)) : (flatR t R).length = 2 * R.length := by
  induction R with
  | nil => rfl
  | cons r rs ih => simp only [flatR, List.flatMap_cons, List.length_append, List.length_cons, List.length_nil] at ih ⊢; omega
theorem flatR_at (t : List Int) (R : List (List Int)) {i : Nat} (h : i < R.length) : (flatR t R).getD (2 * i) [] = t ∧ (flatR t R).getD (2 * i + 1) [] = R.getD i [] := by
  induction R generalizing i with
  | nil => simp at h
  | cons r rs ih =>
    have e : flatR t (r :: rs) = t :: r :: flatR t rs := by simp [flatR]
    cases i with
    | zero => rw [e]; simp
    | succ i =>
      have q := ih (i := i) (by simpa using h)
      rw [e, show 2 * (i + 1) = 2 * i + 1 + 1 by omega]
      simpa using q
theorem flatR_take (t : List Int) (R : List (List Int)) (k : Nat) : (flatR t R).take (2 * k) = flatR t (R.take k) := by
  induction R generalizing k with
  | nil => simp [flatR]
  | cons r rs ih =>
    have e : ∀ q : List (List Int), flatR t (r :: q) = t :: r :: flatR t q := fun q => by simp [flatR]
    cases k with
    | zero => simp [flatR]
    | succ k => rw [List.take_succ_cons, e, e, show 2 * (k + 1) = 2 * k + 1 + 1 by omega, List.take_succ_cons, List.take_succ_cons, ih]
/-- The rows of an array. -/
def rowsD (s d : List Int) : List (List Int) := (List.range (rowsN s)).map (rowAt s d)
theorem rowsD_len (s d : List Int) : (rowsD s d).length = rowsN s := by simp [rowsD]
theorem rowsD_at (s d : List Int) {i : Nat} (h : i < rowsN s) : (rowsD s d).getD i [] = rowAt s d i := by simp [rowsD, h]
theorem rowsF_flat {s d : List Int} (ho : arrOk s d = true) (hs : s ≠ []) : rowsF s d = flatR (s.drop 1) (rowsD s d) := by
  unfold rowsF flatR rowsD
  rw [if_pos ⟨ho, hs⟩, List.flatMap_map]
  rfl
theorem rowsD_ok {s d : List Int} (ho : arrOk s d = true) (hs : s ≠ []) : ∀ i, i < (rowsD s d).length → arrOk (s.drop 1) ((rowsD s d).getD i []) = true := by
  intro i hi
  rw [rowsD_len] at hi
  rw [rowsD_at s d hi]
  cases s with
  | nil => exact absurd rfl hs
  | cons n0 t =>
    have hh := head_bd ho
    simp only [List.getD_cons_zero] at hh
    have hn : i < n0.toNat := by simpa [rowsN] using hi
    obtain ⟨p0, p1, p2⟩ := tail_size ho (by omega)
    have e : (n0 :: t).drop 1 = t := rfl
    rw [e]
    obtain ⟨N, hN⟩ : ∃ N : Nat, sizeV t = N := ⟨(sizeV t).toNat, by omega⟩
    have eN : rowN (n0 :: t) = N := by simp [rowN, hN]
    rw [hN] at p1
    have hM : i * N + N ≤ d.length := by
      have q1 : ((i : Int) + 1) * N ≤ n0 * N := Int.mul_le_mul_of_nonneg_right (by omega) (by omega)
      rw [p1, Int.add_mul, Int.one_mul] at q1
      have q2 : ((i * N : Nat) : Int) = (i : Int) * N := by simp
      omega
    have hl : ((d.drop (i * N)).take N).length = N := by simp; omega
    simp only [arrOk, Bool.and_eq_true, decide_eq_true_eq, List.all_eq_true] at ho ⊢
    unfold rowAt
    rw [eN]
    refine ⟨by rw [hN, hl], fun x hx => ho.2 x (List.mem_of_mem_drop (List.mem_of_mem_take hx))⟩
/-- What Scan answers. -/
def scanK (g : Int) (s d : List Int) (i : Nat) : Int × List Int := redL g (s.drop 1) ((rowsD s d).take (i + 1))
def scanC (g : Int) (s d : List Int) : Int := if arrOk s d = true ∧ sign2 g = true then (if s = [] then 0 else firstC (fun i => (scanK g s d i).1) (rowsN s)) else 1
def scanD (g : Int) (s d : List Int) : List Int := if s = [] then d else (List.range (rowsN s)).flatMap (fun i => (scanK g s d i).2)
def scanR (g : Int) (s d : List Int) : Int × List Int × List Int := mkR (scanC g s d) s (scanD g s d)
theorem take_getD {R : List (List Int)} {k i : Nat} (h : i < (R.take k).length) : (R.take k).getD i [] = R.getD i [] := by
  have h2 : i < k ∧ i < R.length := by rw [List.length_take] at h; omega
  simp [List.getD, h2.1]
theorem take_ok {t : List Int} {R : List (List Int)} (h : ∀ i, i < R.length → arrOk t (R.getD i []) = true) (k : Nat) : ∀ i, i < (R.take k).length → arrOk t ((R.take k).getD i []) = true := by
  intro i hi
  rw [take_getD hi]
  exact h i (by rw [List.length_take] at hi; omega)
theorem redL_len {g : Int} {t : List Int} {R : List (List Int)} (h : ∀ i, i < R.length → arrOk t (R.getD i []) = true) : (redL g t R).2.length ≤ 300 := by
  by_cases hR : R = []
  · subst hR; simp [redL]
  · by_cases h0 : (redL g t R).1 = 0
    · exact arrOk_len (redL_ok hR h h0)
    · rw [redL_none h0]; simp
end Go.Proofs.YtnkacfgbkfkhdaaGreat
namespace Go.Proofs.YtnkacfgbkfkhdaaGreat
set_option linter.unusedVariables false
/-- Two lists, number by number: the first code, the numbers, each as an array of rank 0. -/
def pairC (g : Int) (x y : List Int) (n : Nat) : Int := firstC (fun i => (twoV g (x.getD i 0) (y.getD i 0)).2) n
def pairD (g : Int) (x y : List Int) (n : Nat) : List Int := (List.range n).map (fun i => (twoV g (x.getD i 0) (y.getD i 0)).1)
def pairR (g : Int) (x y : List Int) (n : Nat) : List (List Int) := (List.range n).map (fun i => [(twoV g (x.getD i 0) (y.getD i 0)).1])
theorem pairR_len (g : Int) (x y : List Int) (n : Nat) : (pairR g x y n).length = n := by simp [pairR]
theorem pairR_at (g : Int) (x y : List Int) {n i : Nat} (h : i < n) : (pairR g x y n).getD i [] = [(twoV g (x.getD i 0) (y.getD i 0)).1] := by simp [pairR, List.getD, h]
/-- One number of an inner product, and its code. -/
def cellR (f g : Int) (x y : List Int) (n : Nat) : Int × Int :=
  if pairC g x y n = 0 then (if n = 0 then ((neu f).1, 0) else if (redL f [] (pairR g x y n)).1 = 0 then ((redL f [] (pairR g x y n)).2.getD 0 0, 0) else (0, (redL f [] (pairR g x y n)).1)) else (0, pairC g x y n)
theorem cellR_stop {f g : Int} {x y : List Int} {n k : Nat} (hk : k < n) (h : pairC g x y k = 0) (hc : (twoV g (x.getD k 0) (y.getD k 0)).2 ≠ 0) : cellR f g x y n = (0, (twoV g (x.getD k 0) (y.getD k 0)).2) := by
  have q : pairC g x y n = (twoV g (x.getD k 0) (y.getD k 0)).2 := firstC_stop h hc hk
  unfold cellR
  rw [q, if_neg hc]
theorem cellR_none (f g : Int) (x y : List Int) : cellR f g x y 0 = ((neu f).1, 0) := by
  unfold cellR
  rw [if_pos (show pairC g x y 0 = 0 from rfl), if_pos rfl]
theorem cellR_bad {f g : Int} {x y : List Int} {n : Nat} (h : pairC g x y n = 0) (hn : n ≠ 0) (hc : (redL f [] (pairR g x y n)).1 ≠ 0) : cellR f g x y n = (0, (redL f [] (pairR g x y n)).1) := by
  unfold cellR
  rw [if_pos h, if_neg hn, if_neg hc]
theorem one_ok {z : Int} (h : ok z = true) : arrOk [] [z] = true := by simp [arrOk, h, sizeV_0']
theorem pair_ok {g : Int} {x y : List Int} {n : Nat} (h : pairC g x y n = 0) : ∀ i, i < (pairR g x y n).length → arrOk [] ((pairR g x y n).getD i []) = true := by
  intro i hi
  rw [pairR_len] at hi
  rw [pairR_at g x y hi]
  exact one_ok (two_ok (firstC_all h i hi))
theorem cellR_good {f g : Int} {x y : List Int} {n : Nat} (h : pairC g x y n = 0) (hn : n ≠ 0) (hc : (redL f [] (pairR g x y n)).1 = 0) : ∃ z, (redL f [] (pairR g x y n)).2 = [z] ∧ cellR f g x y n = (z, 0) := by
  have q := redL_ok (g := f) (t := []) (R := pairR g x y n) (by intro e; have := congrArg List.length e; rw [pairR_len] at this; simp at this; omega) (pair_ok h) hc
  have z := arrOk_size q
  rw [sizeV_0'] at z
  obtain ⟨z, hz⟩ : ∃ z, (redL f [] (pairR g x y n)).2 = [z] := by
    cases e : (redL f [] (pairR g x y n)).2 with
    | nil => rw [e] at z; simp at z
    | cons a l =>
      cases l with
      | nil => exact ⟨a, rfl⟩
      | cons b m => rw [e] at z; simp at z; omega
  refine ⟨z, hz, ?_⟩
  unfold cellR
  rw [if_pos h, if_neg hn, if_pos hc, hz]
  rfl
end Go.Proofs.YtnkacfgbkfkhdaaGreat
namespace Go.Proofs.YtnkacfgbkfkhdaaGreat
set_option linter.unusedVariables false
/-- One number with each of a list: the first code, the numbers. -/
def spreadC (g x : Int) (e : List Int) : Int := firstC (fun j => (twoV g x (e.getD j 0)).2) e.length
def spreadD (g x : Int) (e : List Int) (n : Nat) : List Int := (List.range n).map (fun j => (twoV g x (e.getD j 0)).1)
/-- The first n numbers of d with each of e. -/
def outC (g : Int) (d e : List Int) (n : Nat) : Int := firstC (fun i => spreadC g (d.getD i 0) e) n
def outD (g : Int) (d e : List Int) (n : Nat) : List Int := (List.range n).flatMap (fun i => spreadD g (d.getD i 0) e e.length)
def outerC (g : Int) (s d t e : List Int) : Int := if arrOk s d = true ∧ arrOk t e = true ∧ sign2 g = true then (if 3 < s.length + t.length then 4 else if sizeV (s ++ t) < 0 then 6 else outC g d e d.length) else 1
def outerR (g : Int) (s d t e : List Int) : Int × List Int × List Int := mkR (outerC g s d t e) (s ++ t) (outD g d e d.length)
theorem outerR_bad {g : Int} {s d t e : List Int} (h : ¬ (arrOk s d = true ∧ arrOk t e = true ∧ sign2 g = true)) : outerR g s d t e = (1, [], []) := by
  unfold outerR; rw [show outerC g s d t e = 1 from by unfold outerC; rw [if_neg h]]; rfl
theorem outerR_told {g : Int} {s d t e : List Int} (h1 : arrOk s d = true) (h2 : arrOk t e = true) (h3 : sign2 g = true) :
    outerR g s d t e = if 3 < s.length + t.length then (4, [], []) else if sizeV (s ++ t) < 0 then (6, [], []) else mkR (outC g d e d.length) (s ++ t) (outD g d e d.length) := by
  unfold outerR outerC
  rw [if_pos ⟨h1, h2, h3⟩]
  split
  · rfl
  · split <;> rfl
theorem spreadD_len (g x : Int) (e : List Int) (n : Nat) : (spreadD g x e n).length = n := by simp [spreadD]
theorem spreadD_succ (g x : Int) (e : List Int) (n : Nat) : spreadD g x e (n + 1) = spreadD g x e n ++ [(twoV g x (e.getD n 0)).1] := by
  unfold spreadD; rw [List.range_succ, List.map_append]; rfl
theorem outD_succ (g : Int) (d e : List Int) (n : Nat) : outD g d e (n + 1) = outD g d e n ++ spreadD g (d.getD n 0) e e.length := by
  unfold outD; rw [List.range_succ, List.flatMap_append]; simp
theorem outD_len (g : Int) (d e : List Int) (n : Nat) : (outD g d e n).length = n * e.length := by
  induction n with
  | zero => simp [outD]
  | succ n ih => rw [outD_succ, List.length_append, ih, spreadD_len, Nat.succ_mul]
/-- A number of rank 0 and an array, element by element. -/
theorem each_spread {g x : Int} {t e : List Int} (hx : ok x = true) (h2 : arrOk t e = true) (h3 : sign2 g = true) :
    eachTwoC g [] [x] t e = spreadC g x e ∧ eachTwoS g [] [x] t e = (if spreadC g x e = 0 then t else []) ∧ eachTwoD g [] [x] t e = (if spreadC g x e = 0 then spreadD g x e e.length else []) := by
  have h1 : arrOk [] [x] = true := by simp [arrOk, hx, sizeV_0']
  have hf : fitC [] [x] t e = 0 := by unfold fitC; rw [if_pos ⟨h1, h2⟩, if_pos (.inl rfl)]
  have hS : fitS [] [x] t e = t := by unfold fitS; rw [if_pos hf, if_pos rfl]
  have z2 := arrOk_size h2
  have hN : eachN [] [x] t e = e.length := by unfold eachN; rw [hS]; omega
  have hn : ∀ i, i < e.length → numOf t e i = e.getD i 0 := by
    intro i hi
    unfold numOf
    by_cases ht : t = []
    · subst ht
      rw [sizeV_0'] at z2
      rw [if_pos rfl, show i = 0 by omega]
    · rw [if_neg ht]
  have hm : ∀ i, numOf [] [x] i = x := fun i => by unfold numOf; simp
  have hC : eachTwoC g [] [x] t e = spreadC g x e := by
    unfold eachTwoC spreadC
    rw [if_pos ⟨h1, h2, h3⟩, if_pos hf, hN]
    exact firstC_eq fun i hi => by rw [hm, hn i hi]
  refine ⟨hC, ?_, ?_⟩
  · unfold eachTwoS; rw [hC, hS]
  · unfold eachTwoD spreadD
    rw [hC, hN]
    split
    · apply List.map_congr_left
      intro i hi
      rw [hm, hn i (by simpa using hi)]
    · rfl
end Go.Proofs.YtnkacfgbkfkhdaaGreat
