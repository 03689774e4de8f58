/-
  Plain arithmetic of Chapter 7 (operators): what Reduce and Scan answer; no Go in sight.
-/
import Derived.Test.YtbmkfmppcojcgaaMakeM
import Derived.Test.YtbmkfmppcojcgaaEachF2
import Derived.Test.YtbmkfmppcojcgaaSpecRows2
namespace Go.Proofs.Ytbmkfmppcojcgaa
set_option linter.unusedVariables false
/-- Rows, reduced from the last one on to the left: the first code, the numbers. -/
def redL (g : Int) (t : List Int) : List (List Int) → Int × List Int
  | [] => (0, [])
  | r :: rs => if rs = [] then (0, r) else if (redL g t rs).1 = 0 then (eachTwoC g t r t (redL g t rs).2, eachTwoD g t r t (redL g t rs).2) else ((redL g t rs).1, [])
theorem redL_one (g : Int) (t r : List Int) : redL g t [r] = (0, r) := by unfold redL; rw [if_pos rfl]
theorem redL_cons {g : Int} {t r : List Int} {rs : List (List Int)} (h : rs ≠ []) (h0 : (redL g t rs).1 = 0) : redL g t (r :: rs) = (eachTwoC g t r t (redL g t rs).2, eachTwoD g t r t (redL g t rs).2) := by
  rw [redL, if_neg h, if_pos h0]
theorem redL_stop {g : Int} {t r : List Int} {rs : List (List Int)} (h0 : (redL g t rs).1 ≠ 0) : redL g t (r :: rs) = ((redL g t rs).1, []) := by
  have h : rs ≠ [] := by rintro rfl; exact h0 rfl
  rw [redL, if_neg h, if_neg h0]
theorem redL_none {g : Int} {t : List Int} {R : List (List Int)} (h : (redL g t R).1 ≠ 0) : (redL g t R).2 = [] := by
  cases R with
  | nil => rfl
  | cons r rs =>
    by_cases hr : rs = []
    · subst hr; rw [redL_one] at h; exact absurd rfl h
    · by_cases h0 : (redL g t rs).1 = 0
      · rw [redL_cons hr h0] at h ⊢
        exact (eachTwo_bad h).2
      · rw [redL_stop h0]
theorem redL_left {g : Int} {t : List Int} (R : List (List Int)) (i : Nat) (h : (redL g t (R.drop i)).1 ≠ 0) : redL g t R = ((redL g t (R.drop i)).1, []) := by
  induction R generalizing i with
  | nil => rw [List.drop_nil] at h; exact absurd rfl h
  | cons r rs ih =>
    cases i with
    | zero => rw [List.drop_zero] at h ⊢; exact Prod.ext rfl (redL_none h)
    | succ i =>
      rw [List.drop_succ_cons] at h ⊢
      have q := ih i h
      have h1 : (redL g t rs).1 ≠ 0 := by rw [q]; exact h
      rw [redL_stop h1, q]
theorem drop_at {R : List (List Int)} {i : Nat} (h : i < R.length) : R.drop i = R.getD i [] :: R.drop (i + 1) := by
  rw [List.drop_eq_getElem_cons h]
  simp [List.getD, h]
/-- Two rows of one shape: the shape stays. -/
theorem row_shape {g : Int} {t r q : List Int} (h : eachTwoC g t r t q = 0) : eachTwoS g t r t q = t := by
  obtain ⟨hf, hS, _⟩ := two_facts h
  rw [hS]
  unfold fitS
  rw [if_pos hf]
  split <;> simp_all
theorem redL_ok {g : Int} {t : List Int} {R : List (List Int)} (hR : R ≠ []) (h : ∀ i, i < R.length → arrOk t (R.getD i []) = true) (h0 : (redL g t R).1 = 0) : arrOk t (redL g t R).2 = true := by
  cases R with
  | nil => exact absurd rfl hR
  | cons r rs =>
    by_cases hr : rs = []
    · subst hr; rw [redL_one]; exact h 0 (by simp)
    · by_cases h1 : (redL g t rs).1 = 0
      · rw [redL_cons hr h1] at h0 ⊢
        obtain ⟨_, _, _, q, _⟩ := two_facts h0
        rw [row_shape h0] at q
        exact q
      · rw [redL_stop h1] at h0; exact absurd h0 h1
/-- A list of arrays of one shape, as cells have them. -/
def flatR (t : List Int) (R : List (List Int)) : List (List Int) := R.flatMap (fun r => [t, r])
theorem flatR_len (t : List Int) (R : List (List Int)) : (flatR t R).length = 2 * R.length := by
  induction R with
  | nil => rfl
  | cons r rs ih => simp only [flatR, List.flatMap_cons, List.length_append, List.length_cons, List.length_nil] at ih ⊢; omega
theorem flatR_at (t : List Int) (R : List (List Int)) {i : Nat} (h : i < R.length) : (flatR t R).getD (2 * i) [] = t ∧ (flatR t R).getD (2 * i + 1) [] = R.getD i [] := by
  induction R generalizing i with
  | nil => simp at h
  | cons r rs ih =>
    have e : flatR t (r :: rs) = t :: r :: flatR t rs := by simp [flatR]
    cases i with
    | zero => rw [e]; simp
    | succ i =>
      have q := ih (i := i) (by simpa using h)
      rw [e, show 2 * (i + 1) = 2 * i + 1 + 1 by omega]
      simpa using q
theorem flatR_take (t : List Int) (R : List (List Int)) (k : Nat) : (flatR t R).take (2 * k) = flatR t (R.take k) := by
  induction R generalizing k with
  | nil => simp [flatR]
  | cons r rs ih =>
    have e : ∀ q : List (List Int), flatR t (r :: q) = t :: r :: flatR t q := fun q => by simp [flatR]
    cases k with
    | zero => simp [flatR]
    | succ k => rw [List.take_succ_cons, e, e, show 2 * (k + 1) = 2 * k + 1 + 1 by omega, List.take_succ_cons, List.take_succ_cons, ih]
/-- The rows of an array. -/
def rowsD (s d : List Int) : List (List Int) := (List.range (rowsN s)).map (rowAt s d)
theorem rowsD_len (s d : List Int) : (rowsD s d).length = rowsN s := by simp [rowsD]
theorem rowsD_at (s d : List Int) {i : Nat} (h : i < rowsN s) : (rowsD s d).getD i [] = rowAt s d i := by simp [rowsD, h]
theorem rowsF_flat {s d : List Int} (ho : arrOk s d = true) (hs : s ≠ []) : rowsF s d = flatR (s.drop 1) (rowsD s d) := by
  unfold rowsF flatR rowsD
  rw [if_pos ⟨ho, hs⟩, List.flatMap_map]
  rfl
theorem rowsD_ok {s d : List Int} (ho : arrOk s d = true) (hs : s ≠ []) : ∀ i, i < (rowsD s d).length → arrOk (s.drop 1) ((rowsD s d).getD i []) = true := by
  intro i hi
  rw [rowsD_len] at hi
  rw [rowsD_at s d hi]
  cases s with
  | nil => exact absurd rfl hs
  | cons n0 t =>
    have hh := head_bd ho
    simp only [List.getD_cons_zero] at hh
    have hn : i < n0.toNat := by simpa [rowsN] using hi
    obtain ⟨p0, p1, p2⟩ := tail_size ho (by omega)
    have e : (n0 :: t).drop 1 = t := rfl
    rw [e]
    obtain ⟨N, hN⟩ : ∃ N : Nat, sizeV t = N := ⟨(sizeV t).toNat, by omega⟩
    have eN : rowN (n0 :: t) = N := by simp [rowN, hN]
    rw [hN] at p1
    have hM : i * N + N ≤ d.length := by
      have q1 : ((i : Int) + 1) * N ≤ n0 * N := Int.mul_le_mul_of_nonneg_right (by omega) (by omega)
      rw [p1, Int.add_mul, Int.one_mul] at q1
      have q2 : ((i * N : Nat) : Int) = (i : Int) * N := by simp
      omega
    have hl : ((d.drop (i * N)).take N).length = N := by simp; omega
    simp only [arrOk, Bool.and_eq_true, decide_eq_true_eq, List.all_eq_true] at ho ⊢
    unfold rowAt
    rw [eN]
    refine ⟨by rw [hN, hl], fun x hx => ho.2 x (List.mem_of_mem_drop (List.mem_of_mem_take hx))⟩
/-- What Scan answers. -/
def scanK (g : Int) (s d : List Int) (i : Nat) : Int × List Int := redL g (s.drop 1) ((rowsD s d).take (i + 1))
def scanC (g : Int) (s d : List Int) : Int := if arrOk s d = true ∧ sign2 g = true then (if s = [] then 0 else firstC (fun i => (scanK g s d i).1) (rowsN s)) else 1
def scanD (g : Int) (s d : List Int) : List Int := if s = [] then d else (List.range (rowsN s)).flatMap (fun i => (scanK g s d i).2)
def scanR (g : Int) (s d : List Int) : Int × List Int × List Int := mkR (scanC g s d) s (scanD g s d)
theorem take_getD {R : List (List Int)} {k i : Nat} (h : i < (R.take k).length) : (R.take k).getD i [] = R.getD i [] := by
  have h2 : i < k ∧ i < R.length := by rw [List.length_take] at h; omega
  simp [List.getD, h2.1]
theorem take_ok {t : List Int} {R : List (List Int)} (h : ∀ i, i < R.length → arrOk t (R.getD i []) = true) (k : Nat) : ∀ i, i < (R.take k).length → arrOk t ((R.take k).getD i []) = true := by
  intro i hi
  rw [take_getD hi]
  exact h i (by rw [List.length_take] at hi; omega)
theorem redL_len {g : Int} {t : List Int} {R : List (List Int)} (h : ∀ i, i < R.length → arrOk t (R.getD i []) = true) : (redL g t R).2.length ≤ 300 := by
  by_cases hR : R = []
  · subst hR; simp [redL]
  · by_cases h0 : (redL g t R).1 = 0
    · exact arrOk_len (redL_ok hR h h0)
    · rw [redL_none h0]; simp
end Go.Proofs.Ytbmkfmppcojcgaa
