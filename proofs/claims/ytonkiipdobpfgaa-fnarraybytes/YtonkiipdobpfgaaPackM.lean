/-
  Plain: the bytes of code; no Go in sight.
-/
import Derived.Test.YtonkiipdobpfgaaCodeM
namespace Go.Proofs.Ytonkiipdobpfgaa
/-- A number's eight bytes, the lowest first. -/
def num8 (n : Int) : List Int := (List.range 8).map fun (j : Nat) => n / 256 ^ j % 256
def numsBy (l : List Int) : List Int := l.flatMap fun x => num8 (x + 1000000000000)
def packI (e : Nat → Int) (l : List Int) : List Int := [e 0 % 256, e 1 % 256, e 2 % 256, e 3 % 256, e 4 % 256] ++ if e 0 = 1 then [(l.length : Int) % 256, (l.length : Int) / 256 % 256] ++ numsBy l else []
def packN (E : Nat → Nat → Int) (N : Nat → List Int) : Nat → List Int
  | 0 => []
  | k + 1 => packN E N k ++ packI (E k) (N k)
def packL (n : Nat) (E : Nat → Nat → Int) (N : Nat → List Int) : List Int := (n : Int) :: packN E N n
theorem num8_len (n : Int) : (num8 n).length = 8 := by simp [num8]
theorem numsBy_len (l : List Int) : (numsBy l).length = 8 * l.length := by
  induction l with
  | nil => rfl
  | cons x l ih => simp only [numsBy, List.flatMap_cons, List.length_append, num8_len, List.length_cons] at ih ⊢; omega
theorem num8_take (n : Int) {j : Nat} (h : j < 8) : (num8 n).take (j + 1) = (num8 n).take j ++ [n / 256 ^ j % 256] := by
  rw [List.take_succ_eq_append_getElem (by rw [num8_len]; exact h)]
  simp [num8]
theorem numsBy_take {l : List Int} {k : Nat} (h : k < l.length) : numsBy (l.take (k + 1)) = numsBy (l.take k) ++ num8 (l.getD k 0 + 1000000000000) := by
  have e : l.getD k 0 = l[k] := by simp [List.getD_eq_getElem?_getD, h]
  rw [List.take_succ_eq_append_getElem h, e]
  unfold numsBy
  rw [List.flatMap_append]
  simp only [List.flatMap_cons, List.flatMap_nil, List.append_nil]
theorem insB_len {e : Nat → Int} {l : List Int} (h : insB e l = true) : l.length ≤ 300 ∧ (e 0 = 1 → l.all ok = true) := by
  unfold insB at h
  by_cases h1 : e 0 = 1
  · rw [if_pos h1] at h
    simp only [Bool.and_eq_true, numsB, decide_eq_true_eq] at h
    exact ⟨h.2.1.2, fun _ => h.2.2⟩
  · rw [if_neg h1] at h
    refine ⟨?_, fun e => absurd e h1⟩
    split at h
    · simp only [Bool.and_eq_true, decide_eq_true_eq] at h; omega
    · split at h
      · simp only [Bool.and_eq_true, decide_eq_true_eq] at h; omega
      · split at h
        · simp only [Bool.and_eq_true, decide_eq_true_eq] at h; omega
        · exact absurd h (by decide)
theorem packI_len {e : Nat → Int} {l : List Int} (h : l.length ≤ 300) : (packI e l).length ≤ 2407 := by
  unfold packI
  split
  · simp only [List.length_append, List.length_cons, List.length_nil, numsBy_len]; omega
  · simp
theorem packN_len {E : Nat → Nat → Int} {N : Nat → List Int} {n : Nat} (h : ∀ i, i < n → (N i).length ≤ 300) {k : Nat} (hk : k ≤ n) : (packN E N k).length ≤ k * 2407 := by
  induction k with
  | zero => simp [packN]
  | succ k ih =>
    have := ih (by omega)
    have := packI_len (e := E k) (h k (by omega))
    simp only [packN, List.length_append]
    omega
end Go.Proofs.Ytonkiipdobpfgaa
