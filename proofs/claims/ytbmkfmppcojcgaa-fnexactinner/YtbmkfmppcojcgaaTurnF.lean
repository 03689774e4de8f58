/-
  Plain: what is turned, flipped or rotated back is as it was.
-/
import Derived.Test.YtbmkfmppcojcgaaRotF
import Derived.Test.YtbmkfmppcojcgaaFlipM
namespace Go.Proofs.Ytbmkfmppcojcgaa
set_option linter.unusedVariables false
theorem rows_join (d : List Int) (N : Nat) : ∀ n, (List.range n).flatMap (fun i => (d.drop (i * N)).take N) = d.take (n * N) := by
  intro n
  induction n with
  | zero => simp
  | succ n ih =>
    rw [List.range_succ, List.flatMap_append, ih, Nat.add_mul, Nat.one_mul, List.take_add]
    simp
theorem all_rows {s d : List Int} (ho : arrOk s d = true) (hs : s ≠ []) : (List.range (rowsN s)).flatMap (fun i => rowAt s d i) = d := by
  have h := rows_join d (rowN s) (rowsN s)
  rw [rows5 ho hs, List.take_length] at h
  exact h
/-- Rows chosen by a rule: what comes is right, and its rows are those. -/
theorem chosen_rows {s d : List Int} (ho : arrOk s d = true) (hs : s ≠ []) (σ : Nat → Nat) (hσ : ∀ i, i < rowsN s → σ i < rowsN s) :
    arrOk s ((List.range (rowsN s)).flatMap (fun i => rowAt s d (σ i))) = true ∧ ∀ k, k < rowsN s → rowAt s ((List.range (rowsN s)).flatMap (fun i => rowAt s d (σ i))) k = rowAt s d (σ k) := by
  have hl : ∀ i, i < rowsN s → (rowAt s d (σ i)).length = rowN s := fun i hi => rowAt_len ho hs (hσ i hi)
  constructor
  · have hz := arrOk_size ho
    have hd : d.all ok = true := by unfold arrOk at ho; rw [Bool.and_eq_true] at ho; exact ho.2
    have hlen : ((List.range (rowsN s)).flatMap (fun i => rowAt s d (σ i))).length = d.length := by
      by_cases h0 : rowsN s = 0
      · have := rows5 ho hs
        rw [h0] at this ⊢
        simp at this ⊢
        omega
      · rw [← rows5 ho hs]; exact (flat_at 0 (rowsN s) (by omega) hl).2
    unfold arrOk
    rw [Bool.and_eq_true, hlen]
    refine ⟨by simpa using hz, ?_⟩
    rw [List.all_eq_true] at hd ⊢
    intro y hy
    rw [List.mem_flatMap] at hy
    obtain ⟨i, _, hy⟩ := hy
    exact hd y (List.mem_of_mem_drop (List.mem_of_mem_take hy))
  · intro k hk
    exact (flat_at k (rowsN s) hk hl).1
theorem flat_ext {n : Nat} {f g : Nat → List Int} (h : ∀ i, i < n → f i = g i) : (List.range n).flatMap f = (List.range n).flatMap g := by
  induction n with
  | zero => rfl
  | succ n ih => rw [List.range_succ, List.flatMap_append, List.flatMap_append, ih (fun i hi => h i (by omega))]; simp [h n (by omega)]
theorem turn_ok {s d : List Int} (ho : arrOk s d = true) : arrOk s (turnD s d) = true ∧ turnD s (turnD s d) = d := by
  by_cases hs : s = []
  · unfold turnD; rw [if_pos hs, if_pos hs]; exact ⟨ho, rfl⟩
  · have e : ∀ x, turnD s x = (List.range (rowsN s)).flatMap (fun i => rowAt s x (rowsN s - 1 - i)) := fun x => by unfold turnD; rw [if_neg hs]
    obtain ⟨q1, q2⟩ := chosen_rows ho hs (fun i => rowsN s - 1 - i) (fun i hi => by omega)
    rw [← e d] at q1 q2
    refine ⟨q1, ?_⟩
    rw [e (turnD s d), flat_ext (g := fun i => rowAt s d i) (fun i hi => by rw [q2 _ (by omega)]; congr 1; omega)]
    exact all_rows ho hs
theorem rot_ok {t f : List Int} (x : Int) (ho : arrOk t f = true) : arrOk t (rotateD x t f) = true ∧ rotateD (0 - x) t (rotateD x t f) = f := by
  by_cases hn : t = [] ∨ t.getD 0 0 = 0
  · rw [rot_none hn, rot_none hn]; exact ⟨ho, rfl⟩
  · have hs : t ≠ [] := fun h => hn (.inl h)
    have hb := head_bd ho
    have h0 : t.getD 0 0 ≠ 0 := fun h => hn (.inr h)
    have hp : 0 < rowsN t := by unfold rowsN; omega
    have e : ∀ x f, rotateD x t f = (List.range (rowsN t)).flatMap (fun i => rowAt t f ((i + rotateBy x (rowsN t)) % rowsN t)) := fun x f => by unfold rotateD; rw [if_neg hn]
    obtain ⟨q1, q2⟩ := chosen_rows ho hs (fun i => (i + rotateBy x (rowsN t)) % rowsN t) (fun i hi => Nat.mod_lt _ hp)
    rw [← e x f] at q1 q2
    refine ⟨q1, ?_⟩
    rw [e (0 - x) (rotateD x t f), flat_ext (g := fun i => rowAt t f i) (fun i hi => by
      rw [q2 _ (Nat.mod_lt _ hp)]
      congr 1
      unfold rotateBy
      generalize rowsN t = n at *
      have a1 := Int.emod_nonneg x (b := (n : Int)) (by omega)
      have a2 := Int.emod_nonneg (0 - x) (b := (n : Int)) (by omega)
      have e1 : ((x % (n : Int)).toNat : Int) = x % (n : Int) := Int.toNat_of_nonneg a1
      have e2 : (((0 - x) % (n : Int)).toNat : Int) = (0 - x) % (n : Int) := Int.toNat_of_nonneg a2
      have key : (((((i + ((0 - x) % (n : Int)).toNat) % n + (x % (n : Int)).toNat) % n : Nat)) : Int) = (i : Int) := by
        push_cast
        rw [e1, e2]
        rw [Int.emod_add_emod, Int.add_emod_emod]
        rw [show (i : Int) + (0 - x) % (n : Int) + x = (i + x) + (0 - x) % (n : Int) by omega, Int.add_emod_emod]
        rw [show (i : Int) + x + (0 - x) = (i : Int) by omega]
        exact Int.emod_eq_of_lt (by omega) (by omega)
      omega)]
    exact all_rows ho hs
theorem flip_ok {s d : List Int} (ho : arrOk s d = true) : arrOk s.reverse (flipD s d) = true ∧ flipD s.reverse (flipD s d) = d := by
  have hz := arrOk_size ho
  have hsh := arrOk_shape ho
  have hr := size_rev hsh
  have hd : d.all ok = true := by unfold arrOk at ho; rw [Bool.and_eq_true] at ho; exact ho.2
  have hlen : (flipD s d).length = d.length := by simp [flipD]
  have hq : arrOk s.reverse (flipD s d) = true := by
    unfold arrOk
    rw [Bool.and_eq_true, hlen, hr]
    refine ⟨by simpa using hz, ?_⟩
    rw [List.all_eq_true] at hd ⊢
    intro y hy
    unfold flipD at hy
    rw [List.mem_map] at hy
    obtain ⟨i, hi, rfl⟩ := hy
    rw [List.mem_range] at hi
    obtain ⟨p0, p1, _⟩ := flip_place ho i hi
    have hlt : (placeV s (indexV s.reverse (i : Int)).reverse).toNat < d.length := by omega
    rw [List.getD_eq_getElem?_getD, List.getElem?_eq_getElem hlt]
    exact hd _ (List.getElem_mem hlt)
  refine ⟨hq, ?_⟩
  apply List.ext_getElem
  · simp [flipD]
  · intro i h1 h2
    have hi : i < (flipD s d).length := by rw [hlen]; exact h2
    obtain ⟨p0, p1, _⟩ := flip_place hq i hi
    rw [List.reverse_reverse] at p0 p1
    obtain ⟨P, hP⟩ : ∃ P : Nat, placeV s.reverse (indexV s (i : Int)).reverse = (P : Int) := ⟨(placeV s.reverse (indexV s (i : Int)).reverse).toNat, by omega⟩
    have hPl : P < d.length := by rw [hlen] at p1; omega
    have e1 : (flipD s.reverse (flipD s d))[i] = (flipD s d).getD P 0 := by
      simp only [flipD, List.getElem_map, List.getElem_range, List.reverse_reverse, hP, Int.toNat_natCast]
    have e2 : (flipD s d).getD P 0 = d.getD (placeV s (indexV s.reverse (P : Int)).reverse).toNat 0 := by
      simp [flipD, hPl]
    have e3 : indexV s.reverse (P : Int) = (indexV s (i : Int)).reverse := by
      rw [← hP]
      exact index_of_place (by omega)
    have e4 := (place_of_index (s := s) (p := (i : Int)) hsh (by omega) (by omega)).2
    rw [e1, e2, e3, List.reverse_reverse, e4, Int.toNat_natCast, List.getD_eq_getElem?_getD, List.getElem?_eq_getElem h2]
    rfl
end Go.Proofs.Ytbmkfmppcojcgaa
