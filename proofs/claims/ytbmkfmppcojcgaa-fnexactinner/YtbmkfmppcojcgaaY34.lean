/-
  Several texts, one behind the other: ScanN, MakeQ, ImplMake9.
-/
import Derived.Test.YtbmkfmppcojcgaaY12
import Derived.Test.YtbmkfmppcojcgaaY25
import Derived.Test.YtbmkfmppcojcgaaY26
namespace Go.Proofs.Ytbmkfmppcojcgaa
set_option linter.unusedVariables false
theorem flat_atR {N : Nat} {g : Nat → List Int} (k : Nat) : ∀ n, k < n → (∀ i, i < n → (g i).length = N) → (((List.range n).flatMap g).drop (k * N)).take N = g k ∧ ((List.range n).flatMap g).length = n * N := by
  intro n
  induction n with
  | zero => intro h; omega
  | succ n ih =>
    intro hk hl
    have hlen : ∀ m, m ≤ n + 1 → ((List.range m).flatMap g).length = m * N := by
      intro m
      induction m with
      | zero => intro _; simp
      | succ m im => intro hm; rw [List.range_succ, List.flatMap_append, List.length_append, im (by omega)]; simp [hl m (by omega), Nat.succ_mul]
    refine ⟨?_, hlen _ (Nat.le_refl _)⟩
    have hn := hlen n (by omega)
    rw [List.range_succ, List.flatMap_append]
    by_cases e : k < n
    · have q := (ih e (fun i hi => hl i (by omega))).1
      have hle : k * N + N ≤ n * N := by
        have : (k + 1) * N ≤ n * N := Nat.mul_le_mul_right _ (by omega)
        rw [Nat.succ_mul] at this; exact this
      rw [List.drop_append_of_le_length (by omega), List.take_append_of_le_length (by rw [List.length_drop]; omega)]
      exact q
    · obtain rfl : k = n := by omega
      rw [List.drop_append, List.drop_of_length_le (by omega), hn, Nat.sub_self]
      simp
      exact List.take_of_length_le (by rw [hl k (by omega)]; exact Nat.le_refl _)
theorem beg_facts {n0 : Int} {t d : List Int} (ho : arrOk (n0 :: t) d = true) {k : Nat} (hk : k < n0.toNat) :
    0 ≤ sizeV (((k + 1 : Nat) : Int) :: t) ∧ arrOk (((k + 1 : Nat) : Int) :: t) (chosenD (n0 :: t) d (fun j => 0 + (j : Int)) (k + 1)) = true ∧ rowsD (((k + 1 : Nat) : Int) :: t) (chosenD (n0 :: t) d (fun j => 0 + (j : Int)) (k + 1)) = (rowsD (n0 :: t) d).take (k + 1) := by
  have hh := head_bd ho
  simp only [List.getD_cons_zero] at hh
  obtain ⟨p0, p1, p2⟩ := tail_size ho (by omega)
  obtain ⟨N, hN⟩ : ∃ N : Nat, sizeV t = N := ⟨(sizeV t).toNat, by omega⟩
  obtain ⟨k1, k2, k3, k4⟩ := sizeV_ok (arrOk_shape ho)
  have hz := arrOk_size ho
  rw [prodV_cons] at k3 k4
  simp only [List.all_cons, Bool.and_eq_true] at k2
  have q0 := (prodV_bd t k2.2).1
  have eN : ∀ z : Int, rowN (z :: t) = N := fun z => by simp [rowN, hN]
  have eP : sizeV t = prodV t := (sizeV_ok p0).2.2.2
  have hle : ((k : Int) + 1) * prodV t ≤ n0 * prodV t := Int.mul_le_mul_of_nonneg_right (by omega) q0
  have hS : sizeV (((k + 1 : Nat) : Int) :: t) = ((k : Int) + 1) * prodV t := by
    unfold sizeV
    have e1 : ¬ 3 < (((k + 1 : Nat) : Int) :: t).length := by simp at k1 ⊢; omega
    have e2 : (((k + 1 : Nat) : Int) :: t).all dimOk = true := by
      simp only [List.all_cons, Bool.and_eq_true]
      refine ⟨?_, k2.2⟩
      unfold dimOk
      simp
      omega
    have e3 : prodV (((k + 1 : Nat) : Int) :: t) = ((k : Int) + 1) * prodV t := by rw [prodV_cons]; simp
    rw [if_neg e1, if_pos e2, e3, if_neg (by omega)]
  have hrl : ∀ i, i < k + 1 → (rowAt (n0 :: t) d i).length = N := fun i hi => by
    have q := rowAt_length ho (by simp) (i := i) (by simp [rowsN]; omega)
    rw [q, eN]
  have hX : chosenD (n0 :: t) d (fun j => 0 + (j : Int)) (k + 1) = (List.range (k + 1)).flatMap (fun i => rowAt (n0 :: t) d i) := by
    unfold chosenD
    rw [List.flatMap_def, List.flatMap_def]
    congr 1
    apply List.map_congr_left
    intro i hi
    have hi2 : i < k + 1 := by simpa using hi
    unfold chosenRow
    rw [if_pos (by simp; omega)]
    simp
  have hlen := (flat_atR (N := N) (g := fun i => rowAt (n0 :: t) d i) 0 (k + 1) (by omega) hrl).2
  rw [hX]
  refine ⟨by rw [hS]; exact Int.mul_nonneg (by omega) q0, ?_, ?_⟩
  · simp only [arrOk, Bool.and_eq_true, decide_eq_true_eq, List.all_eq_true] at ho ⊢
    refine ⟨by rw [hS, hlen, ← eP, hN]; simp, fun x hx => ?_⟩
    obtain ⟨i, _, hx2⟩ := List.mem_flatMap.1 hx
    exact ho.2 x (List.mem_of_mem_drop (List.mem_of_mem_take hx2))
  · have e : rowsN (((k + 1 : Nat) : Int) :: t) = k + 1 := by simp [rowsN]
    apply List.ext_getElem
    · rw [rowsD_len, List.length_take, rowsD_len, e]
      simp [rowsN]
      omega
    · intro i h1 h2
      have hi : i < k + 1 := by rw [rowsD_len, e] at h1; exact h1
      have q1 := rowsD_at (((k + 1 : Nat) : Int) :: t) ((List.range (k + 1)).flatMap (fun i => rowAt (n0 :: t) d i)) (i := i) (by rw [e]; exact hi)
      have q2 := rowsD_at (n0 :: t) d (i := i) (by simp [rowsN]; omega)
      have q3 := take_getD (R := rowsD (n0 :: t) d) (k := k + 1) (i := i) h2
      have g1 : (rowsD (((k + 1 : Nat) : Int) :: t) ((List.range (k + 1)).flatMap (fun i => rowAt (n0 :: t) d i)))[i] = (rowsD (((k + 1 : Nat) : Int) :: t) ((List.range (k + 1)).flatMap (fun i => rowAt (n0 :: t) d i))).getD i [] := by simp only [List.getD, List.getElem?_eq_getElem h1, Option.getD_some]
      have g2 : ((rowsD (n0 :: t) d).take (k + 1))[i] = ((rowsD (n0 :: t) d).take (k + 1)).getD i [] := by simp only [List.getD, List.getElem?_eq_getElem h2, Option.getD_some]
      rw [g1, g2, q1, q3, q2]
      have q4 := (flat_atR (N := N) (g := fun i => rowAt (n0 :: t) d i) i (k + 1) hi hrl).1
      refine Eq.trans ?_ q4
      show (List.drop (i * rowN (((k + 1 : Nat) : Int) :: t)) _).take (rowN (((k + 1 : Nat) : Int) :: t)) = _
      rw [eN]
end Go.Proofs.Ytbmkfmppcojcgaa
namespace Go.Proofs.Ytbmkfmppcojcgaa
set_option linter.unusedVariables false
theorem chosen_in {s d : List Int} (ho : arrOk s d = true) (hs : s ≠ []) {f : Nat} {φ : Nat → Int} : ∀ (n : Nat), f + n ≤ rowsN s → (∀ k, k < n → φ k = ((f + k : Nat) : Int)) → chosenD s d φ n = (d.drop (f * rowN s)).take (n * rowN s) := by
  have e2 := (rowsN5 ho).2
  intro n
  induction n with
  | zero => intro _ _; simp [chosenD]
  | succ n ih =>
    intro h hφ
    rw [chosenD_succ, ih (by omega) (fun k hk => hφ k (by omega)), Nat.succ_mul, List.take_add, List.drop_drop]
    congr 1
    unfold chosenRow
    rw [hφ n (by omega), if_pos ⟨by omega, by rw [e2]; omega⟩, Int.toNat_natCast]
    unfold rowAt
    rw [Nat.add_mul]
theorem chosen_out {s d : List Int} {φ : Nat → Int} : ∀ (n : Nat), (∀ k, k < n → ¬ (0 ≤ φ k ∧ φ k < s.getD 0 0)) → chosenD s d φ n = List.replicate (n * rowN s) 0 := by
  intro n
  induction n with
  | zero => intro _; simp [chosenD]
  | succ n ih =>
    intro h
    rw [chosenD_succ, ih (fun k hk => h k (by omega))]
    unfold chosenRow
    rw [if_neg (h n (by omega)), List.replicate_append_replicate, Nat.succ_mul]
theorem chosen_add (s d : List Int) (φ : Nat → Int) (m : Nat) : ∀ n, chosenD s d φ (m + n) = chosenD s d φ m ++ chosenD s d (fun k => φ (m + k)) n := by
  intro n
  induction n with
  | zero => simp [chosenD]
  | succ n ih => rw [← Nat.add_assoc, chosenD_succ, ih, chosenD_succ, List.append_assoc]
theorem rowsS_ok {t e : List Int} (h : arrOk t e = true) : arrOk (rowsS t) e = true ∧ rowsS t ≠ [] ∧ vecS t e = rowsS t := by
  unfold rowsS vecS
  by_cases ht : t = []
  · subst ht
    have z := arrOk_size h
    rw [sizeV_0'] at z
    have e1 : e.length = 1 := by omega
    refine ⟨?_, by simp, by rw [if_pos rfl, if_pos rfl, e1]; rfl⟩
    unfold arrOk at *
    rw [if_pos rfl]
    rw [Bool.and_eq_true] at *
    exact ⟨by rw [e1]; decide, h.2⟩
  · rw [if_neg ht, if_neg ht]
    exact ⟨h, ht, rfl⟩
theorem take_chosen {t e : List Int} {x : Int} (h : arrOk t e = true) : chosenD (rowsS t) e (fun k => (if x < 0 then (rowsS t).getD 0 0 + x else 0) + (k : Int)) (manyV x).toNat = takeD x t e := by
  obtain ⟨ho, hs, hv⟩ := rowsS_ok h
  obtain ⟨e1, e2⟩ := rowsN5 ho
  have q := rows5 ho hs
  unfold takeD haveN
  rw [hv]
  generalize hM : (manyV x).toNat = M
  generalize hH : min M (rowsN (rowsS t)) = H
  by_cases hx : 0 ≤ x
  · rw [if_pos hx]
    have : M = H + (M - H) := by omega
    conv => lhs; rw [this]
    rw [chosen_add, chosen_in ho hs (f := 0) H (by omega) (fun k hk => by rw [if_neg (by omega)]; omega), chosen_out (M - H) (fun k hk => by rw [if_neg (by omega), e2]; omega)]
    simp
  · rw [if_neg hx]
    have hm : (M : Int) = -x := by rw [← hM]; unfold manyV; rw [if_neg (by omega)]; omega
    have : M = (M - H) + H := by omega
    conv => lhs; rw [this]
    rw [chosen_add, chosen_out (M - H) (fun k hk => by rw [if_pos (by omega), e2]; omega), chosen_in ho hs (f := rowsN (rowsS t) - H) H (by omega) (fun k hk => by rw [if_pos (by omega), e2]; omega)]
    congr 1
    apply List.take_of_length_le
    rw [List.length_drop, ← q, ← Nat.sub_mul]
    apply Nat.mul_le_mul_right
    omega
theorem drop_chosen {t e : List Int} {x : Int} (h : arrOk t e = true) : chosenD (rowsS t) e (fun k => (if x < 0 then 0 else x) + (k : Int)) (rowsN (vecS t e) - haveN x t e) = dropD x t e := by
  obtain ⟨ho, hs, hv⟩ := rowsS_ok h
  obtain ⟨e1, e2⟩ := rowsN5 ho
  have q := rows5 ho hs
  unfold dropD haveN
  rw [hv]
  generalize hM : (manyV x).toNat = M
  generalize hH : min M (rowsN (rowsS t)) = H
  by_cases hx : 0 ≤ x
  · rw [if_pos hx]
    have hm : (M : Int) = x := by rw [← hM]; unfold manyV; split <;> omega
    by_cases hc : M ≤ rowsN (rowsS t)
    · rw [chosen_in ho hs (f := H) (rowsN (rowsS t) - H) (by omega) (fun k hk => by rw [if_neg (by omega)]; omega)]
      apply List.take_of_length_le
      rw [List.length_drop, ← q, ← Nat.sub_mul]
      exact Nat.le_refl _
    · have hz : rowsN (rowsS t) - H = 0 := by omega
      have hz2 : H = rowsN (rowsS t) := by omega
      rw [hz, hz2, q, List.drop_length]
      rfl
  · rw [if_neg hx]
    rw [chosen_in ho hs (f := 0) (rowsN (rowsS t) - H) (by omega) (fun k hk => by rw [if_pos (by omega)]; omega)]
    simp
theorem drop_count {t e : List Int} {x : Int} (h : arrOk t e = true) : (((rowsN (vecS t e) - haveN x t e : Nat)) : Int) = max (if x < 0 then (rowsS t).getD 0 0 + x else (rowsS t).getD 0 0 - x) 0 := by
  obtain ⟨ho, hs, hv⟩ := rowsS_ok h
  obtain ⟨e1, e2⟩ := rowsN5 ho
  unfold haveN manyV
  rw [hv, e2]
  by_cases hx : x < 0
  · rw [if_pos hx, if_neg (by omega)]; omega
  · rw [if_neg hx]; split <;> omega
end Go.Proofs.Ytbmkfmppcojcgaa
namespace Go.Proofs.Ytbmkfmppcojcgaa
open Go.RowKit
set_option linter.unusedVariables false
set_option linter.unusedSimpArgs false
theorem cell_keep6 {w w' : World} {o : Nat} {x : Value} (h : w.cell? ⟨o, 0, none⟩ = some x) (ho : o < w.heap.size) (hb : Below w.heap.size w w') : w'.cell? ⟨o, 0, none⟩ = some x := by rw [hb.cell (p := ⟨o, 0, none⟩) ho]; exact h
theorem three5 (w : World) (A B C : Obj) :
    (((w.alloc A).alloc B).alloc C).heap[w.heap.size]? = some A ∧ (((w.alloc A).alloc B).alloc C).heap[w.heap.size + 1]? = some B ∧ (((w.alloc A).alloc B).alloc C).heap[w.heap.size + 1 + 1]? = some C := by
  have e1 := heap_alloc_new w A
  have e2 := heap_alloc_new (w.alloc A) B
  have e3 := heap_alloc_new ((w.alloc A).alloc B) C
  simp only [World.size_alloc] at e2 e3
  refine ⟨?_, ?_, e3⟩
  · rw [heap_alloc_old _ _ (by simp only [World.size_alloc]; omega), heap_alloc_old _ _ (by simp only [World.size_alloc]; omega)]; exact e1
  · rw [heap_alloc_old _ _ (by simp only [World.size_alloc]; omega)]; exact e2
end Go.Proofs.Ytbmkfmppcojcgaa
