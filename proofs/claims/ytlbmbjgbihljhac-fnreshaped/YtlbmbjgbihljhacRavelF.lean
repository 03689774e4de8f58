/-
  Plain: an array has its shape again by its numbers in a row and its shape.
-/
import Derived.Test.YtlbmbjgbihljhacRowsM
import Derived.Test.YtlbmbjgbihljhacArrM
namespace Go.Proofs.Ytlbmbjgbihljhac
set_option linter.unusedVariables false
theorem vec_size {n : Nat} (h : n ≤ 300) : sizeV [(n : Int)] = (n : Int) := by
  simp [sizeV, dimOk, prodV]
  omega
theorem again_self (d : List Int) : againD d d.length = d := by
  unfold againD
  apply List.ext_getElem
  · simp
  · intro i h1 h2
    have hd : d ≠ [] := by intro e; subst e; simp at h2
    simp [hd, Nat.mod_eq_of_lt h2, h2]
theorem dims_ok {s : List Int} (h : 0 ≤ sizeV s) : s.all ok = true ∧ (s.any fun x => decide (x < 0)) = false ∧ s.length ≤ 3 := by
  obtain ⟨k1, k2, k3, k4⟩ := sizeV_ok h
  rw [List.all_eq_true] at k2
  refine ⟨?_, ?_, k1⟩
  · rw [List.all_eq_true]
    intro x hx
    have := k2 x hx
    simp [dimOk] at this
    simp [ok]
    omega
  · rw [List.any_eq_false]
    intro x hx
    have := k2 x hx
    simp [dimOk] at this
    simp
    omega
theorem vec_arr {l : List Int} (h : l.all ok = true) (hl : l.length ≤ 300) : arrOk [(l.length : Int)] l = true := by
  unfold arrOk
  rw [h, vec_size hl]
  simp
theorem ravel_back {s d : List Int} (ho : arrOk s d = true) : reshapeR [(s.length : Int)] s [(d.length : Int)] d = (0, s, d) := by
  have hz := arrOk_size ho
  obtain ⟨d1, d2, d3⟩ := dims_ok (arrOk_shape ho)
  have hd : d.all ok = true := by unfold arrOk at ho; rw [Bool.and_eq_true] at ho; exact ho.2
  unfold reshapeR reshapeC
  rw [if_pos ⟨vec_arr d1 (by omega), vec_arr hd (arrOk_len ho)⟩, if_neg (by simp), if_neg (by rw [d2]; simp), if_neg (by omega), mkR_good, hz, Int.toNat_natCast, again_self]
end Go.Proofs.Ytlbmbjgbihljhac
namespace Go.Proofs.Ytlbmbjgbihljhac
set_option linter.unusedVariables false
theorem reshape_self {t f : List Int} (ho : arrOk t f = true) : reshapeR [(t.length : Int)] t t f = (0, t, f) := by
  have hz := arrOk_size ho
  obtain ⟨d1, d2, d3⟩ := dims_ok (arrOk_shape ho)
  unfold reshapeR reshapeC
  rw [if_pos ⟨vec_arr d1 (by omega), ho⟩, if_neg (by simp), if_neg (by rw [d2]; simp), if_neg (by omega), mkR_good, hz, Int.toNat_natCast, again_self]
theorem again_len (f : List Int) (n : Nat) : (againD f n).length = n := by simp [againD]
theorem again_at {f : List Int} {n i : Nat} (hi : i < n) (hf : 0 < f.length) : (againD f n).getD i 0 = f.getD (i % f.length) 0 := by
  have hne : f ≠ [] := by intro e; subst e; simp at hf
  unfold againD
  simp [hi, hne]
theorem again_ok {f : List Int} (n : Nat) (hf : f.all ok = true) : (againD f n).all ok = true := by
  rw [List.all_eq_true] at hf ⊢
  intro x hx
  unfold againD at hx
  rw [List.mem_map] at hx
  obtain ⟨i, _, rfl⟩ := hx
  by_cases h0 : f = []
  · simp [h0, ok]
  · have hl : 0 < f.length := List.length_pos_iff.2 h0
    have hm : i % f.length < f.length := Nat.mod_lt _ hl
    simp only [h0, if_false]
    rw [List.getD_eq_getElem?_getD, List.getElem?_eq_getElem hm]
    exact hf _ (List.getElem_mem hm)
theorem reshape_good {s d t f : List Int} (h : (reshapeR s d t f).1 = 0) : arrOk t f = true ∧ (reshapeR s d t f).2.1 = d ∧ (reshapeR s d t f).2.2 = againD f (sizeV d).toNat ∧ arrOk d (againD f (sizeV d).toNat) = true := by
  unfold reshapeR at h ⊢
  rw [mkR_code] at h
  rw [h, mkR_good]
  unfold reshapeC at h
  by_cases q : arrOk s d = true ∧ arrOk t f = true
  · rw [if_pos q] at h
    split at h
    · cases h
    · split at h
      · cases h
      · split at h
        · cases h
        · rename_i hz
          refine ⟨q.2, rfl, rfl, ?_⟩
          have hf : f.all ok = true := by have := q.2; unfold arrOk at this; rw [Bool.and_eq_true] at this; exact this.2
          unfold arrOk
          rw [Bool.and_eq_true]
          refine ⟨?_, again_ok _ hf⟩
          simp [again_len]
          omega
  · rw [if_neg q] at h; cases h
theorem reshape_bad {s d t f : List Int} (h : (reshapeR s d t f).1 ≠ 0) : (reshapeR s d t f).2.2.length = 0 := by
  unfold reshapeR at h ⊢
  rw [mkR_code] at h
  rw [mkR_bad h]; rfl
end Go.Proofs.Ytlbmbjgbihljhac
