/-
  Cuts of lists: of arrays, of numbers; vectors of scalars.
-/
import Derived.Test.YtbmkfmppcojcgaaSpecMake6
namespace Go.Proofs.Ytbmkfmppcojcgaa
open Go.RowKit
set_option linter.unusedVariables false
set_option linter.unusedSimpArgs false
theorem arrsI_sub {w : World} {o off n c m M : Nat} {F : List (List Int)} {a' : Option Addr} {c' : Nat} (h : ArrsI w (.slice (some ⟨o, off, none⟩) n c) F) (hM : M + m ≤ n) (ha : m = 0 ∨ a' = some ⟨o, off + M * 2, none⟩) : ArrsI w (.slice a' m c') ((F.drop (2 * M)).take (2 * m)) := by
  obtain ⟨a, n', c'', e, hF, h⟩ := h
  cases e
  have hl : ((F.drop (2 * M)).take (2 * m)).length = 2 * m := by simp; omega
  refine ⟨a', m, c', rfl, hl, ?_⟩
  rcases ha with h0 | rfl
  · exact .inl h0
  · by_cases h0 : m = 0
    · exact .inl h0
    · rcases h with h | ⟨o', off', xs, e, ho, hx, hj⟩
      · omega
      · cases e
        refine .inr ⟨o, off + M * 2, (xs.drop (2 * M)).take (2 * m), rfl, ho, by simp; omega, fun j hj' => ?_⟩
        have hj2 : j < 2 * m := by simp at hj'; omega
        obtain ⟨q1, q2⟩ := hj (2 * M + j) (by omega)
        have e1 : ((xs.drop (2 * M)).take (2 * m)).getD j undef = xs.getD (2 * M + j) undef := by simp [List.getD, List.getElem?_take_of_lt hj2]
        have e2 : ((F.drop (2 * M)).take (2 * m)).getD j [] = F.getD (2 * M + j) [] := by simp [List.getD, List.getElem?_take_of_lt hj2]
        rw [e1, e2]
        refine ⟨?_, q2⟩
        rw [show off + M * 2 + j = off + (2 * M + j) from by omega]
        exact q1
/-- A list of arrays from one on. -/
theorem arrs_from {w : World} {a : Option Addr} {n c M : Nat} {F : List (List Int)} (h : ArrsI w (.slice a n c) F) (hc : n ≤ c) (hM : M ≤ n) :
    ∃ a' c', (∀ W, (Instr.slice 60 (.slice a n c) (some (.int .i64 (M : Int))) none none).run Try.prog W = .ok (.slice a' (n - M) c') W) ∧ ArrsI w (.slice a' (n - M) c') ((F.drop (2 * M)).take (2 * (n - M))) := by
  have hrun : ∀ W, (Instr.slice 60 (.slice a n c) (some (.int .i64 (M : Int))) none none).run Try.prog W = .ok (sliced a M n c 2) W := by
    intro W
    have hs : (sizeOf 26).run Try.prog W = .ok 2 W := by kernel_rfl
    have he : Try.prog.elem 60 = 26 := by kernel_rfl
    rw [run_slice_l (P := Try.prog) (w := W) 60 a n c (by rw [he]; exact Try.underlying60) .i64 (M : Int) (by omega) (by omega), he, hs]
    simp [Result.andThen]
  refine ⟨_, _, hrun, ?_⟩
  by_cases h0 : n - M = 0
  · rw [h0]
    exact ⟨_, 0, _, rfl, by simp, .inl rfl⟩
  · obtain ⟨o, off, _, _, rfl, _⟩ := h.at (k := M) (by omega)
    refine arrsI_sub h (by omega) (.inr ?_)
    rw [if_neg (by omega)]
    simp [Addr.add]
/-- A list of arrays up to one. -/
theorem arrs_upto {w : World} {a : Option Addr} {n c m : Nat} {F : List (List Int)} (h : ArrsI w (.slice a n c) F) (hc : n ≤ c) (hm : m ≤ n) :
    ∃ a' c', (∀ W, (Instr.slice 60 (.slice a n c) none (some (.int .i64 (m : Int))) none).run Try.prog W = .ok (.slice a' m c') W) ∧ ArrsI w (.slice a' m c') ((F.drop 0).take (2 * m)) := by
  have hrun : ∀ W, (Instr.slice 60 (.slice a n c) none (some (.int .i64 (m : Int))) none).run Try.prog W = .ok (sliced a 0 m c 2) W := by
    intro W
    have hs : (sizeOf 26).run Try.prog W = .ok 2 W := by kernel_rfl
    have he : Try.prog.elem 60 = 26 := by kernel_rfl
    rw [run_slice_h (P := Try.prog) (w := W) 60 a n c (by rw [he]; exact Try.underlying60) .i64 (m : Int) (by omega) (by omega), he, hs]
    simp [Result.andThen]
  refine ⟨_, _, hrun, ?_⟩
  by_cases h0 : m = 0
  · subst h0
    exact ⟨_, 0, _, rfl, by simp, .inl rfl⟩
  · obtain ⟨o, off, _, _, rfl, _⟩ := h.at (k := 0) (by omega)
    have := arrsI_sub (M := 0) (m := m) (a' := some ⟨o, off, none⟩) (c' := c - 0) h (by omega) (.inr (by simp))
    simpa [sliced, Addr.add] using this
theorem vec_ok {t e : List Int} (h : arrOk t e = true) : arrOk (vecS t e) e = true ∧ vecS t e ≠ [] := by
  unfold vecS
  by_cases ht : t = []
  · subst ht
    rw [if_pos rfl]
    have z := arrOk_size h
    rw [sizeV_0'] at z
    have hl : e.length = 1 := by omega
    refine ⟨?_, by simp⟩
    have h2 : e.all ok = true := by
      unfold arrOk at h
      simp only [Bool.and_eq_true] at h
      exact h.2
    unfold arrOk
    rw [h2, hl]
    decide
  · rw [if_neg ht]; exact ⟨h, ht⟩
end Go.Proofs.Ytbmkfmppcojcgaa
