/-
  Plain: each number of an inner product is the reduction of one row with one column; no Go in sight.
-/
import Derived.Test.YtbmkfmppcojcgaaGreatInnerQ
import Derived.Test.YtbmkfmppcojcgaaGreatImplMeet
import Derived.Test.YtbmkfmppcojcgaaGreatImplInnP
import Derived.Deep.LoopGhost
import Derived.Deep.Cut
import Derived.Deep.CutRange
import Derived.BigQuiet
import Derived.Deep.RegionHeld3
namespace Go.Proofs.YtbmkfmppcojcgaaGreat
set_option linter.unusedVariables false
theorem red_pairs {f g n : Int} {x y : List Int} (hf : sign2 f = true) (h1 : arrOk [n] x = true) (hc : (cellR f g x y n.toNat).2 = 0) :
    pairC g x y n.toNat = 0 ∧ reduceR f [n] (pairD g x y n.toNat) = (0, [], [(cellR f g x y n.toNat).1]) := by
  have h0 : pairC g x y n.toNat = 0 := by
    by_cases q : pairC g x y n.toNat = 0
    · exact q
    · unfold cellR at hc; rw [if_neg q] at hc; exact absurd hc q
  refine ⟨h0, ?_⟩
  obtain ⟨a1, a2, _, _⟩ := vecN h1
  unfold reduceR
  rw [if_pos ⟨hf, pair_arr h1 h0⟩, if_neg (by simp)]
  show (if 0 < n then _ else redN f []) = _
  by_cases hn : n = 0
  · subst hn
    rw [if_neg (by omega), redN_nil f (neu_right f), show (0 : Int).toNat = 0 from rfl, cellR_none]
  · rw [if_pos (by omega), rows_pair]
    show mkR (redL f [] (pairR g x y n.toNat)).1 [] (redL f [] (pairR g x y n.toNat)).2 = _
    by_cases q : (redL f [] (pairR g x y n.toNat)).1 = 0
    · obtain ⟨z, e1, e2⟩ := cellR_good h0 (by omega) q
      rw [q, mkR_good, e1, e2]
    · rw [cellR_bad h0 (by omega) q] at hc
      exact absurd hc q
theorem inner_good {f g : Int} {s d t e : List Int} (h : innerC f g s d t e = 0) :
    ∃ nR n nC : Nat, InnerD s d t e nR n nC ∧ (arrOk s d = true ∧ arrOk t e = true ∧ sign2 f = true ∧ sign2 g = true) ∧ nR * nC ≤ 300 ∧ sizeV (innerS s t) = ((nR * nC : Nat) : Int) ∧ (∀ k, k < nR * nC → (innerK f g d t e k).2 = 0) ∧
      innerR f g s d t e = (0, innerS s t, (List.range (nR * nC)).map (fun k => (innerK f g d t e k).1)) := by
  have hC := h
  unfold innerC at h
  by_cases ho : arrOk s d = true ∧ arrOk t e = true ∧ sign2 f = true ∧ sign2 g = true
  · rw [if_pos ho] at h
    by_cases hl : (s.length = 1 ∨ s.length = 2) ∧ (t.length = 1 ∨ t.length = 2)
    · rw [if_pos hl] at h
      by_cases hq : s.getD (s.length - 1) 0 = t.getD 0 0
      · rw [if_neg (by simpa using hq)] at h
        by_cases hz : sizeV (innerS s t) < 0
        · rw [if_pos hz] at h; cases h
        · rw [if_neg hz] at h
          obtain ⟨nR, n, nC, dim⟩ := inner_dims ho.1 ho.2.1 hl.1 hl.2 hq
          have sz := dim.size (by omega)
          have e9 : (((nR * nC : Nat) : Int)).toNat = nR * nC := rfl
          refine ⟨nR, n, nC, dim, ho, dim.count (by omega), sz, fun k hk => ?_, ?_⟩
          · rw [sz, e9] at h
            exact firstC_all h k hk
          · unfold innerR
            rw [hC, mkR_good, sz, e9]
      · rw [if_pos (by simpa using hq)] at h; cases h
    · rw [if_neg hl] at h; cases h
  · rw [if_neg ho] at h; cases h
theorem cell_right {f g : Int} {x y : List Int} {n : Nat} (hc : (cellR f g x y n).2 = 0) (hx : n ≠ 0 → pairC g x y n = 0 → ∀ z ∈ (redL f [] (pairR g x y n)).2, ok z = true) : ok (cellR f g x y n).1 = true := by
  by_cases h0 : pairC g x y n = 0
  · by_cases hn : n = 0
    · subst hn; rw [cellR_none]; exact neu_right f
    · by_cases q : (redL f [] (pairR g x y n)).1 = 0
      · obtain ⟨z, e1, e2⟩ := cellR_good h0 hn q
        rw [e2]
        exact hx hn h0 z (by rw [e1]; simp)
      · rw [cellR_bad h0 hn q]; show ok 0 = true; decide
  · unfold cellR; rw [if_neg h0]; show ok 0 = true; decide
/-- What it comes to is right. -/
theorem inner_right {f g : Int} {s d t e : List Int} (h : innerC f g s d t e = 0) : arrOk (innerR f g s d t e).2.1 (innerR f g s d t e).2.2 = true := by
  obtain ⟨nR, n, nC, dim, ho, _, sz, hk, er⟩ := inner_good h
  rw [er]
  simp only [arrOk, Bool.and_eq_true, List.all_eq_true]
  refine ⟨by rw [sz]; simp, fun z hz => ?_⟩
  simp only [List.mem_map, List.mem_range] at hz
  obtain ⟨k, hkk, rfl⟩ := hz
  have hc := hk k hkk
  rw [dim.at_] at hc ⊢
  refine cell_right hc (fun hn h0 z hz => ?_)
  have hR : pairR g (rowV d n (k / nC)) (colV e n nC (k % nC)) n ≠ [] := by intro q; have := pairR_len g (rowV d n (k / nC)) (colV e n nC (k % nC)) n; rw [q] at this; simp at this; omega
  by_cases q : (redL f [] (pairR g (rowV d n (k / nC)) (colV e n nC (k % nC)) n)).1 = 0
  · have := redL_ok hR (pair_ok h0) q
    simp only [arrOk, Bool.and_eq_true, List.all_eq_true] at this
    exact this.2 z hz
  · rw [redL_none q] at hz; simp at hz
open Go.RowKit in
/-- The cut of a list of numbers, from one on up to another, with its room. -/
theorem ints_mid9 {w : World} {a : Option Addr} {l : List Int} {c L M : Nat} (h : Ints w a l) (hc : l.length ≤ c) (hL : L ≤ M) (hM : M ≤ l.length) :
    ∃ a' c', (∀ W, (Go.Instr.slice 24 (.slice a l.length c) (some (.int .i64 (L : Int))) (some (.int .i64 (M : Int))) none).run Tryz.prog W = .ok (.slice a' (M - L) c') W) ∧ Ints w a' ((l.drop L).take (M - L)) ∧ M - L ≤ c' := by
  have hrun : ∀ W, (Go.Instr.slice 24 (.slice a l.length c) (some (.int .i64 (L : Int))) (some (.int .i64 (M : Int))) none).run Tryz.prog W = .ok (sliced a L M c 1) W := by
    intro W
    have hs : (sizeOf 3).run Tryz.prog W = .ok 1 W := by kernel_rfl
    have he : Tryz.prog.elem 24 = 3 := by kernel_rfl
    rw [run_slice_lh (P := Tryz.prog) (w := W) 24 a l.length c (by rw [he]; exact Tryz.underlying24) .i64 .i64 (L : Int) (M : Int) (by omega) (by omega) (by omega), he, hs]
    simp [Result.andThen]
  refine ⟨_, _, hrun, ?_, by omega⟩
  by_cases h0 : M - L = 0
  · exact .inl (by simp [h0])
  · obtain ⟨b, o, rfl, _, _⟩ := h.at (k := 0) (by omega)
    have q := ints_cut (m := L) (n := M - L) h (by omega)
    rw [if_neg (by omega)]
    by_cases hL0 : L = 0 <;> simpa [Addr.add, hL0] using q
theorem vec_right {n : Nat} {l : List Int} (h : arrOk [(n : Int)] l = true) : vecOk l = true ∧ l.length = n := by
  obtain ⟨_, _, e, _⟩ := vecN h
  have e2 : l.length = n := by rw [e]; rfl
  refine ⟨?_, e2⟩
  unfold vecOk
  rw [e2]
  exact h
end Go.Proofs.YtbmkfmppcojcgaaGreat
