/-
  Plain and walks: the words of a cell, cut out of the words; which cells are in use.
-/
import Derived.Test.YtmmjidhpmbcoiaaHeapC
import Derived.Test.YtmmjidhpmbcoiaaHeapS1
import Derived.Test.YtmmjidhpmbcoiaaSpecRows
namespace Go.Proofs.Ytmmjidhpmbcoiaa
open Go.RowKit
set_option linter.unusedVariables false
set_option linter.unusedSimpArgs false
/-- A list of numbers from one on up to another. -/
theorem ints_mid {w : World} {a : Option Addr} {l : List Int} {c F L : Nat} (h : Ints w a l) (hc : l.length ≤ c) (hM : F + L ≤ l.length) :
    ∃ a' c', (∀ W, (Instr.slice 25 (.slice a l.length c) (some (.int .i64 (F : Int))) (some (.int .i64 ((F : Int) + (L : Int)))) none).run Try.prog W = .ok (.slice a' L c') W) ∧ L ≤ c' ∧ Ints w a' ((l.drop F).take L) := by
  have hrun : ∀ W, (Instr.slice 25 (.slice a l.length c) (some (.int .i64 (F : Int))) (some (.int .i64 ((F : Int) + (L : Int)))) none).run Try.prog W = .ok (sliced a F (F + L) c 1) W := by
    intro W
    have hs : (sizeOf 3).run Try.prog W = .ok 1 W := by kernel_rfl
    have he : Try.prog.elem 25 = 3 := by kernel_rfl
    rw [run_slice_lh (P := Try.prog) (w := W) 25 a l.length c (by rw [he]; exact Try.underlying25) .i64 .i64 (F : Int) ((F : Int) + (L : Int)) (by omega) (by omega) (by omega), he, hs]
    simp only [Result.andThen]
    rw [show ((F : Int) + (L : Int)).toNat = F + L by omega, Int.toNat_natCast]
  refine ⟨if c = F then a else a.map (·.add (F * 1)), c - F, fun W => ?_, by omega, ?_⟩
  · rw [hrun W]
    unfold sliced
    rw [show F + L - F = L by omega]
  by_cases h0 : L = 0
  · subst h0; exact .inl (by simp)
  · obtain ⟨b, o, rfl, _, _⟩ := h.at (k := 0) (by omega)
    have := ints_cut (m := F) (n := L) h (by omega)
    rw [if_neg (by omega)]
    by_cases hM0 : F = 0 <;> simpa [Addr.add, hM0] using this
/-- A list of numbers from one on. -/
theorem ints_fromH {w : World} {a : Option Addr} {l : List Int} {c M : Nat} (h : Ints w a l) (hc : l.length ≤ c) (hM : M ≤ l.length) :
    ∃ a' c', (∀ W, (Instr.slice 25 (.slice a l.length c) (some (.int .i64 (M : Int))) none none).run Try.prog W = .ok (.slice a' (l.drop M).length c') W) ∧ Ints w a' (l.drop M) := by
  have hrun : ∀ W, (Instr.slice 25 (.slice a l.length c) (some (.int .i64 (M : Int))) none none).run Try.prog W = .ok (sliced a M l.length c 1) W := by
    intro W
    have hs : (sizeOf 3).run Try.prog W = .ok 1 W := by kernel_rfl
    have he : Try.prog.elem 25 = 3 := by kernel_rfl
    rw [run_slice_l (P := Try.prog) (w := W) 25 a l.length c (by rw [he]; exact Try.underlying25) .i64 (M : Int) (by omega) (by omega), he, hs]
    simp [Result.andThen]
  rw [show (l.drop M).length = l.length - M from by simp]
  refine ⟨_, _, hrun, ?_⟩
  by_cases h0 : l.length - M = 0
  · exact .inl (List.eq_nil_of_length_eq_zero (by simpa using h0))
  · obtain ⟨b, o, rfl, _, _⟩ := h.at (k := 0) (by omega)
    have := ints_cut (m := M) (n := l.length - M) h (by omega)
    rw [if_neg (by omega)]
    have e2 : (l.drop M).take (l.length - M) = l.drop M := List.take_of_length_le (by simp)
    rw [e2] at this
    by_cases hM0 : M = 0 <;> simpa [Addr.add, hM0] using this
/-- The words of a cell. -/
def wds (W : List Int) (c : Cel) : List Int := (W.drop c.f.toNat).take c.l.toNat
/-- There is such a cell, and it is in use. -/
def liveB (n : Nat) (E : Nat → Cel) (i : Int) : Bool := decide (0 ≤ i) && decide (i < n) && (E i.toNat).v
set_option maxRecDepth 20000 in
set_option maxHeartbeats 8000000 in
theorem live_spec {w : World} {v : Value} {W : List Int} {t : Int} {n : Nat} {E : Nat → Cel} (h : HI w v W t n E) (i : Int) (hn : n ≤ 1048576) :
    Calls Try.prog 57 #[v, .int .i64 i] w fun e w' => e = .returned (.bool (liveB n E i)) ∧ Below w.heap.size w w' := by
  obtain ⟨wa, wc, ca, cc, rfl, h1, h2, h3, h4⟩ := h
  have hw : IntKind.i64.wrap ((n : Int) - 1) = (n : Int) - 1 := by rw [IntKind.wrap_i64]; omega
  by_cases c1 : 0 ≤ i ∧ i ≤ (n : Int) - 1
  · have hq : (decide ((0 : Int) ≤ i) && decide (i ≤ (n : Int) - 1)) = true := by simp; omega
    obtain ⟨k, rfl⟩ : ∃ k : Nat, i = (k : Int) := ⟨i.toNat, by omega⟩
    have L : k < n := by omega
    have e : liveB n E (k : Int) = (E k).v := by unfold liveB; simp; omega
    rw [e]
    obtain ⟨o, off, rfl, ho, p0, p1, p2⟩ := (h3.keep (bAlloc (Below.refl w.heap.size w) (.cells #[.slice wa W.length wc, .int .i64 t, .slice ca n cc] 28))).at L
    clear h1 h2 h3 h4
    generalize (E k).v = b at *
    have i1 : (k : Int) < (n : Int) := by omega
    go_enter Try.func57, Try.ntmps57
    go_wp2_with (go_at_call 43; refine (in_spec _ _ _ _).mono ?_; rintro r w1 ⟨rfl, hw⟩; subst w1; rw [hq])
    go_ret
    exact ⟨rfl, bAlloc (Below.refl _ _) _⟩
  · have hq : (decide ((0 : Int) ≤ i) && decide (i ≤ (n : Int) - 1)) = false := by simp; omega
    have e : liveB n E i = false := by unfold liveB; simp; omega
    rw [e]
    clear h1 h2 h3 h4
    go_enter Try.func57, Try.ntmps57
    go_wp2_with (go_at_call 43; refine (in_spec _ _ _ _).mono ?_; rintro r w1 ⟨rfl, hw⟩; subst w1; rw [hq])
    go_ret
    exact ⟨rfl, bAlloc (Below.refl _ _) _⟩
/-- What is in use, or zero. -/
def atC (n : Nat) (E : Nat → Cel) (i : Int) : Cel := if 0 ≤ i ∧ i < n then E i.toNat else cel0
end Go.Proofs.Ytmmjidhpmbcoiaa
