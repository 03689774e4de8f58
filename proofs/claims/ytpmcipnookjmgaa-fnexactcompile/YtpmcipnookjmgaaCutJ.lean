/-
  A list's beginning and its end, as cut by the program.
-/
import Derived.Test.YtpmcipnookjmgaaLaw3
import Derived.Test.YtpmcipnookjmgaaGrow
import Derived.Test.YtpmcipnookjmgaaCutI
namespace Go.Proofs.Ytpmcipnookjmgaa
open Go.RowKit
set_option linter.unusedVariables false
/-- A list of numbers from one on. -/
theorem intsJ_from {w : World} {a : Option Addr} {l : List Int} {c M : Nat} (h : Ints w a l) (hc : l.length ≤ c) (hM : M ≤ l.length) :
    ∃ a' c', (∀ W, (Instr.slice 42 (.slice a l.length c) (some (.int .i64 (M : Int))) none none).run Try.prog W = .ok (.slice a' (l.drop M).length c') W) ∧ Ints w a' (l.drop M) := by
  rw [show (l.drop M).length = l.length - M from by simp]
  refine ⟨_, _, fun W => run_from hM hc W, ?_⟩
  by_cases h0 : l.length - M = 0
  · exact .inl (List.eq_nil_of_length_eq_zero (by simpa using h0))
  · obtain ⟨b, o, rfl, _, _⟩ := h.at (k := 0) (by omega)
    rw [if_neg (by omega)]
    have := ints_tail M h
    by_cases hM0 : M = 0 <;> simpa [Addr.add, hM0] using this
/-- The beginning of a list of one's own is one's own. -/
theorem NewInts.upto {B : Nat} {w : World} {a : Option Addr} {l : List Int} {c M : Nat} (h : NewInts B w (.slice a l.length c) l) (hM : M ≤ l.length) : NewInts B w (.slice a M c) (l.take M) := by
  obtain ⟨h1, h2⟩ := h
  refine ⟨by simp, ?_⟩
  have ht : (l.take M).length = M := by simp; omega
  rw [ht]
  rcases h2 with ⟨ev, h0⟩ | ⟨g, cap, cur, ev, hB, hg, hc, hm, hs, hx⟩
  · simp only [Value.slice.injEq] at ev
    obtain ⟨e1, e2, e3⟩ := ev
    have : M = 0 := by omega
    subst this
    exact .inl ⟨by rw [e1, e3], rfl⟩
  · simp only [Value.slice.injEq] at ev
    obtain ⟨e1, _, e3⟩ := ev
    subst e1 e3
    refine .inr ⟨g, _, cur, rfl, hB, hg, by omega, hm, hs, ?_⟩
    have e : cur.toList.take (M * 1) = (cur.toList.take (l.length * 1)).take M := by rw [List.take_take]; congr 1; omega
    rw [e, hx, List.map_take]
theorem newJ_upto {B : Nat} {w : World} {a : Option Addr} {l : List Int} {c M : Nat} (h : NewInts B w (.slice a l.length c) l) (hM : M ≤ l.length) :
    ∃ a' c', (∀ W, (Instr.slice 42 (.slice a l.length c) none (some (.int .i64 (M : Int))) none).run Try.prog W = .ok (.slice a' M c') W) ∧ NewInts B w (.slice a' M c') (l.take M) := by
  have hc : l.length ≤ c := by
    obtain ⟨_, h2⟩ := h
    rcases h2 with ⟨ev, h0⟩ | ⟨g, cap, cur, ev, hB, hg, hc, hm, hs, hx⟩
    · omega
    · simp only [Value.slice.injEq] at ev; omega
  have hrun : ∀ W, (Instr.slice 42 (.slice a l.length c) none (some (.int .i64 (M : Int))) none).run Try.prog W = .ok (sliced a 0 M c 1) W := by
    intro W
    have hs : (sizeOf 3).run Try.prog W = .ok 1 W := by kernel_rfl
    have he : Try.prog.elem 42 = 3 := by kernel_rfl
    rw [run_slice_h (P := Try.prog) (w := W) 42 a l.length c (by rw [he]; exact Try.underlying42) .i64 (M : Int) (by omega) (by omega), he, hs]
    simp [Result.andThen]
  have hsl : sliced a 0 M c 1 = .slice a M c := by
    cases a with
    | none => simp [sliced]
    | some x => simp [sliced, Addr.add]
  rw [hsl] at hrun
  exact ⟨a, c, hrun, h.upto hM⟩
end Go.Proofs.Ytpmcipnookjmgaa
