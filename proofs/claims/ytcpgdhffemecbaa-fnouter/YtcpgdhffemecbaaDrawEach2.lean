
/-
  Walks: the specification's DrawEachTwo.
-/
import Derived.Test.YtcpgdhffemecbaaDrawTwoA
namespace Go.Proofs.Ytcpgdhffemecbaa
open Go.RowKit
set_option linter.unusedVariables false
set_option linter.unusedSimpArgs false
/-- A result in a slot, and two arrays in cells behind it. -/
theorem results_tmp_arr2 {fn : Func} {t p q : Tmp} (h : fn.results = #[.tmp t, .cell p 26, .cell q 26]) (tmps : Array Value) (w : World) (g k : Nat) (x y x' y' : Value) (hp : tmps.getD p undef = .pointer (some ⟨g, 0, none⟩)) (hq : tmps.getD q undef = .pointer (some ⟨k, 0, none⟩))
    (hg : w.heap[g]? = some (.cells #[x, y] 26 (0, 0))) (hk : w.heap[k]? = some (.cells #[x', y'] 26 (0, 0))) : (results fn tmps).run Try.prog w = .ok (.tuple #[tmps.getD t undef, .agg #[x, y], .agg #[x', y']]) w := by
  have e : (asAddr (.pointer (some ⟨g, 0, none⟩))).run Try.prog w = .ok ⟨g, 0, none⟩ w := by simp [asAddr]
  have e' : (asAddr (.pointer (some ⟨k, 0, none⟩))).run Try.prog w = .ok ⟨k, 0, none⟩ w := by simp [asAddr]
  have l := arr_loaded hg
  have l' := arr_loaded hk
  have hp' : tmps[p]?.getD undef = .pointer (some ⟨g, 0, none⟩) := by simpa using hp
  have hq' : tmps[q]?.getD undef = .pointer (some ⟨k, 0, none⟩) := by simpa using hq
  simp [results, h, hp', hq', e, e', l, l', Sem.run_bind, Result.andThen]
end Go.Proofs.Ytcpgdhffemecbaa
