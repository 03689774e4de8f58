/-
  A new list out of two lists: append(append([]int{}, x...), y...).
-/
import Derived.Test.YtlbmbjgbihljhadGrow
namespace Go.Proofs.Ytlbmbjgbihljhad
open Go.RowKit
set_option linter.unusedVariables false
theorem two_appends {V : World} {a b : Option Addr} {l m : List Int} (ha : Ints V a l) (hb : Ints V b m) (hl : l.length + m.length ≤ 1048576) (c c' : Nat) :
    ∃ a1 c1 w1 a2 c2 w2, (Builtin.append_ #[24, 24] 24 #[.slice (some ⟨V.heap.size, 0, none⟩) 0 0, .slice a l.length c]).run Try.prog (V.alloc (.cells #[] 3)) = .ok (.slice a1 l.length c1) w1 ∧
      (Builtin.append_ #[24, 24] 24 #[.slice a1 l.length c1, .slice b m.length c']).run Try.prog w1 = .ok (.slice a2 (l ++ m).length c2) w2 ∧ Below V.heap.size V w1 ∧ Below V.heap.size V w2 ∧ Ints w2 a2 (l ++ m) ∧ NewInts V.heap.size w2 (.slice a2 (l ++ m).length c2) (l ++ m) := by
  have B0 : Below V.heap.size V (V.alloc (.cells #[] 3)) := bAlloc (Below.refl _ _) _
  have N0 : NewInts V.heap.size (V.alloc (.cells #[] 3)) (.slice (some ⟨V.heap.size, 0, none⟩) 0 0) [] := newInts_alloc V [] (Nat.le_refl _) (by simp)
  obtain ⟨a1, c1, w1, r1, n1, b1⟩ := growL N0 (ha.keep B0) (by simp) (by simp; omega) c
  have B1 : Below V.heap.size V w1 := B0.trans b1
  obtain ⟨a2, c2, w2, r2, n2, b2⟩ := growL n1 (hb.keep B1) (B1.size) (by simpa using hl) c'
  have e : ([] : List Int) ++ l = l := rfl
  rw [e] at r1 r2 n2
  obtain ⟨p, q, h, hi⟩ := n2.ints
  cases h
  exact ⟨a1, c1, w1, a2, c2, w2, r1, r2, B1, B1.trans b2, hi, n2⟩
end Go.Proofs.Ytlbmbjgbihljhad
