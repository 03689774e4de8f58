/-
  A list that was begun below other memory grows by one number; what stands beside it.
-/
import Derived.Test.YthjjjnapcbkhjabOutQ
import Derived.Test.YthjjjnapcbkhjabMapI
namespace Go.Proofs.Ythjjjnapcbkhjab
open Go.RowKit
set_option linter.unusedVariables false
theorem OutQ.alloc {b0 : Nat} {wR w : World} {v : Value} {l : List Int} (h : OutQ b0 wR w v l) (o : Obj) : OutQ b0 wR (w.alloc o) v l :=
  ⟨h.row.keep (bAlloc (Below.refl _ _) o), h.own, ⟨h.win.os, h.win.tape, h.win.output, by have := h.win.size; simp; omega, fun k hk hd => by
    rw [Below.heap_alloc _ _ _ (by have := h.win.size; omega)]
    exact h.win.block k hk hd⟩, h.lt⟩
theorem OutQ.grow1 {b0 : Nat} {wR w : World} {v : Value} {l : List Int} (h : OutQ b0 wR w v l) (x : Int) (hl : l.length < 1048576) :
    ∃ a' c' w', (Builtin.append_ #[22, 22] 22 #[v, .slice (some ⟨w.heap.size, 0, none⟩) 1 1]).run Try.prog (w.alloc (.cells #[.int .i64 x] 3)) = .ok (.slice a' (l.length + 1) c') w' ∧ OutQ b0 wR w' (.slice a' (l.length + 1) c') (l ++ [x]) := by
  obtain ⟨a', c', w', hr, h2⟩ := (h.alloc (.cells #[.int .i64 x] 3)).grow (ints_new w [x] 3) (by simp; omega) 1
  exact ⟨a', c', w', by simpa using hr, by simpa using h2⟩
theorem OutQ.grown {b0 : Nat} {wR w : World} {v : Value} {l : List Int} (h : OutQ b0 wR w v l) : wR.grownBy w (some b0) :=
  ⟨h.win.os, h.win.tape, h.win.output, h.win.size, fun k hk hne => h.win.block k hk (by
    have : k ≠ b0 := fun e => hne (by rw [e])
    omega)⟩
end Go.Proofs.Ythjjjnapcbkhjab
