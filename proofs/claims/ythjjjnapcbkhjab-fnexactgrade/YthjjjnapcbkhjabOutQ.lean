/-
  A list of numbers that was begun below other memory, and grows: all else stands.
-/
import Derived.Test.YthjjjnapcbkhjabOutB
namespace Go.Proofs.Ythjjjnapcbkhjab
open Go.RowKit
set_option linter.unusedVariables false
/-- Begun in block b0; since the world wR nothing has turned but that block and what is newer. -/
structure OutQ (b0 : Nat) (wR w : World) (v : Value) (l : List Int) : Prop where
  row : NewInts b0 w v l
  own : v.ownBlock = some b0 ∨ ∃ o, v.ownBlock = some o ∧ wR.heap.size ≤ o
  win : Win b0 (b0 + 1) wR w
  lt : b0 < wR.heap.size
theorem OutQ.grow {b0 : Nat} {wR w : World} {v : Value} {l m : List Int} {a : Option Addr} (h : OutQ b0 wR w v l) (hm : Ints w a m) (hl : l.length + m.length ≤ 1048576) (c : Nat) :
    ∃ a' c' w', (Builtin.append_ #[22, 22] 22 #[v, .slice a m.length c]).run Try.prog w = .ok (.slice a' (l ++ m).length c') w' ∧ OutQ b0 wR w' (.slice a' (l ++ m).length c') (l ++ m) := by
  have hs := h.win.size
  have hl0 := h.lt
  obtain ⟨a', c', w', r, n, b, k, e⟩ := growX h.row hm (by omega) hl c
  refine ⟨a', c', w', r, n, ?_, ?_, hl0⟩
  · rcases e with e | e
    · rw [e]; exact h.own
    · exact .inr ⟨_, e, hs⟩
  · refine ⟨b.os.trans h.win.os, b.tape.trans h.win.tape, b.output.trans h.win.output, Nat.le_trans hs b.size, fun o ho hd => ?_⟩
    rw [k o (by omega) (fun eq => ?_), h.win.block o ho hd]
    rcases h.own with q | ⟨o', q, hq'⟩
    · rw [q] at eq; cases eq; omega
    · rw [q] at eq; cases eq; omega
theorem OutQ.drewN {b0 : Nat} {wR w : World} {v : Value} {l : List Int} (h : OutQ b0 wR w v l) (n : Nat) : OutQ b0 wR (w.drewN n) v l :=
  ⟨h.row.keep (bDrewN (Below.refl _ _) n), h.own, ⟨h.win.os, h.win.tape, h.win.output, h.win.size, h.win.block⟩, h.lt⟩
theorem OutQ.start {w WL wR : World} (hW : WL = w.alloc (.cells #[] 3)) (hb : Below WL.heap.size WL wR) : OutQ w.heap.size wR wR (.slice (some ⟨w.heap.size, 0, none⟩) 0 0) [] := by
  have hs := hb.size
  have hz : WL.heap.size = w.heap.size + 1 := by rw [hW]; simp
  refine ⟨?_, .inl rfl, Win.refl _ _ _, by omega⟩
  have n0 : NewInts w.heap.size WL (.slice (some ⟨w.heap.size, 0, none⟩) 0 0) [] := by rw [hW]; exact newInts_alloc w [] (Nat.le_refl _) (by simp)
  exact n0.keep hb
end Go.Proofs.Ythjjjnapcbkhjab
