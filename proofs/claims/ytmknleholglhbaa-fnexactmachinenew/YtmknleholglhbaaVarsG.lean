/-
  A list of letters that grows by one at its end; lists told within a window of blocks.
-/
import Derived.Test.YtmknleholglhbaaVarsK
import Derived.Test.YtmknleholglhbaaByt
import Derived.Test.YtmknleholglhbaaRowsI
namespace Go.Proofs.Ytmknleholglhbaa
open Go.RowKit
set_option linter.unusedVariables false
set_option linter.unusedSimpArgs false
/-- Told, and all of it lies from block lo on and below hi. -/
def VarsW (lo hi : Nat) (w : World) (v : Value) (n : Nat) (B : Nat → Bool) (S D : Nat → List Int) : Prop :=
  ∃ a c, v = .slice a n c ∧ (n = 0 ∨ ∃ (o off : Nat) (A : Array Value) (t : TypeId) (x y : Nat → Value), a = some ⟨o, off, none⟩ ∧ lo ≤ o ∧ o < hi ∧ w.heap[o]? = some (.cells A t (0, 0)) ∧ ∀ i, i < n →
    (A[off + i * 3]? = some (.bool (B i)) ∧ A[off + i * 3 + 1]? = some (x i) ∧ A[off + i * 3 + 2]? = some (y i)) ∧ Piece lo hi w (x i) (S i) ∧ Piece lo hi w (y i) (D i))
section
variable {lo hi P Q : Nat} {w w' : World} {v : Value} {n : Nat} {B : Nat → Bool} {S D : Nat → List Int}
theorem VarsW.list (h : VarsW lo hi w v n B S D) : VarsI w v n B S D := by
  obtain ⟨a, c, rfl, h⟩ := h
  refine ⟨a, c, rfl, ?_⟩
  rcases h with h | ⟨o, off, A, t, x, y, e, h1, h2, h3, h4⟩
  · exact .inl h
  · refine .inr ⟨o, off, x, y, e, lt_of_heapA h3, fun i hi => ?_⟩
    obtain ⟨⟨q0, q1, q2⟩, qx, qy⟩ := h4 i hi
    exact ⟨cell_at h3 q0, cell_at h3 q1, cell_at h3 q2, qx.intsI, qy.intsI⟩
theorem VarsW.win (h : VarsW lo hi w v n B S D) (hw : Win P Q w w') (hd : hi ≤ P ∨ Q ≤ lo) : VarsW lo hi w' v n B S D := by
  obtain ⟨a, c, rfl, h⟩ := h
  refine ⟨a, c, rfl, ?_⟩
  rcases h with h | ⟨o, off, A, t, x, y, e, h1, h2, h3, h4⟩
  · exact .inl h
  · refine .inr ⟨o, off, A, t, x, y, e, h1, h2, by rw [hw.block o (lt_of_heapA h3) (by omega)]; exact h3, fun i hi => ?_⟩
    obtain ⟨q, qx, qy⟩ := h4 i hi
    exact ⟨q, qx.win hw hd, qy.win hw hd⟩
theorem VarsW.keep (h : VarsW lo hi w v n B S D) (hb : Below w.heap.size w w') : VarsW lo hi w' v n B S D := by
  obtain ⟨a, c, rfl, h⟩ := h
  refine ⟨a, c, rfl, ?_⟩
  rcases h with h | ⟨o, off, A, t, x, y, e, h1, h2, h3, h4⟩
  · exact .inl h
  · refine .inr ⟨o, off, A, t, x, y, e, h1, h2, by rw [hb.block o (lt_of_heapA h3)]; exact h3, fun i hi => ?_⟩
    obtain ⟨q, qx, qy⟩ := h4 i hi
    exact ⟨q, qx.keep hb, qy.keep hb⟩
theorem VarsW.mono {lo' : Nat} (h : VarsW lo hi w v n B S D) (hl : lo' ≤ lo) : VarsW lo' hi w v n B S D := by
  obtain ⟨a, c, rfl, h⟩ := h
  refine ⟨a, c, rfl, ?_⟩
  rcases h with h | ⟨o, off, A, t, x, y, e, h1, h2, h3, h4⟩
  · exact .inl h
  · refine .inr ⟨o, off, A, t, x, y, e, by omega, h2, h3, fun i hi => ?_⟩
    obtain ⟨q, qx, qy⟩ := h4 i hi
    exact ⟨q, qx.mono hl (Nat.le_refl _), qy.mono hl (Nat.le_refl _)⟩
end
/-- A list that grows: its row is its own, from block P on; its arrays lie from P on too, and not in the row's block. -/
def GVars (P : Nat) (w0 wr : World) (v : Value) (k : Nat) (B : Nat → Bool) (S D : Nat → List Int) : Prop :=
  ∃ (xs : List Value) (x y : Nat → Value), wr.ownsRow P 44 3 v k xs ∧ (∀ i, i < k → (xs[i * 3]? = some (.bool (B i)) ∧ xs[i * 3 + 1]? = some (x i) ∧ xs[i * 3 + 2]? = some (y i)) ∧ (Piece P wr.heap.size wr (x i) (S i) ∧ Piece P wr.heap.size wr (y i) (D i)) ∧ ∀ g, v.ownBlock = some g → NotAt g (x i) ∧ NotAt g (y i)) ∧ Below P w0 wr ∧ P ≤ wr.heap.size
section
variable {P : Nat} {w0 wr w' : World} {v : Value} {k : Nat} {B : Nat → Bool} {S D : Nat → List Int}
theorem GVars.below (h : GVars P w0 wr v k B S D) : Below P w0 wr := by obtain ⟨_, _, _, _, _, q, _⟩ := h; exact q
theorem GVars.keep (h : GVars P w0 wr v k B S D) (hb : Below wr.heap.size wr w') : GVars P w0 w' v k B S D := by
  obtain ⟨xs, x, y, h1, h2, h3, h4⟩ := h
  refine ⟨xs, x, y, ownsRow_keep h1 hb, fun i hi => ?_, h3.trans (hb.mono h4), Nat.le_trans h4 hb.size⟩
  obtain ⟨q1, ⟨q2, q2'⟩, q3⟩ := h2 i hi
  exact ⟨q1, ⟨(q2.keep hb).mono (Nat.le_refl _) hb.size, (q2'.keep hb).mono (Nat.le_refl _) hb.size⟩, q3⟩
theorem GVars.start (w : World) {P : Nat} (hB : P ≤ w.heap.size) (B : Nat → Bool) (S D : Nat → List Int) : GVars P w (w.alloc (.cells #[] 44)) (.slice (some ⟨w.heap.size, 0, none⟩) 0 0) 0 B S D :=
  ⟨[], fun _ => undef, fun _ => undef, ⟨by simp, .inr ⟨w.heap.size, 0, #[], rfl, hB, heap_alloc_new w _, Nat.le_refl _, by unfold maxLen; omega, by simp, by simp⟩⟩, fun i hi => absurd hi (by omega), (bAlloc (Below.refl _ _) _).mono hB, by simp; omega⟩
/-- One more. -/
theorem GVars.grow {w2 : World} {xa ya : Option Addr} {xc yc : Nat} (h : GVars P w0 wr v k B S D) (hb : Below wr.heap.size wr w2) (pa : Arr wr.heap.size w2.heap.size w2 (.agg #[.slice xa (S k).length xc, .slice ya (D k).length yc]) (S k) (D k)) (hk : k + 1 ≤ 1048576) :
    ∃ a' c' w3, (Builtin.append_ #[25, 25] 25 #[v, .slice (some ⟨w2.heap.size, 0, none⟩) 1 1]).run Try.prog (w2.alloc (.cells #[.bool (B k), .slice xa (S k).length xc, .slice ya (D k).length yc] 44)) = .ok (.slice a' (k + 1) c') w3 ∧ GVars P w0 w3 (.slice a' (k + 1) c') (k + 1) B S D ∧ Gr v w2 (.slice a' (k + 1) c') w3 := by
  obtain ⟨_, _, ev, px, py, _⟩ := pa
  cases ev
  obtain ⟨i, hq, z1, z2, z3⟩ : ∃ i, Try.prog.info? 44 = some i ∧ i.zero = some (.agg #[.bool false, .slice none 0 0, .slice none 0 0]) ∧ i.size = 3 ∧ i.bytes = 56 := by
    have hi := info_var9
    cases hq : Try.prog.info? 44 with
    | none => rw [hq] at hi; cases hi
    | some i => rw [hq] at hi; simp at hi; exact ⟨i, rfl, hi.1, hi.2.1, hi.2.2⟩
  have hlt : ∀ g, v.ownBlock = some g → g < wr.heap.size := fun g hg => by obtain ⟨xs, x, y, h1, _⟩ := h; exact own_lt h1 hg
  obtain ⟨xs, x, y, h1, h2, h3, h4⟩ := h
  have hz := hb.size
  have hba : Below wr.heap.size wr (w2.alloc (.cells #[.bool (B k), .slice xa (S k).length xc, .slice ya (D k).length yc] 44)) := bAlloc hb _
  have hnew := heap_alloc_new w2 (.cells #[.bool (B k), .slice xa (S k).length xc, .slice ya (D k).length yc] 44)
  have hsz : (w2.alloc (.cells #[.bool (B k), .slice xa (S k).length xc, .slice ya (D k).length yc] 44)).heap.size = w2.heap.size + 1 := by simp
  have hw2 : Below w2.heap.size w2 (w2.alloc (.cells #[.bool (B k), .slice xa (S k).length xc, .slice ya (D k).length yc] 44)) := bAlloc (Below.refl _ _) _
  have hpx := px.keep hw2
  have hpy := py.keep hw2
  generalize w2.alloc (.cells #[.bool (B k), .slice xa (S k).length xc, .slice ya (D k).length yc] 44) = wa at *
  have hl := h1.1
  obtain ⟨v', w', hr, g2, g3, _, g5⟩ := run_append_own_at (P := Try.prog) wa P 25 25 44 i _ 3 56 Try.underlying25 hq z1 z2 z3 rfl (by decide) v k xs (ownsRow_keep h1 hba) ⟨w2.heap.size, 0, none⟩ 1 1 [.bool (B k), .slice xa (S k).length xc, .slice ya (D k).length yc] (by simp)
    (by
      intro j u hj
      have e : (⟨w2.heap.size, 0, none⟩ : Addr).add j = ⟨w2.heap.size, j, none⟩ := by unfold Addr.add; split <;> simp_all
      rw [e]
      exact cell_at hnew (by simpa using hj))
    (by intro u hu; simp at hu; rcases hu with rfl | rfl | rfl <;> rfl) (by unfold maxLen; omega) (by omega) (by omega)
  obtain ⟨a', c', rfl⟩ : ∃ a' c', v' = .slice a' (k + 1) c' := by
    rcases g2.2 with ⟨e, h0⟩ | ⟨g, cap, cur, e, _⟩
    · omega
    · exact ⟨_, _, e⟩
  have gz := g3.size
  have hga : ∀ g, (Value.slice a' (k + 1) c').ownBlock = some g → v.ownBlock = some g ∨ g = wa.heap.size := fun g hg => by
    rcases g5 with e | e
    · exact .inl (by rw [← e]; exact hg)
    · rw [e] at hg; cases hg; exact .inr rfl
  refine ⟨a', c', w', hr, ⟨xs ++ [.bool (B k), .slice xa (S k).length xc, .slice ya (D k).length yc], fun i => if i = k then .slice xa (S k).length xc else x i, fun i => if i = k then .slice ya (D k).length yc else y i, g2, fun i hi => ?_, ?_, by omega⟩, ⟨?_, ?_, ?_, by omega, fun j hj hn => ?_, ?_⟩⟩
  · by_cases e : i = k
    · subst e
      simp only [if_true]
      refine ⟨⟨?_, ?_, ?_⟩, ⟨?_, ?_⟩, fun g hg => ?_⟩
      · rw [List.getElem?_append_right (by omega), show i * 3 - xs.length = 0 by omega]; rfl
      · rw [List.getElem?_append_right (by omega), show i * 3 + 1 - xs.length = 1 by omega]; rfl
      · rw [List.getElem?_append_right (by omega), show i * 3 + 2 - xs.length = 2 by omega]; rfl
      · exact (hpx.grown g3 fun g hg => px.notAt (.inl (hlt g hg))).mono (by omega) (by omega)
      · exact (hpy.grown g3 fun g hg => py.notAt (.inl (hlt g hg))).mono (by omega) (by omega)
      · rcases hga g hg with q | q
        · exact ⟨px.notAt (.inl (hlt g q)), py.notAt (.inl (hlt g q))⟩
        · exact ⟨px.notAt (.inr (by omega)), py.notAt (.inr (by omega))⟩
    · obtain ⟨⟨q0, q1, q2⟩, ⟨qz, qz'⟩, qn⟩ := h2 i (by omega)
      simp only [if_neg e]
      refine ⟨⟨?_, ?_, ?_⟩, ⟨?_, ?_⟩, fun g hg => ?_⟩
      · rw [List.getElem?_append_left (by omega)]; exact q0
      · rw [List.getElem?_append_left (by omega)]; exact q1
      · rw [List.getElem?_append_left (by omega)]; exact q2
      · exact (((qz.keep hba).grown g3 fun g hg => (qn g hg).1).mono (Nat.le_refl _) (by omega))
      · exact (((qz'.keep hba).grown g3 fun g hg => (qn g hg).2).mono (Nat.le_refl _) (by omega))
      · rcases hga g hg with q | q
        · exact qn g q
        · exact ⟨qz.notAt (.inr (by omega)), qz'.notAt (.inr (by omega))⟩
  · exact h3.trans ((hba.mono h4).trans ⟨g3.os, g3.tape, g3.output, g3.size, fun j hj => g3.block j (by omega) fun e => by
      have hB : ∀ g, v.ownBlock = some g → P ≤ g := fun g hg => by
        rcases h1.2 with ⟨rfl, _⟩ | ⟨g', cap, cur, rfl, hB, _⟩
        · simp [Value.ownBlock] at hg
        · simp [Value.ownBlock] at hg; omega
      have := hB j e.symm
      omega⟩)
  · exact g3.os.trans hw2.os
  · exact g3.tape.trans hw2.tape
  · exact g3.output.trans hw2.output
  · exact (g3.block j (by omega) hn).trans (hw2.block j hj)
  · rcases g5 with e | e
    · exact .inl e
    · exact .inr ⟨_, e, by omega⟩
theorem GVars.varsW (h : GVars P w0 wr v k B S D) : VarsW P wr.heap.size wr v k B S D := by
  obtain ⟨xs, x, y, h1, h2, h3, h4⟩ := h
  rcases h1.2 with ⟨rfl, rfl⟩ | ⟨g, cap, cur, rfl, hB, hg, hc, hm, hs, ht⟩
  · exact ⟨none, 0, rfl, .inl rfl⟩
  · refine ⟨_, cap, rfl, .inr ⟨g, 0, cur, _, x, y, rfl, hB, lt_of_heapA hg, hg, fun i hi => ?_⟩⟩
    have q : ∀ m, m < k * 3 → cur[0 + m]? = xs[m]? := fun m hm => by
      rw [← ht, List.getElem?_take_of_lt hm, Nat.zero_add]; simp
    obtain ⟨⟨r0, r1, r2⟩, qz, _⟩ := h2 i hi
    have q' : ∀ m j, m = i * 3 + j → j < 3 → cur[0 + i * 3 + j]? = xs[m]? := fun m j e hj => by rw [← q m (by omega), e, Nat.add_assoc]
    exact ⟨⟨(q' _ 0 rfl (by decide)).trans r0, (q' _ 1 rfl (by decide)).trans r1, (q' _ 2 rfl (by decide)).trans r2⟩, qz⟩
end
end Go.Proofs.Ytmknleholglhbaa
