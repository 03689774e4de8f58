/-
  A list of Instr that grows by one at its end; lists told within a window of blocks; lists of one's own, or none.
-/
import Derived.Test.YthmmeapokhfdiaaCodeK
import Derived.Test.YthmmeapokhfdiaaByt
import Derived.Test.YthmmeapokhfdiaaRowsI
namespace Go.Proofs.Ythmmeapokhfdiaa
open Go.RowKit
set_option linter.unusedVariables false
set_option linter.unusedSimpArgs false
/-- Told, and all of it lies from block lo on and below hi. -/
def InsW (lo hi : Nat) (w : World) (v : Value) (n : Nat) (E : Nat → Nat → Int) (N : Nat → List Int) : Prop :=
  ∃ a c, v = .slice a n c ∧ (n = 0 ∨ ∃ (o off : Nat) (A : Array Value) (t : TypeId) (x : Nat → Value), a = some ⟨o, off, none⟩ ∧ lo ≤ o ∧ o < hi ∧ w.heap[o]? = some (.cells A t (0, 0)) ∧ ∀ i, i < n →
    (A[off + i * 6]? = some (.int .i64 (E i 0)) ∧ A[off + i * 6 + 1]? = some (.int .i64 (E i 1)) ∧ A[off + i * 6 + 2]? = some (.int .i64 (E i 2)) ∧ A[off + i * 6 + 3]? = some (.int .i64 (E i 3)) ∧ A[off + i * 6 + 4]? = some (.int .i64 (E i 4)) ∧ A[off + i * 6 + 5]? = some (x i)) ∧ Piece lo hi w (x i) (N i))
section
variable {lo hi B C : Nat} {w w' : World} {v : Value} {n : Nat} {E : Nat → Nat → Int} {N : Nat → List Int}
theorem InsW.list (h : InsW lo hi w v n E N) : InsI w v n E N := by
  obtain ⟨a, c, rfl, h⟩ := h
  refine ⟨a, c, rfl, ?_⟩
  rcases h with h | ⟨o, off, A, t, x, e, h1, h2, h3, h4⟩
  · exact .inl h
  · refine .inr ⟨o, off, x, e, lt_of_heapA h3, fun i hi => ?_⟩
    obtain ⟨⟨q0, q1, q2, q3, q4, q5⟩, qz⟩ := h4 i hi
    exact ⟨⟨cell_at h3 q0, cell_at h3 q1, cell_at h3 q2, cell_at h3 q3, cell_at h3 q4, cell_at h3 q5⟩, qz.intsI⟩
theorem InsW.win (h : InsW lo hi w v n E N) (hw : Win B C w w') (hd : hi ≤ B ∨ C ≤ lo) : InsW lo hi w' v n E N := by
  obtain ⟨a, c, rfl, h⟩ := h
  refine ⟨a, c, rfl, ?_⟩
  rcases h with h | ⟨o, off, A, t, x, e, h1, h2, h3, h4⟩
  · exact .inl h
  · refine .inr ⟨o, off, A, t, x, e, h1, h2, by rw [hw.block o (lt_of_heapA h3) (by omega)]; exact h3, fun i hi => ?_⟩
    obtain ⟨q, qz⟩ := h4 i hi
    exact ⟨q, qz.win hw hd⟩
theorem InsW.keep (h : InsW lo hi w v n E N) (hb : Below w.heap.size w w') : InsW lo hi w' v n E N := by
  obtain ⟨a, c, rfl, h⟩ := h
  refine ⟨a, c, rfl, ?_⟩
  rcases h with h | ⟨o, off, A, t, x, e, h1, h2, h3, h4⟩
  · exact .inl h
  · refine .inr ⟨o, off, A, t, x, e, h1, h2, by rw [hb.block o (lt_of_heapA h3)]; exact h3, fun i hi => ?_⟩
    obtain ⟨q, qz⟩ := h4 i hi
    exact ⟨q, qz.keep hb⟩
theorem InsW.mono {lo' : Nat} (h : InsW lo hi w v n E N) (hl : lo' ≤ lo) : InsW lo' hi w v n E N := by
  obtain ⟨a, c, rfl, h⟩ := h
  refine ⟨a, c, rfl, ?_⟩
  rcases h with h | ⟨o, off, A, t, x, e, h1, h2, h3, h4⟩
  · exact .inl h
  · refine .inr ⟨o, off, A, t, x, e, by omega, h2, h3, fun i hi => ?_⟩
    obtain ⟨q, qz⟩ := h4 i hi
    exact ⟨q, qz.mono hl (Nat.le_refl _)⟩
theorem InsW.nil (a : Option Addr) (c : Nat) : InsW lo hi w (.slice a 0 c) 0 E N := ⟨a, c, rfl, .inl rfl⟩
end
/-- A list that grows: its row is its own, from block B on; its lists lie from B on too, and not in the row's block. -/
def GIns (B : Nat) (w0 wr : World) (v : Value) (k : Nat) (E : Nat → Nat → Int) (N : Nat → List Int) : Prop :=
  ∃ (xs : List Value) (x : Nat → Value), wr.ownsRow B 47 6 v k xs ∧ (∀ i, i < k → (xs[i * 6]? = some (.int .i64 (E i 0)) ∧ xs[i * 6 + 1]? = some (.int .i64 (E i 1)) ∧ xs[i * 6 + 2]? = some (.int .i64 (E i 2)) ∧ xs[i * 6 + 3]? = some (.int .i64 (E i 3)) ∧ xs[i * 6 + 4]? = some (.int .i64 (E i 4)) ∧ xs[i * 6 + 5]? = some (x i)) ∧ Piece B wr.heap.size wr (x i) (N i) ∧ ∀ g, v.ownBlock = some g → NotAt g (x i)) ∧ Below B w0 wr ∧ B ≤ wr.heap.size
section
variable {B : Nat} {w0 wr w' : World} {v : Value} {k : Nat} {E : Nat → Nat → Int} {N : Nat → List Int}
theorem GIns.below (h : GIns B w0 wr v k E N) : Below B w0 wr := by obtain ⟨_, _, _, _, q, _⟩ := h; exact q
theorem GIns.keep (h : GIns B w0 wr v k E N) (hb : Below wr.heap.size wr w') : GIns B w0 w' v k E N := by
  obtain ⟨xs, x, h1, h2, h3, h4⟩ := h
  refine ⟨xs, x, ownsRow_keep h1 hb, fun i hi => ?_, h3.trans (hb.mono h4), Nat.le_trans h4 hb.size⟩
  obtain ⟨q1, q2, q3⟩ := h2 i hi
  exact ⟨q1, (q2.keep hb).mono (Nat.le_refl _) hb.size, q3⟩
theorem GIns.start (w : World) {B : Nat} (hB : B ≤ w.heap.size) (E : Nat → Nat → Int) (N : Nat → List Int) : GIns B w (w.alloc (.cells #[] 47)) (.slice (some ⟨w.heap.size, 0, none⟩) 0 0) 0 E N :=
  ⟨[], fun _ => undef, ⟨by simp, .inr ⟨w.heap.size, 0, #[], rfl, hB, heap_alloc_new w _, Nat.le_refl _, by unfold maxLen; omega, by simp, by simp⟩⟩, fun i hi => absurd hi (by omega), (bAlloc (Below.refl _ _) _).mono hB, by simp; omega⟩
theorem info_instrG : (Try.prog.info? 47).map (fun i => (i.zero, i.size, i.bytes)) = some (some (.agg #[.int .i64 0, .int .i64 0, .int .i64 0, .int .i64 0, .int .i64 0, .slice none 0 0]), 6, 64) := by kernel_rfl
/-- One more. -/
theorem GIns.grow {w2 : World} {xa : Option Addr} {xc : Nat} (h : GIns B w0 wr v k E N) (hb : Below wr.heap.size wr w2) {e : Nat → Int} (he : e = E k) (px : Piece wr.heap.size w2.heap.size w2 (.slice xa (N k).length xc) (N k)) (hk : k + 1 ≤ 1048576) :
    ∃ a' c' w3, (Builtin.append_ #[27, 27] 27 #[v, .slice (some ⟨w2.heap.size, 0, none⟩) 1 1]).run Try.prog (w2.alloc (.cells #[.int .i64 (e 0), .int .i64 (e 1), .int .i64 (e 2), .int .i64 (e 3), .int .i64 (e 4), .slice xa (N k).length xc] 47)) = .ok (.slice a' (k + 1) c') w3 ∧ GIns B w0 w3 (.slice a' (k + 1) c') (k + 1) E N ∧ Gr v w2 (.slice a' (k + 1) c') w3 := by
  subst he
  obtain ⟨i, hq, z1, z2, z3⟩ : ∃ i, Try.prog.info? 47 = some i ∧ i.zero = some (.agg #[.int .i64 0, .int .i64 0, .int .i64 0, .int .i64 0, .int .i64 0, .slice none 0 0]) ∧ i.size = 6 ∧ i.bytes = 64 := by
    have hi := info_instrG
    cases hq : Try.prog.info? 47 with
    | none => rw [hq] at hi; cases hi
    | some i => rw [hq] at hi; simp at hi; exact ⟨i, rfl, hi.1, hi.2.1, hi.2.2⟩
  have hlt : ∀ g, v.ownBlock = some g → g < wr.heap.size := fun g hg => by obtain ⟨xs, x, h1, _⟩ := h; exact own_lt h1 hg
  obtain ⟨xs, x, h1, h2, h3, h4⟩ := h
  have hz := hb.size
  have hba : Below wr.heap.size wr (w2.alloc (.cells #[.int .i64 (E k 0), .int .i64 (E k 1), .int .i64 (E k 2), .int .i64 (E k 3), .int .i64 (E k 4), .slice xa (N k).length xc] 47)) := bAlloc hb _
  have hnew := heap_alloc_new w2 (.cells #[.int .i64 (E k 0), .int .i64 (E k 1), .int .i64 (E k 2), .int .i64 (E k 3), .int .i64 (E k 4), .slice xa (N k).length xc] 47)
  have hsz : (w2.alloc (.cells #[.int .i64 (E k 0), .int .i64 (E k 1), .int .i64 (E k 2), .int .i64 (E k 3), .int .i64 (E k 4), .slice xa (N k).length xc] 47)).heap.size = w2.heap.size + 1 := by simp
  have hpx := px.keep (bAlloc (Below.refl w2.heap.size w2) (.cells #[.int .i64 (E k 0), .int .i64 (E k 1), .int .i64 (E k 2), .int .i64 (E k 3), .int .i64 (E k 4), .slice xa (N k).length xc] 47))
  have hw2 : Below w2.heap.size w2 (w2.alloc (.cells #[.int .i64 (E k 0), .int .i64 (E k 1), .int .i64 (E k 2), .int .i64 (E k 3), .int .i64 (E k 4), .slice xa (N k).length xc] 47)) := bAlloc (Below.refl _ _) _
  generalize w2.alloc (.cells #[.int .i64 (E k 0), .int .i64 (E k 1), .int .i64 (E k 2), .int .i64 (E k 3), .int .i64 (E k 4), .slice xa (N k).length xc] 47) = wa at *
  have hl := h1.1
  obtain ⟨v', w', hr, g2, g3, _, g5⟩ := run_append_own_at (P := Try.prog) wa B 27 27 47 i _ 6 64 Try.underlying27 hq z1 z2 z3 rfl (by decide) v k xs (ownsRow_keep h1 hba) ⟨w2.heap.size, 0, none⟩ 1 1 [.int .i64 (E k 0), .int .i64 (E k 1), .int .i64 (E k 2), .int .i64 (E k 3), .int .i64 (E k 4), .slice xa (N k).length xc] (by simp)
    (by
      intro j u hj
      have e : (⟨w2.heap.size, 0, none⟩ : Addr).add j = ⟨w2.heap.size, j, none⟩ := by unfold Addr.add; split <;> simp_all
      rw [e]
      exact cell_at hnew (by simpa using hj))
    (by intro u hu; simp at hu; rcases hu with rfl | rfl | rfl | rfl | rfl | rfl <;> rfl) (by unfold maxLen; omega) (by omega) (by omega)
  obtain ⟨a', c', rfl⟩ : ∃ a' c', v' = .slice a' (k + 1) c' := by
    rcases g2.2 with ⟨e, h0⟩ | ⟨g, cap, cur, e, _⟩
    · omega
    · exact ⟨_, _, e⟩
  have gz := g3.size
  have hga : ∀ g, (Value.slice a' (k + 1) c').ownBlock = some g → v.ownBlock = some g ∨ g = wa.heap.size := fun g hg => by
    rcases g5 with e | e
    · exact .inl (by rw [← e]; exact hg)
    · rw [e] at hg; cases hg; exact .inr rfl
  refine ⟨a', c', w', hr, ⟨xs ++ [.int .i64 (E k 0), .int .i64 (E k 1), .int .i64 (E k 2), .int .i64 (E k 3), .int .i64 (E k 4), .slice xa (N k).length xc], fun i => if i = k then .slice xa (N k).length xc else x i, g2, fun i hi => ?_, ?_, by omega⟩, ⟨?_, ?_, ?_, by omega, fun j hj hn => ?_, ?_⟩⟩
  · by_cases e : i = k
    · subst e
      simp only [if_true]
      refine ⟨⟨?_, ?_, ?_, ?_, ?_, ?_⟩, ?_, fun g hg => ?_⟩
      · rw [List.getElem?_append_right (by omega), show i * 6 - xs.length = 0 by omega]; rfl
      · rw [List.getElem?_append_right (by omega), show i * 6 + 1 - xs.length = 1 by omega]; rfl
      · rw [List.getElem?_append_right (by omega), show i * 6 + 2 - xs.length = 2 by omega]; rfl
      · rw [List.getElem?_append_right (by omega), show i * 6 + 3 - xs.length = 3 by omega]; rfl
      · rw [List.getElem?_append_right (by omega), show i * 6 + 4 - xs.length = 4 by omega]; rfl
      · rw [List.getElem?_append_right (by omega), show i * 6 + 5 - xs.length = 5 by omega]; rfl
      · exact (hpx.grown g3 fun g hg => px.notAt (.inl (hlt g hg))).mono (by omega) (by omega)
      · rcases hga g hg with q | q
        · exact px.notAt (.inl (hlt g q))
        · exact px.notAt (.inr (by omega))
    · obtain ⟨⟨q0, q1, q2, q3, q4, q5⟩, qz, qn⟩ := h2 i (by omega)
      simp only [if_neg e]
      refine ⟨⟨?_, ?_, ?_, ?_, ?_, ?_⟩, ?_, fun g hg => ?_⟩
      · rw [List.getElem?_append_left (by omega)]; exact q0
      · rw [List.getElem?_append_left (by omega)]; exact q1
      · rw [List.getElem?_append_left (by omega)]; exact q2
      · rw [List.getElem?_append_left (by omega)]; exact q3
      · rw [List.getElem?_append_left (by omega)]; exact q4
      · rw [List.getElem?_append_left (by omega)]; exact q5
      · exact (((qz.keep hba).grown g3 qn).mono (Nat.le_refl _) (by omega))
      · rcases hga g hg with q | q
        · exact qn g q
        · exact qz.notAt (.inr (by omega))
  · exact h3.trans ((hba.mono h4).trans ⟨g3.os, g3.tape, g3.output, g3.size, fun j hj => g3.block j (by omega) fun e => by
      have hB : ∀ g, v.ownBlock = some g → B ≤ g := fun g hg => by
        rcases h1.2 with ⟨rfl, _⟩ | ⟨g', cap, cur, rfl, hB, _⟩
        · simp [Value.ownBlock] at hg
        · simp [Value.ownBlock] at hg; omega
      have := hB j e.symm
      omega⟩)
  · exact g3.os.trans hw2.os
  · exact g3.tape.trans hw2.tape
  · exact g3.output.trans hw2.output
  · exact (g3.block j (by omega) hn).trans (hw2.block j hj)
  · rcases g5 with e | e
    · exact .inl e
    · exact .inr ⟨_, e, by omega⟩
theorem GIns.insW (h : GIns B w0 wr v k E N) : InsW B wr.heap.size wr v k E N := by
  obtain ⟨xs, x, h1, h2, h3, h4⟩ := h
  rcases h1.2 with ⟨rfl, rfl⟩ | ⟨g, cap, cur, rfl, hB, hg, hc, hm, hs, ht⟩
  · exact ⟨none, 0, rfl, .inl rfl⟩
  · refine ⟨_, cap, rfl, .inr ⟨g, 0, cur, _, x, rfl, hB, lt_of_heapA hg, hg, fun i hi => ?_⟩⟩
    have q : ∀ m, m < k * 6 → cur[0 + m]? = xs[m]? := fun m hm => by
      rw [← ht, List.getElem?_take_of_lt hm, Nat.zero_add]; simp
    obtain ⟨⟨r0, r1, r2, r3, r4, r5⟩, qz, _⟩ := h2 i hi
    have q' : ∀ m j, m = i * 6 + j → j < 6 → cur[0 + i * 6 + j]? = xs[m]? := fun m j e hj => by rw [← q m (by omega), e, Nat.add_assoc]
    exact ⟨⟨(q' _ 0 rfl (by decide)).trans r0, (q' _ 1 rfl (by decide)).trans r1, (q' _ 2 rfl (by decide)).trans r2, (q' _ 3 rfl (by decide)).trans r3, (q' _ 4 rfl (by decide)).trans r4, (q' _ 5 rfl (by decide)).trans r5⟩, qz⟩
end
/-- None, or one's own. -/
def OwnVInsI (lo hi : Nat) (w : World) (v : Value) (n : Nat) (E : Nat → Nat → Int) (N : Nat → List Int) : Prop :=
  (n = 0 ∧ ∃ a c, v = .slice a 0 c) ∨ ∃ o, v = .slice (some ⟨o, 0, none⟩) n n ∧ lo ≤ o ∧ OwnInsI o hi n n w E N
section
variable {lo hi B C : Nat} {w w' : World} {v : Value} {n : Nat} {E : Nat → Nat → Int} {N : Nat → List Int}
theorem OwnVInsI.nil (a : Option Addr) (c : Nat) : OwnVInsI lo hi w (.slice a 0 c) 0 E N := .inl ⟨rfl, a, c, rfl⟩
theorem OwnVInsI.slice (h : OwnVInsI lo hi w v n E N) : ∃ a c, v = .slice a n c := by
  rcases h with ⟨rfl, a, c, rfl⟩ | ⟨o, rfl, _⟩
  · exact ⟨a, c, rfl⟩
  · exact ⟨_, _, rfl⟩
theorem OwnVInsI.list (h : OwnVInsI lo hi w v n E N) : InsI w v n E N := by
  rcases h with ⟨rfl, a, c, rfl⟩ | ⟨o, rfl, _, h⟩
  · exact ⟨a, c, rfl, .inl rfl⟩
  · exact h.list
theorem OwnVInsI.keep (h : OwnVInsI lo hi w v n E N) (hb : Below w.heap.size w w') : OwnVInsI lo hi w' v n E N := by
  rcases h with h | ⟨o, e, ho, h⟩
  · exact .inl h
  · exact .inr ⟨o, e, ho, h.keep hb⟩
theorem OwnVInsI.win (h : OwnVInsI lo hi w v n E N) (hw : Win B C w w') (hd : hi ≤ B ∨ C ≤ lo) : OwnVInsI lo hi w' v n E N := by
  rcases h with h | ⟨o, e, ho, h⟩
  · exact .inl h
  · exact .inr ⟨o, e, ho, h.win hw (by omega)⟩
theorem markInstrS_nil (a : Option Addr) (c : Nat) (k0 : Int) (w : World) :
    Calls Try.prog 11 #[.slice a 0 c, .int .i64 k0] w fun e w' => e = .returned (.int .i64 k0) ∧ w' = w := by
  go_enter Try.func11, Try.ntmps11
  go_wp2
  refine wp_loop_rounds 1 ?_
  rw [rounds_succ]
  go_wp2
  go_ret
  exact ⟨rfl, rfl⟩
theorem heldInstrS_nil (a : Option Addr) (c : Nat) (k0 : Int) (w : World) :
    Calls Try.prog 17 #[.slice a 0 c, .int .i64 k0] w fun e w' => e = .returned (.int .i64 k0) ∧ w' = w := by
  go_enter Try.func17, Try.ntmps17
  go_wp2
  refine wp_loop_rounds 1 ?_
  rw [rounds_succ]
  go_wp2
  go_ret
  exact ⟨rfl, rfl⟩
theorem OwnVInsI.mark (h : OwnVInsI lo hi w v n E N) (hl : ∀ i, (N i).length ≤ 1048576) (hn : n ≤ 1048576) (k0 : Int) (p1 : 0 ≤ k0) (p2 : k0 ≤ 1099511627776) :
    Calls Try.prog 11 #[v, .int .i64 k0] w fun e w' => e = .returned (.int .i64 (k0 + (totN 5 N n : Int))) ∧ (∃ E' N', OwnVInsI lo hi w' v n E' N' ∧ MkdInsI k0 N n E' N') ∧ Win lo hi w w' := by
  rcases h with ⟨rfl, a, c, rfl⟩ | ⟨o, rfl, ho, h⟩
  · refine (markInstrS_nil a c k0 w).mono ?_
    rintro e w' ⟨rfl, rfl⟩
    exact ⟨by simp [totN], ⟨E, N, .inl ⟨rfl, a, c, rfl⟩, fun i hi => absurd hi (by omega)⟩, Win.refl _ _ _⟩
  · refine (markInstrS_at h hl hn k0 p1 p2).mono ?_
    rintro e w' ⟨rfl, ⟨E', N', h1, h2⟩, hw⟩
    exact ⟨rfl, ⟨E', N', .inr ⟨o, rfl, ho, h1⟩, h2⟩, ⟨hw.os, hw.tape, hw.output, hw.size, fun k hk hd => hw.block k hk (by omega)⟩⟩
theorem OwnVInsI.held {N0 : Nat → List Int} (h : OwnVInsI lo hi w v n E N) (k0 : Int) (hm : MkdInsI k0 N0 n E N) (hl : ∀ i, (N0 i).length ≤ 1048576) (hn : n ≤ 1048576) (hT : totN 5 N0 n ≤ 1073741824) (p1 : 0 ≤ k0) (p2 : k0 ≤ 1073741824) :
    Calls Try.prog 17 #[v, .int .i64 k0] w fun e w' => e = .returned (.int .i64 (k0 + (totN 5 N0 n : Int))) ∧ w' = w := by
  rcases h with ⟨rfl, a, c, rfl⟩ | ⟨o, rfl, ho, h⟩
  · refine (heldInstrS_nil a c k0 w).mono ?_
    rintro e w' ⟨rfl, rfl⟩
    exact ⟨by simp [totN], rfl⟩
  · exact heldInstrS_at k0 h hm hl hn hT p1 p2
end
end Go.Proofs.Ythmmeapokhfdiaa
