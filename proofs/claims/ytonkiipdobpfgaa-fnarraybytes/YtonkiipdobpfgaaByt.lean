/-
  Lists of bytes: told by value, of one's own, growing; held against each other, marked, and looked at.
-/
import Derived.Test.YtonkiipdobpfgaaGrow
import Derived.Test.YtonkiipdobpfgaaInts
namespace Go.Proofs.Ytonkiipdobpfgaa
open Go.RowKit
set_option linter.unusedVariables false
set_option linter.unusedSimpArgs false
def bvals (l : List Int) : Array Value := (l.map (Value.int .u8)).toArray
theorem bvals_at {l : List Int} {k : Nat} (h : k < l.length) : (bvals l)[k]? = some (.int .u8 (l.getD k 0)) := by simp [bvals, h]
/-- A slice's address leads to these bytes. -/
def Bys (w : World) (a : Option Addr) (l : List Int) : Prop :=
  l = [] ∨ ∃ b off, a = some ⟨b, off, none⟩ ∧ b < w.heap.size ∧ ∀ k, k < l.length → w.cell? ⟨b, off + k, none⟩ = some (.int .u8 (l.getD k 0))
theorem Bys.keep {w w' : World} {a : Option Addr} {l : List Int} (h : Bys w a l) (hb : Below w.heap.size w w') : Bys w' a l := by
  rcases h with h | ⟨b, off, e, hB, hc⟩
  · exact .inl h
  · exact .inr ⟨b, off, e, Nat.lt_of_lt_of_le hB hb.size, fun k hk => by rw [hb.cell (p := ⟨b, off + k, none⟩) hB]; exact hc k hk⟩
theorem bys_new (w : World) (l : List Int) (t : TypeId) : Bys (w.alloc (.cells (bvals l) t)) (some ⟨w.heap.size, 0, none⟩) l :=
  .inr ⟨w.heap.size, 0, rfl, by simp, fun k hk => by rw [World.cell?_alloc_at _ _ _ _ rfl, Nat.zero_add]; exact bvals_at hk⟩
theorem Bys.at {w : World} {a : Option Addr} {l : List Int} (h : Bys w a l) {k : Nat} (hk : k < l.length) : ∃ b off, a = some ⟨b, off, none⟩ ∧ b < w.heap.size ∧ w.cell? ⟨b, off + k, none⟩ = some (.int .u8 (l.getD k 0)) := by
  rcases h with h | ⟨b, off, e, hB, hc⟩
  · subst h; simp at hk
  · exact ⟨b, off, e, hB, hc k hk⟩
/-- A list of numbers in memory from block B on, which nothing else shares. -/
def NewB (B : Nat) (w : World) (v : Value) (l : List Int) : Prop := w.ownsRow B 5 1 v l.length (l.map (Value.int .u8))
theorem NewB.bys {B : Nat} {w : World} {v : Value} {l : List Int} (h : NewB B w v l) : ∃ a c, v = .slice a l.length c ∧ Bys w a l := by
  obtain ⟨h1, h2⟩ := h
  rcases h2 with ⟨rfl, h0⟩ | ⟨g, cap, cur, rfl, hB, hg, hc, hm, hs, ht⟩
  · have : l = [] := List.eq_nil_of_length_eq_zero h0
    subst this
    exact ⟨none, 0, rfl, .inl rfl⟩
  · refine ⟨_, cap, rfl, .inr ⟨g, 0, rfl, (Array.getElem?_eq_some_iff.1 hg).1, fun k hk => ?_⟩⟩
    have e : cur[k]? = some (.int .u8 (l.getD k 0)) := by
      have h3 : (cur.toList.take (l.length * 1))[k]? = (l.map (Value.int .u8))[k]? := by rw [ht]
      rw [Nat.mul_one, List.getElem?_take_of_lt hk] at h3
      simpa [hk] using h3
    simp only [World.cell?, hg, Nat.zero_add]
    simpa using e
theorem NewB.mono {B B' : Nat} {w : World} {v : Value} {l : List Int} (h : NewB B w v l) (hB : B' ≤ B) : NewB B' w v l := by
  obtain ⟨h1, h2⟩ := h
  refine ⟨h1, ?_⟩
  rcases h2 with h2 | ⟨g, cap, cur, e, hg, r⟩
  · exact .inl h2
  · exact .inr ⟨g, cap, cur, e, by omega, r⟩
theorem NewB.row {B : Nat} {w : World} {v : Value} {l : List Int} (h : NewB B w v l) : ∀ k, v.ownBlock = some k → B ≤ k := by
  obtain ⟨h1, h2⟩ := h
  intro k hk
  rcases h2 with ⟨rfl, _⟩ | ⟨g, cap, cur, rfl, hB, _⟩
  · simp [Value.ownBlock] at hk
  · simp [Value.ownBlock] at hk; omega
theorem newB_alloc (w : World) (l : List Int) {B : Nat} (hB : B ≤ w.heap.size) (hl : l.length ≤ 1073741824) : NewB B (w.alloc (.cells (bvals l) 5)) (.slice (some ⟨w.heap.size, 0, none⟩) l.length l.length) l := by
  refine ⟨by simp, .inr ⟨w.heap.size, l.length, bvals l, rfl, hB, heap_alloc_new w _, Nat.le_refl _, by unfold maxLen; omega, by simp [bvals], ?_⟩⟩
  simp only [bvals, Nat.mul_one]
  exact List.take_of_length_le (by simp)
theorem info_u8 : (Try.prog.info? 5).map (fun i => (i.zero, i.size, i.bytes)) = some (some (.int .u8 0), 1, 1) := by kernel_rfl
theorem bys_news {w : World} {b off : Nat} {l : List Int} (h : ∀ k, k < l.length → w.cell? ⟨b, off + k, none⟩ = some (.int .u8 (l.getD k 0))) : ∀ (j : Nat) (v : Value), (l.map (Value.int .u8))[j]? = some v → w.cell? ((⟨b, off, none⟩ : Addr).add j) = some v := by
  intro j v hv
  rw [List.getElem?_map] at hv
  cases hx : l[j]? with
  | none => rw [hx] at hv; cases hv
  | some x =>
    rw [hx] at hv
    obtain ⟨hj, rfl⟩ := List.getElem?_eq_some_iff.1 hx
    have e : (⟨b, off, none⟩ : Addr).add j = ⟨b, off + j, none⟩ := by unfold Addr.add; split <;> simp_all
    rw [e, h j hj]
    simpa [hj] using hv
/-- What an append leaves: no block has turned but the list's own, and it lies there still, or in a new one. -/
structure Gr (v : Value) (w : World) (v' : Value) (w' : World) : Prop where
  os : w'.os = w.os
  tape : w'.tape = w.tape
  output : w'.output = w.output
  size : w.heap.size ≤ w'.heap.size
  block : ∀ k, k < w.heap.size → some k ≠ v.ownBlock → w'.heap[k]? = w.heap[k]?
  own : v'.ownBlock = v.ownBlock ∨ ∃ o, v'.ownBlock = some o ∧ w.heap.size ≤ o
theorem Gr.refl (v : Value) (w : World) : Gr v w v w := ⟨rfl, rfl, rfl, Nat.le_refl _, fun _ _ _ => rfl, .inl rfl⟩
theorem Gr.trans {v v1 v2 : Value} {w w1 w2 : World} (h : Gr v w v1 w1) (k : Gr v1 w1 v2 w2) : Gr v w v2 w2 := by
  refine ⟨k.os.trans h.os, k.tape.trans h.tape, k.output.trans h.output, Nat.le_trans h.size k.size, fun j hj hn => ?_, ?_⟩
  · rw [k.block j (Nat.lt_of_lt_of_le hj h.size) ?_]
    · exact h.block j hj hn
    · rcases h.own with e | ⟨o, e, ho⟩
      · rw [e]; exact hn
      · rw [e]; intro hh; cases hh; omega
  · rcases k.own with e | ⟨o, e, ho⟩
    · rw [e]
      exact h.own
    · exact .inr ⟨o, e, Nat.le_trans h.size ho⟩
theorem Gr.below {B : Nat} {v v' : Value} {w w' : World} (h : Gr v w v' w') (hr : ∀ k, v.ownBlock = some k → B ≤ k) (hB : B ≤ w.heap.size) : Below B w w' :=
  ⟨h.os, h.tape, h.output, h.size, fun k hk => h.block k (by omega) (fun e => by have := hr k e.symm; omega)⟩
/-- What is new behind the list's growing stays. -/
theorem Gr.alloc {v : Value} {w : World} (o : Obj) : Gr v w v (w.alloc o) := by
  refine ⟨rfl, rfl, rfl, by simp, fun k hk _ => heap_alloc_old _ _ hk, .inl rfl⟩
theorem Gr.drew {v v' : Value} {w w' : World} (h : Gr v w v' w') : Gr v w v' w'.drew := ⟨h.os, h.tape, h.output, h.size, h.block, h.own⟩
/-- Growing by a list. -/
theorem growBL {B : Nat} {w : World} {v : Value} {l m : List Int} {a : Option Addr} (h : NewB B w v l) (hm : Bys w a m) (hB : B ≤ w.heap.size) (hl : l.length + m.length ≤ 1048576) (c : Nat) :
    ∃ a' c' w', (Builtin.append_ #[26, 26] 26 #[v, .slice a m.length c]).run Try.prog w = .ok (.slice a' (l ++ m).length c') w' ∧ NewB B w' (.slice a' (l ++ m).length c') (l ++ m) ∧ Gr v w (.slice a' (l ++ m).length c') w' := by
  obtain ⟨i, hq, z1, z2, z3⟩ : ∃ i, Try.prog.info? 5 = some i ∧ i.zero = some (.int .u8 0) ∧ i.size = 1 ∧ i.bytes = 1 := by
    have hi := info_u8
    cases hq : Try.prog.info? 5 with
    | none => rw [hq] at hi; cases hi
    | some i => rw [hq] at hi; simp at hi; exact ⟨i, rfl, hi.1, hi.2.1, hi.2.2⟩
  cases a with
  | none =>
    obtain rfl : m = [] := by
      rcases hm with h | ⟨b, off, e, _⟩
      · exact h
      · cases e
    obtain ⟨base, cap, rfl, hle⟩ : ∃ base cap, v = .slice base l.length cap ∧ l.length ≤ cap := by
      rcases h.2 with ⟨e, h0⟩ | ⟨g, cap, cur, e, _, _, hle, _⟩
      · exact ⟨none, 0, by rw [e, h0], by omega⟩
      · exact ⟨_, cap, e, hle⟩
    refine ⟨base, cap, w, ?_, by simpa using h, by simpa using Gr.refl (.slice base l.length cap) w⟩
    have := run_append_nothing (P := Try.prog) w 26 26 26 5 i Try.underlying26 hq base l.length cap hle (.slice none 0 c) (by rw [z2]; exact Src.ofNil w Try.underlying26 c)
    simpa using this
  | some ad =>
    have hn : ∀ (j : Nat) (u : Value), (m.map (Value.int .u8))[j]? = some u → w.cell? (ad.add j) = some u := by
      rcases hm with rfl | ⟨b, off, e, _, hc⟩
      · intro j u hu; simp at hu
      · cases e; exact bys_news hc
    obtain ⟨v', w', hr, h2, h3, _, h6⟩ := run_append_own_at (P := Try.prog) w B 26 26 5 i (.int .u8 0) 1 1 Try.underlying26 hq z1 z2 z3 rfl (by decide) v l.length (l.map (Value.int .u8)) h ad m.length c (m.map (Value.int .u8)) (by simp) hn (by intro u hu; obtain ⟨x, _, rfl⟩ := List.mem_map.1 hu; rfl) (by unfold maxLen; omega) (by omega) hB
    have h2' : NewB B w' v' (l ++ m) := by
      show World.ownsRow _ _ _ _ _ _ _
      simpa using h2
    obtain ⟨a', c', rfl, _⟩ := h2'.bys
    exact ⟨a', c', w', hr, h2', ⟨h3.os, h3.tape, h3.output, h3.size, h3.block, h6.imp id fun e => ⟨_, e, Nat.le_refl _⟩⟩⟩
theorem NewB.keep {B : Nat} {w w' : World} {v : Value} {l : List Int} (h : NewB B w v l) (hb : Below w.heap.size w w') : NewB B w' v l := ownsRow_keep h hb
/-- Growing by bytes that are written out. -/
theorem growBs {B : Nat} {w : World} {v : Value} {l : List Int} (m : List Int) (h : NewB B w v l) (hB : B ≤ w.heap.size) (hl : l.length + m.length ≤ 1048576) :
    ∃ a' c' w', (Builtin.append_ #[26, 26] 26 #[v, .slice (some ⟨w.heap.size, 0, none⟩) m.length m.length]).run Try.prog (w.alloc (.cells (bvals m) 5)) = .ok (.slice a' (l ++ m).length c') w' ∧ NewB B w' (.slice a' (l ++ m).length c') (l ++ m) ∧ Gr v w (.slice a' (l ++ m).length c') w' := by
  obtain ⟨a', c', w', hr, h2, h3⟩ := growBL (ownsRow_keep h (bAlloc (Below.refl _ _) (.cells (bvals m) 5))) (bys_new w m 5) (by simp; omega) hl m.length
  exact ⟨a', c', w', hr, h2, (Gr.alloc _).trans h3⟩
set_option maxHeartbeats 2000000 in
/-- eqByteS of two lists of the same bytes. -/
theorem eqB_same {l : List Int} {a b : Option Addr} {w : World} (c d : Nat) (hn : l.length ≤ 1048576) (h1 : Bys w a l) (h2 : Bys w b l) :
    Calls Try.prog 10 #[.slice a l.length c, .slice b l.length d] w fun e w' => e = .returned (.bool true) ∧ ∃ j, w' = w.drewN j := by
  have H1 : Hid (Bys w a l) := h1
  have H2 : Hid (Bys w b l) := h2
  obtain ⟨n, e1⟩ : ∃ n, l.length = n := ⟨_, rfl⟩
  have E1 : Hid (l.length = n) := e1
  rw [e1] at hn ⊢
  clear h1 h2 e1
  go_enter Try.func10, Try.ntmps10
  go_wp2
  go_loopw [5] (fun i w' => ∃ k : Nat, k ≤ n ∧ i = .int .i64 k ∧ ∃ j, w' = w.drewN j) (fun i _ => n - (intOf i).toNat)
  case atStart => exact ⟨0, by omega, rfl, 0, rfl⟩
  case round =>
    obtain ⟨k, hk, rfl, j, rfl⟩ := hrel
    by_cases hlt : (k : Int) < (n : Int)
    · have L1 : k < l.length := by have := E1.out; omega
      obtain ⟨b1, o1, rfl, _, c1⟩ := H1.out.at L1
      obtain ⟨b2, o2, rfl, _, c2⟩ := H2.out.at L1
      clear L1
      generalize l.getD k 0 = x at c1 c2
      go_wp2
      go_quiet (fail)
      go_wp2
      go_roundw
      case rel => exact ⟨k + 1, by omega, by go_num, _, rfl⟩
      case measure => simp [intOf]; omega
    · go_wp2
      go_ret
      exact ⟨rfl, _, rfl⟩
end Go.Proofs.Ytonkiipdobpfgaa
