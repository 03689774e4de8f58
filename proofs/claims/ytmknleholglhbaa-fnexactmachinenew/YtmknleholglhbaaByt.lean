
/-
  Lists of bytes: told by value, of one's own, growing; held against each other, marked, and looked at.
-/
import Derived.Test.YtmknleholglhbaaGrow
import Derived.Test.YtmknleholglhbaaInts
namespace Go.Proofs.Ytmknleholglhbaa
open Go.RowKit
set_option linter.unusedVariables false
set_option linter.unusedSimpArgs false
def bvals (l : List Int) : Array Value := (l.map (Value.int .u8)).toArray
theorem bvals_at {l : List Int} {k : Nat} (h : k < l.length) : (bvals l)[k]? = some (.int .u8 (l.getD k 0)) := by simp [bvals, h]
/-- A slice's address leads to these bytes. -/
def Bys (w : World) (a : Option Addr) (l : List Int) : Prop :=
  l = [] ∨ ∃ b off, a = some ⟨b, off, none⟩ ∧ b < w.heap.size ∧ ∀ k, k < l.length → w.cell? ⟨b, off + k, none⟩ = some (.int .u8 (l.getD k 0))
theorem Bys.keep {w w' : World} {a : Option Addr} {l : List Int} (h : Bys w a l) (hb : Below w.heap.size w w') : Bys w' a l := by
  rcases h with h | ⟨b, off, e, hB, hc⟩
  · exact .inl h
  · exact .inr ⟨b, off, e, Nat.lt_of_lt_of_le hB hb.size, fun k hk => by rw [hb.cell (p := ⟨b, off + k, none⟩) hB]; exact hc k hk⟩
theorem bys_new (w : World) (l : List Int) (t : TypeId) : Bys (w.alloc (.cells (bvals l) t)) (some ⟨w.heap.size, 0, none⟩) l :=
  .inr ⟨w.heap.size, 0, rfl, by simp, fun k hk => by rw [World.cell?_alloc_at _ _ _ _ rfl, Nat.zero_add]; exact bvals_at hk⟩
theorem Bys.at {w : World} {a : Option Addr} {l : List Int} (h : Bys w a l) {k : Nat} (hk : k < l.length) : ∃ b off, a = some ⟨b, off, none⟩ ∧ b < w.heap.size ∧ w.cell? ⟨b, off + k, none⟩ = some (.int .u8 (l.getD k 0)) := by
  rcases h with h | ⟨b, off, e, hB, hc⟩
  · subst h; simp at hk
  · exact ⟨b, off, e, hB, hc k hk⟩
/-- A list of numbers in memory from block B on, which nothing else shares. -/
def NewB (B : Nat) (w : World) (v : Value) (l : List Int) : Prop := w.ownsRow B 5 1 v l.length (l.map (Value.int .u8))
theorem NewB.bys {B : Nat} {w : World} {v : Value} {l : List Int} (h : NewB B w v l) : ∃ a c, v = .slice a l.length c ∧ Bys w a l := by
  obtain ⟨h1, h2⟩ := h
  rcases h2 with ⟨rfl, h0⟩ | ⟨g, cap, cur, rfl, hB, hg, hc, hm, hs, ht⟩
  · have : l = [] := List.eq_nil_of_length_eq_zero h0
    subst this
    exact ⟨none, 0, rfl, .inl rfl⟩
  · refine ⟨_, cap, rfl, .inr ⟨g, 0, rfl, (Array.getElem?_eq_some_iff.1 hg).1, fun k hk => ?_⟩⟩
    have e : cur[k]? = some (.int .u8 (l.getD k 0)) := by
      have h3 : (cur.toList.take (l.length * 1))[k]? = (l.map (Value.int .u8))[k]? := by rw [ht]
      rw [Nat.mul_one, List.getElem?_take_of_lt hk] at h3
      simpa [hk] using h3
    simp only [World.cell?, hg, Nat.zero_add]
    simpa using e
theorem NewB.mono {B B' : Nat} {w : World} {v : Value} {l : List Int} (h : NewB B w v l) (hB : B' ≤ B) : NewB B' w v l := by
  obtain ⟨h1, h2⟩ := h
  refine ⟨h1, ?_⟩
  rcases h2 with h2 | ⟨g, cap, cur, e, hg, r⟩
  · exact .inl h2
  · exact .inr ⟨g, cap, cur, e, by omega, r⟩
theorem NewB.row {B : Nat} {w : World} {v : Value} {l : List Int} (h : NewB B w v l) : ∀ k, v.ownBlock = some k → B ≤ k := by
  obtain ⟨h1, h2⟩ := h
  intro k hk
  rcases h2 with ⟨rfl, _⟩ | ⟨g, cap, cur, rfl, hB, _⟩
  · simp [Value.ownBlock] at hk
  · simp [Value.ownBlock] at hk; omega
theorem newB_alloc (w : World) (l : List Int) {B : Nat} (hB : B ≤ w.heap.size) (hl : l.length ≤ 1073741824) : NewB B (w.alloc (.cells (bvals l) 5)) (.slice (some ⟨w.heap.size, 0, none⟩) l.length l.length) l := by
  refine ⟨by simp, .inr ⟨w.heap.size, l.length, bvals l, rfl, hB, heap_alloc_new w _, Nat.le_refl _, by unfold maxLen; omega, by simp [bvals], ?_⟩⟩
  simp only [bvals, Nat.mul_one]
  exact List.take_of_length_le (by simp)
theorem info_u8 : (Try.prog.info? 5).map (fun i => (i.zero, i.size, i.bytes)) = some (some (.int .u8 0), 1, 1) := by kernel_rfl
theorem bys_news {w : World} {b off : Nat} {l : List Int} (h : ∀ k, k < l.length → w.cell? ⟨b, off + k, none⟩ = some (.int .u8 (l.getD k 0))) : ∀ (j : Nat) (v : Value), (l.map (Value.int .u8))[j]? = some v → w.cell? ((⟨b, off, none⟩ : Addr).add j) = some v := by
  intro j v hv
  rw [List.getElem?_map] at hv
  cases hx : l[j]? with
  | none => rw [hx] at hv; cases hv
  | some x =>
    rw [hx] at hv
    obtain ⟨hj, rfl⟩ := List.getElem?_eq_some_iff.1 hx
    have e : (⟨b, off, none⟩ : Addr).add j = ⟨b, off + j, none⟩ := by unfold Addr.add; split <;> simp_all
    rw [e, h j hj]
    simpa [hj] using hv
/-- What an append leaves: no block has turned but the list's own, and it lies there still, or in a new one. -/
structure Gr (v : Value) (w : World) (v' : Value) (w' : World) : Prop where
  os : w'.os = w.os
  tape : w'.tape = w.tape
  output : w'.output = w.output
  size : w.heap.size ≤ w'.heap.size
  block : ∀ k, k < w.heap.size → some k ≠ v.ownBlock → w'.heap[k]? = w.heap[k]?
  own : v'.ownBlock = v.ownBlock ∨ ∃ o, v'.ownBlock = some o ∧ w.heap.size ≤ o
theorem Gr.refl (v : Value) (w : World) : Gr v w v w := ⟨rfl, rfl, rfl, Nat.le_refl _, fun _ _ _ => rfl, .inl rfl⟩
theorem Gr.trans {v v1 v2 : Value} {w w1 w2 : World} (h : Gr v w v1 w1) (k : Gr v1 w1 v2 w2) : Gr v w v2 w2 := by
  refine ⟨k.os.trans h.os, k.tape.trans h.tape, k.output.trans h.output, Nat.le_trans h.size k.size, fun j hj hn => ?_, ?_⟩
  · rw [k.block j (Nat.lt_of_lt_of_le hj h.size) ?_]
    · exact h.block j hj hn
    · rcases h.own with e | ⟨o, e, ho⟩
      · rw [e]; exact hn
      · rw [e]; intro hh; cases hh; omega
  · rcases k.own with e | ⟨o, e, ho⟩
    · rw [e]
      exact h.own
    · exact .inr ⟨o, e, Nat.le_trans h.size ho⟩
theorem Gr.below {B : Nat} {v v' : Value} {w w' : World} (h : Gr v w v' w') (hr : ∀ k, v.ownBlock = some k → B ≤ k) (hB : B ≤ w.heap.size) : Below B w w' :=
  ⟨h.os, h.tape, h.output, h.size, fun k hk => h.block k (by omega) (fun e => by have := hr k e.symm; omega)⟩
/-- What is new behind the list's growing stays. -/
theorem Gr.alloc {v : Value} {w : World} (o : Obj) : Gr v w v (w.alloc o) := by
  refine ⟨rfl, rfl, rfl, by simp, fun k hk _ => heap_alloc_old _ _ hk, .inl rfl⟩
theorem Gr.drew {v v' : Value} {w w' : World} (h : Gr v w v' w') : Gr v w v' w'.drew := ⟨h.os, h.tape, h.output, h.size, h.block, h.own⟩
theorem NewB.keep {B : Nat} {w w' : World} {v : Value} {l : List Int} (h : NewB B w v l) (hb : Below w.heap.size w w') : NewB B w' v l := ownsRow_keep h hb
end Go.Proofs.Ytmknleholglhbaa
