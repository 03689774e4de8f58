/-
  Lists of bytes somewhere in a block: kept, marked, looked at.
-/
import Derived.Test.YtonkiipdobpfgaaBytK
import Derived.Test.YtonkiipdobpfgaaArr
namespace Go.Proofs.Ytonkiipdobpfgaa
open Go.RowKit
set_option linter.unusedVariables false
set_option linter.unusedSimpArgs false
/-- A slice of these bytes; if there are any, they lie in one block from B on and below C, and can be written. -/
def BPiece (B C : Nat) (w : World) (v : Value) (l : List Int) : Prop :=
  ∃ a c, v = .slice a l.length c ∧ (l = [] ∨ ∃ g off cur t, a = some ⟨g, off, none⟩ ∧ B ≤ g ∧ g < C ∧ w.heap[g]? = some (.cells cur t (0, 0)) ∧ ∀ k, k < l.length → cur[off + k]? = some (.int .u8 (l.getD k 0)))
section
variable {B C : Nat} {w w' : World} {v : Value} {l : List Int}
theorem BPiece.bys (h : BPiece B C w v l) : ∃ a c, v = .slice a l.length c ∧ Bys w a l := by
  obtain ⟨a, c, rfl, h⟩ := h
  refine ⟨a, c, rfl, ?_⟩
  rcases h with rfl | ⟨g, off, cur, t, rfl, hB, hC, hg, hc⟩
  · exact .inl rfl
  · refine .inr ⟨g, off, rfl, (Array.getElem?_eq_some_iff.1 hg).1, fun k hk => ?_⟩
    simp only [World.cell?, hg]
    simpa using hc k hk
theorem BPiece.mono {B' C' : Nat} (h : BPiece B C w v l) (hB : B' ≤ B) (hC : C ≤ C') : BPiece B' C' w v l := by
  obtain ⟨a, c, rfl, h⟩ := h
  refine ⟨a, c, rfl, ?_⟩
  rcases h with rfl | ⟨g, off, cur, t, rfl, h1, h2, r⟩
  · exact .inl rfl
  · exact .inr ⟨g, off, cur, t, rfl, by omega, by omega, r⟩
theorem BPiece.win {B' C' : Nat} (h : BPiece B' C' w v l) (hw : Win B C w w') (hd : C' ≤ B ∨ C ≤ B') : BPiece B' C' w' v l := by
  obtain ⟨a, c, rfl, h⟩ := h
  refine ⟨a, c, rfl, ?_⟩
  rcases h with rfl | ⟨g, off, cur, t, rfl, h1, h2, hg, r⟩
  · exact .inl rfl
  · exact .inr ⟨g, off, cur, t, rfl, h1, h2, by rw [hw.block g (Array.getElem?_eq_some_iff.1 hg).1 (by omega)]; exact hg, r⟩
theorem BPiece.keep (h : BPiece B C w v l) (hb : Below w.heap.size w w') : BPiece B C w' v l := by
  obtain ⟨a, c, rfl, h⟩ := h
  refine ⟨a, c, rfl, ?_⟩
  rcases h with rfl | ⟨g, off, cur, t, rfl, h1, h2, hg, r⟩
  · exact .inl rfl
  · exact .inr ⟨g, off, cur, t, rfl, h1, h2, by rw [hb.block g (Array.getElem?_eq_some_iff.1 hg).1]; exact hg, r⟩
theorem NewB.bpiece (h : NewB B w v l) : BPiece B w.heap.size w v l := by
  obtain ⟨h1, h2⟩ := h
  rcases h2 with ⟨rfl, h0⟩ | ⟨g, cap, cur, rfl, hB, hg, hc, hm, hs, ht⟩
  · have : l = [] := List.eq_nil_of_length_eq_zero h0
    subst this
    exact ⟨none, 0, rfl, .inl rfl⟩
  · refine ⟨_, cap, rfl, .inr ⟨g, 0, cur, 5, rfl, hB, (Array.getElem?_eq_some_iff.1 hg).1, hg, fun k hk => ?_⟩⟩
    have h3 : (cur.toList.take (l.length * 1))[k]? = (l.map (Value.int .u8))[k]? := by rw [ht]
    rw [Nat.mul_one, List.getElem?_take_of_lt hk] at h3
    rw [Nat.zero_add]
    simpa [hk] using h3
/-- It is marked: its own blocks turn, no other one. -/
theorem markB_piece (h : BPiece B C w v l) (hn : l.length ≤ 1048576) (k0 : Int) (p1 : 0 ≤ k0) (p2 : k0 ≤ 1099511627776) :
    Calls Try.prog 13 #[v, .int .i64 k0] w fun e w' => e = .returned (.int .i64 (k0 + l.length)) ∧ BPiece B C w' v (upB k0 l.length) ∧ Win B C w w' := by
  obtain ⟨a, c, rfl, h⟩ := h
  by_cases h0 : l.length = 0
  · rw [h0]
    refine (markB_nil a c k0 w).mono ?_
    rintro e w' ⟨rfl, rfl⟩
    exact ⟨by simp, ⟨a, c, by simp [upB], .inl (by simp [upB])⟩, Win.refl _ _ _⟩
  · rcases h with rfl | ⟨g, off, cur, t, rfl, h1, h2, hg, r⟩
    · exact absurd rfl h0
    · have hs : off + l.length ≤ cur.size := by
        have := (Array.getElem?_eq_some_iff.1 (r (l.length - 1) (by omega))).1
        omega
      refine (markB_at cur t g off l.length c k0 w hn p1 p2 hg hs).mono ?_
      rintro e w' ⟨rfl, ⟨A, hA, a1, a2⟩, hb, hz⟩
      refine ⟨rfl, ⟨_, c, by rw [upB_length], .inr ⟨g, off, A, t, rfl, h1, h2, hA, fun k hk => ?_⟩⟩, ⟨hb.os, hb.tape, hb.output, by omega, fun k hk hq => hb.block k hk fun e => ?_⟩⟩
      · rw [upB_length] at hk
        rw [a1 k hk, upB_at hk]
      · omega
theorem heldB_piece {n : Nat} (k0 : Int) (h : BPiece B C w v (upB k0 n)) (hn : n ≤ 1048576) (p1 : 0 ≤ k0) (p2 : k0 ≤ 1099511627776) :
    Calls Try.prog 14 #[v, .int .i64 k0] w fun e w' => e = .returned (.int .i64 (k0 + n)) ∧ w' = w := by
  obtain ⟨a, c, rfl, hi⟩ := h.bys
  rw [upB_length]
  exact heldB_walk (upB k0 n) a n c k0 w hn p1 p2 hi (upB_length _ _) rfl
theorem eqB_piece {B' C' : Nat} {u : Value} (h : BPiece B C w v l) (k : BPiece B' C' w u l) (hn : l.length ≤ 1048576) :
    Calls Try.prog 10 #[v, u] w fun e w' => e = .returned (.bool true) ∧ Below w.heap.size w w' := by
  obtain ⟨a, c, rfl, h1⟩ := h.bys
  obtain ⟨b, d, rfl, h2⟩ := k.bys
  refine (eqB_same c d hn h1 h2).mono ?_
  rintro e w' ⟨rfl, j, rfl⟩
  exact ⟨rfl, bDrewN (Below.refl _ _) j⟩
end
end Go.Proofs.Ytonkiipdobpfgaa
