/-
  A list of Instr that is handed in, opened.
-/
import Derived.Test.YtpommfkbkknjaaaCodeQ
import Derived.Test.YtpommfkbkknjaaaFrame
import Derived.Deep.Slices
namespace Go.Proofs.Ytpommfkbkknjaaa
open Go.RowKit Go.ChangeShapes Go.WideShapes
set_option linter.unusedVariables false
set_option linter.unusedSimpArgs false
theorem trod_field_instr {H : Type} {enc : TypeId × Value → H} {P : Program} {W : World} {base : Nat} {sp : Nat → Bool} {held : Bool} {n : Nat} {t : TypeId} {cs : List Value} {x : DataW H × List MemPlace} {fs : Array Field} (ht : P.underlying t = some (.struct fs)) (h : DataW.trod enc P W base sp held n t cs = some x) {j : Nat} {f : Field} (hj : fs[j]? = some f) :
    ∃ m y, DataW.trod enc P W base sp held m f.type ((cs.drop f.offset).take (P.cellsOf f.type)) = some y := by
  obtain ⟨xs, m, _, rfl, hl, hlen, hf⟩ := DataW.trod_struct ht h
  have hj' : j < fs.size := (Array.getElem?_eq_some_iff.1 hj).1
  exact ⟨m, xs[j]'(by omega), by rw [hf j f hj]; exact List.getElem?_eq_getElem (by omega)⟩
theorem trod_int_instr {H : Type} {enc : TypeId × Value → H} {W : World} {base : Nat} {held : Bool} {n : Nat} {v : Value} {y : DataW H × List MemPlace} (h : DataW.trod enc Try.prog W base (fun _ => true) held n 3 [v] = some y) : ∃ a : Int, v = .int .i64 a := by
  obtain ⟨a, ea, _, _⟩ := DataW.trod_int Try.underlying3 h
  simp at ea
  exact ⟨a, ea⟩
theorem one_instr {H : Type} {enc : TypeId × Value → H} {W : World} {base : Nat} {held : Bool} {n : Nat} {cs : List Value} {y : DataW H × List MemPlace} (hl : cs.length = 6) (h : DataW.trod enc Try.prog W base (fun _ => true) held n 38 cs = some y) :
    ∃ (e : Nat → Int) (x : Value) (s : List Int), cs = [.int .i64 (e 0), .int .i64 (e 1), .int .i64 (e 2), .int .i64 (e 3), .int .i64 (e 4), x] ∧ IntsI W x s ∧ s.length ≤ 9223372036854775807 := by
  have c1 : Try.prog.cellsOf 3 = 1 := by kernel_rfl
  have c2 : Try.prog.cellsOf 35 = 3 := by kernel_rfl
  have c3 : Try.prog.cellsOf 36 = 1 := by kernel_rfl
  match cs, hl with
  | [v0, v1, v2, v3, v4, v5], _ =>
    obtain ⟨m0, y0, g0⟩ := trod_field_instr (j := 0) Try.underlying38 h rfl
    obtain ⟨m1, y1, g1⟩ := trod_field_instr (j := 1) Try.underlying38 h rfl
    obtain ⟨m2, y2, g2⟩ := trod_field_instr (j := 2) Try.underlying38 h rfl
    obtain ⟨m3, y3, g3⟩ := trod_field_instr (j := 3) Try.underlying38 h rfl
    simp [c1] at g0 g1
    simp [c2] at g2
    simp [c3] at g3
    obtain ⟨e0, rfl⟩ := trod_int_instr g0
    obtain ⟨e1, rfl⟩ := trod_int_instr g1
    obtain ⟨n0, z0, k0⟩ := trod_field_instr (j := 0) Try.underlying35 g2 rfl
    obtain ⟨n1, z1, k1⟩ := trod_field_instr (j := 1) Try.underlying35 g2 rfl
    obtain ⟨n2, z2, k2⟩ := trod_field_instr (j := 2) Try.underlying35 g2 rfl
    simp [c1] at k0 k1 k2
    obtain ⟨e2, rfl⟩ := trod_int_instr k0
    obtain ⟨e3, rfl⟩ := trod_int_instr k1
    obtain ⟨e4, rfl⟩ := trod_int_instr k2
    obtain ⟨s, i1, b1⟩ := cell_ints g3
    exact ⟨fun j => if j = 0 then e0 else if j = 1 then e1 else if j = 2 then e2 else if j = 3 then e3 else e4, v5, s, by simp, i1, b1⟩
theorem cell_instrs {H : Type} {enc : TypeId × Value → H} {W : World} {base : Nat} {held : Bool} {n : Nat} {c : Value} {y : DataW H × List MemPlace} (h : DataW.trod enc Try.prog W base (fun _ => true) held n 22 [c] = some y) :
    ∃ (n : Nat) (E : Nat → Nat → Int) (N : Nat → List Int), InsI W c n E N ∧ n ≤ 9223372036854775807 ∧ (∀ i, (N i).length ≤ 9223372036854775807) ∧ ∀ i, n ≤ i → N i = [] := by
  have c3 : Try.prog.cellsOf 38 = 6 := by kernel_rfl
  rcases Deep.open_slice Try.underlying22 h with ⟨hcs, _⟩ | ⟨a, len, cap, m, k, DD, Pl, hcs, _, hl, hm, hmm, _, hx⟩
  · simp at hcs
    subst hcs
    exact ⟨0, fun _ _ => 0, fun _ => [], ⟨_, _, rfl, .inl rfl⟩, by omega, by simp, by simp⟩
  · simp at hcs
    subst hcs
    have hlm : len ≤ m := by rw [hmm]; simpa using hl
    have each : ∀ i, ∃ q : (Nat → Int) × Value × List Int, (i < len → (W.cell? (a.add (i * 6)) = some (.int .i64 (q.1 0)) ∧ W.cell? (a.add (i * 6 + 1)) = some (.int .i64 (q.1 1)) ∧ W.cell? (a.add (i * 6 + 2)) = some (.int .i64 (q.1 2)) ∧ W.cell? (a.add (i * 6 + 3)) = some (.int .i64 (q.1 3)) ∧ W.cell? (a.add (i * 6 + 4)) = some (.int .i64 (q.1 4)) ∧ W.cell? (a.add (i * 6 + 5)) = some q.2.1) ∧ IntsI W q.2.1 q.2.2) ∧ q.2.2.length ≤ 9223372036854775807 ∧ (len ≤ i → q.2.2 = []) := by
      intro i
      by_cases hi : i < len
      · obtain ⟨cs', h1, h2⟩ := hx i (by omega)
        rw [c3] at h1
        obtain ⟨_, hlen, hcell⟩ := World.cells?_some h1
        obtain ⟨e, x, s, rfl, i1, b1⟩ := one_instr hlen h2
        have e0 := hcell 0 (by omega)
        have e1 := hcell 1 (by omega)
        have e2 := hcell 2 (by omega)
        have e3 := hcell 3 (by omega)
        have e4 := hcell 4 (by omega)
        have e5 := hcell 5 (by omega)
        rw [Deep.add_add] at e0 e1 e2 e3 e4 e5
        exact ⟨(e, x, s), fun _ => ⟨⟨by simpa using e0, by simpa using e1, by simpa using e2, by simpa using e3, by simpa using e4, by simpa using e5⟩, i1⟩, b1, fun h => absurd h (by omega)⟩
      · exact ⟨(fun _ => 0, undef, []), fun h => absurd h hi, by simp, fun _ => rfl⟩
    have ⟨q, hq⟩ := Classical.axiomOfChoice each
    refine ⟨len, fun i => (q i).1, fun i => (q i).2.2, ⟨_, _, rfl, ?_⟩, by unfold maxLen at hm; omega, fun i => (hq i).2.1, fun i hi => (hq i).2.2 hi⟩
    by_cases h0 : len = 0
    · exact .inl h0
    · obtain ⟨ab, off, spot⟩ := a
      have hc := ((hq 0).1 (by omega)).1.1
      have hspot : spot = none := by simpa [Addr.add] using World.cell?_spot hc
      subst hspot
      have hadd : ∀ k, (⟨ab, off, none⟩ : Addr).add k = ⟨ab, off + k, none⟩ := fun k => by unfold Addr.add; split <;> simp_all
      refine .inr ⟨ab, off, fun i => (q i).2.1, rfl, ?_, fun i hi => ?_⟩
      · by_cases hb : ab < W.heap.size
        · exact hb
        · have : W.heap[ab]? = none := Array.getElem?_eq_none (by omega)
          simp [Addr.add, World.cell?, this] at hc
      · obtain ⟨⟨q0, q1, q2, q3, q4, q5⟩, qz⟩ := (hq i).1 hi
        rw [hadd] at q0 q1 q2 q3 q4 q5
        exact ⟨⟨q0, by rw [Nat.add_assoc]; exact q1, by rw [Nat.add_assoc]; exact q2, by rw [Nat.add_assoc]; exact q3, by rw [Nat.add_assoc]; exact q4, by rw [Nat.add_assoc]; exact q5⟩, qz⟩
end Go.Proofs.Ytpommfkbkknjaaa
