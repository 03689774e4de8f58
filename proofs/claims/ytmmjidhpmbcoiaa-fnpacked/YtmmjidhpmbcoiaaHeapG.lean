/-
  A list of cells that is handed in, opened.
-/
import Derived.Test.YtmmjidhpmbcoiaaCellQ
import Derived.Test.YtmmjidhpmbcoiaaFrame
import Derived.Deep.Slices
import Derived.Deep.Strs
namespace Go.Proofs.Ytmmjidhpmbcoiaa
open Go.RowKit Go.ChangeShapes Go.WideShapes
set_option linter.unusedVariables false
set_option linter.unusedSimpArgs false
/-- A number of 64 bits. -/
def in64 (x : Int) : Prop := -9223372036854775808 ≤ x ∧ x ≤ 9223372036854775807
theorem in64_wf {x : Int} (h : (Lit.int .i64 x).wf = true) : in64 x := by
  have h1 : IntKind.i64.min = -9223372036854775808 := by decide
  have h2 : IntKind.i64.max = 9223372036854775807 := by decide
  simp only [Lit.wf, h1, h2, Bool.and_eq_true, decide_eq_true_eq] at h
  exact h
theorem in64_0 : in64 cel0.f ∧ in64 cel0.l := ⟨⟨by decide, by decide⟩, by decide, by decide⟩
set_option maxRecDepth 20000 in
theorem one_cel {H : Type} {enc : TypeId × Value → H} {W : World} {base : Nat} {held : Bool} {n : Nat} {cs : List Value} {y : DataW H × List MemPlace} (hl : cs.length = 3) (h : DataW.trod enc Try.prog W base (fun _ => true) held n 108 cs = some y) :
    ∃ (f l : Int) (v : Bool), cs = [.int .i64 f, .int .i64 l, .bool v] ∧ in64 f ∧ in64 l := by
  have c1 : Try.prog.cellsOf 4 = 1 := by kernel_rfl
  have c2 : Try.prog.cellsOf 3 = 1 := by kernel_rfl
  obtain ⟨y0, y1, y2, k, _, _, g0, g1, g2⟩ := Deep.trod_struct3 Try.underlying108 h
  match cs, hl with
  | [v0, v1, v2], _ =>
    simp [c1, c2] at g0 g1 g2
    obtain ⟨f, hf, _, wf⟩ := DataW.trod_int Try.underlying3 g0
    obtain ⟨l, hl, _, wl⟩ := DataW.trod_int Try.underlying3 g1
    obtain ⟨b, hb, _⟩ := DataW.trod_bool Try.underlying4 g2
    simp at hf hl hb
    subst hf hl hb
    exact ⟨f, l, b, rfl, in64_wf wf, in64_wf wl⟩
theorem cell_cels {H : Type} {enc : TypeId × Value → H} {W : World} {base : Nat} {held : Bool} {n : Nat} {c : Value} {y : DataW H × List MemPlace} (h : DataW.trod enc Try.prog W base (fun _ => true) held n 51 [c] = some y) :
    ∃ (n : Nat) (E : Nat → Cel), CsI W c n E ∧ n ≤ 9223372036854775807 ∧ ∀ i, in64 (E i).f ∧ in64 (E i).l := by
  have c3 : Try.prog.cellsOf 108 = 3 := by kernel_rfl
  rcases Deep.open_slice Try.underlying51 h with ⟨hcs, _⟩ | ⟨a, len, cap, m, k, DD, Pl, hcs, _, hl, hm, hmm, _, hx⟩
  · simp at hcs
    subst hcs
    exact ⟨0, fun _ => cel0, ⟨_, _, rfl, by omega, .inl rfl⟩, by omega, fun _ => in64_0⟩
  · simp at hcs
    subst hcs
    have hlm : len ≤ m := by rw [hmm]; simpa using hl
    have each : ∀ i, ∃ q : Cel, (i < len → W.cell? (a.add (i * 3)) = some (.int .i64 q.f) ∧ W.cell? (a.add (i * 3 + 1)) = some (.int .i64 q.l) ∧ W.cell? (a.add (i * 3 + 2)) = some (.bool q.v)) ∧ in64 q.f ∧ in64 q.l := by
      intro i
      by_cases hi : i < len
      · obtain ⟨cs', h1, h2⟩ := hx i (by omega)
        rw [c3] at h1
        obtain ⟨_, hlen, hcell⟩ := World.cells?_some h1
        obtain ⟨f, l, b, rfl, i1, i2⟩ := one_cel hlen h2
        have e0 := hcell 0 (by omega)
        have e1 := hcell 1 (by omega)
        have e2 := hcell 2 (by omega)
        rw [Deep.add_add] at e0 e1 e2
        exact ⟨⟨f, l, b⟩, fun _ => ⟨by simpa using e0, by simpa using e1, by simpa using e2⟩, i1, i2⟩
      · exact ⟨cel0, fun h => absurd h hi, in64_0⟩
    have ⟨q, hq⟩ := Classical.axiomOfChoice each
    refine ⟨len, q, ⟨_, _, rfl, by omega, ?_⟩, by unfold maxLen at hm; omega, fun i => (hq i).2⟩
    by_cases h0 : len = 0
    · exact .inl h0
    · obtain ⟨ab, off, spot⟩ := a
      have hc := ((hq 0).1 (by omega)).1
      have hspot : spot = none := by simpa [Addr.add] using World.cell?_spot hc
      subst hspot
      have hadd : ∀ k, (⟨ab, off, none⟩ : Addr).add k = ⟨ab, off + k, none⟩ := fun k => by unfold Addr.add; split <;> simp_all
      refine .inr ⟨ab, off, rfl, ?_, fun i hi => ?_⟩
      · by_cases hb : ab < W.heap.size
        · exact hb
        · have : W.heap[ab]? = none := Array.getElem?_eq_none (by omega)
          simp [Addr.add, World.cell?, this] at hc
      · obtain ⟨q1, q2, q3⟩ := (hq i).1 hi
        rw [hadd] at q1 q2 q3
        exact ⟨q1, by rw [Nat.add_assoc]; exact q2, by rw [Nat.add_assoc]; exact q3⟩
end Go.Proofs.Ytmmjidhpmbcoiaa
