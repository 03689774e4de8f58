/-
  ArrayRead's contracts and lists of bytes, as the law's walk takes them.
-/
import Derived.Test.YtonkiipdobpfgaaArdS2
import Derived.Test.YtonkiipdobpfgaaReadL
namespace Go.Proofs.Ytonkiipdobpfgaa
open Go.RowKit
set_option linter.unusedVariables false
/-- A slice of these bytes, with room for them. -/
def BysI (w : World) (v : Value) (l : List Int) : Prop := ∃ a c, v = .slice a l.length c ∧ Bys w a l ∧ l.length ≤ c ∧ c ≤ 9223372036854775807
/-- One's own bytes. -/
def YP (B C : Nat) (w : World) (v : Value) (l : List Int) : Prop := (∃ a c, v = .slice a l.length c ∧ l.length ≤ c ∧ c ≤ 9223372036854775807) ∧ BPiece B C w v l
theorem BysI.keep {w w' : World} {v : Value} {l : List Int} (h : BysI w v l) (hb : Below w.heap.size w w') : BysI w' v l := by
  obtain ⟨a, c, e, h, r⟩ := h
  exact ⟨a, c, e, h.keep hb, r⟩
section
variable {B C : Nat} {w w' : World} {v : Value} {l : List Int}
theorem YP.ints (h : YP B C w v l) : ∃ a c, v = .slice a l.length c ∧ True := by
  obtain ⟨⟨a, c, e, _⟩, _⟩ := h
  exact ⟨a, c, e, trivial⟩
theorem YP.intsI (h : YP B C w v l) : BysI w v l := by
  obtain ⟨⟨a, c, e, r⟩, h⟩ := h
  obtain ⟨a', c', e', hy⟩ := h.bys
  rw [e] at e'
  rw [← (Value.slice.inj e').1] at hy
  exact ⟨a, c, e, hy, r⟩
theorem YP.mono {B' C' : Nat} (h : YP B C w v l) (hB : B' ≤ B) (hC : C ≤ C') : YP B' C' w v l := ⟨h.1, h.2.mono hB hC⟩
theorem YP.keep (h : YP B C w v l) (hb : Below w.heap.size w w') : YP B C w' v l := ⟨h.1, h.2.keep hb⟩
theorem YP.win {B' C' : Nat} (h : YP B' C' w v l) (hw : Win B C w w') (hd : C' ≤ B ∨ C ≤ B') : YP B' C' w' v l := ⟨h.1, h.2.win hw hd⟩
end
theorem to_bytI {w : World} {a : Option Addr} {l : List Int} {c : Nat} (h : Bys w a l) (hl : l.length ≤ 1048576) :
    Calls Try.prog 16 #[.slice a l.length c] w fun e w' => ∃ v', e = .returned v' ∧ YP w.heap.size w'.heap.size w' v' l ∧ Below w.heap.size w w' := by
  refine (toByteS_own h rfl hl).mono ?_
  rintro e w' ⟨rfl, hP, hb⟩
  exact ⟨_, rfl, ⟨⟨_, _, rfl, Nat.le_refl _, by omega⟩, hP⟩, hb⟩
theorem eq_bytI {w : World} {v u : Value} {l : List Int} (h : BysI w v l) (k : BysI w u l) (hl : l.length ≤ 1048576) :
    Calls Try.prog 10 #[v, u] w fun e w' => e = .returned (.bool true) ∧ Below w.heap.size w w' := by
  obtain ⟨a, c, rfl, h1, _⟩ := h
  obtain ⟨b, d, rfl, h2, _⟩ := k
  refine (eqB_same c d hl h1 h2).mono ?_
  rintro e w' ⟨rfl, j, rfl⟩
  exact ⟨rfl, bDrewN (Below.refl _ _) j⟩
theorem mark_bytI {B C : Nat} {w : World} {v : Value} {l : List Int} (h : YP B C w v l) (hn : l.length ≤ 1048576) (k0 : Int) (p1 : 0 ≤ k0) (p2 : k0 ≤ 1073741824) :
    Calls Try.prog 13 #[v, .int .i64 k0] w fun e w' => e = .returned (.int .i64 (k0 + l.length)) ∧ YP B C w' v (upB k0 l.length) ∧ Win B C w w' := by
  refine (markB_piece h.2 hn k0 p1 (by omega)).mono ?_
  rintro e w' ⟨rfl, q1, q2⟩
  refine ⟨rfl, ⟨?_, q1⟩, q2⟩
  rw [upB_length]
  exact h.1
theorem ard_spec {W : World} {u : Value} {b : List Int} (h : BysI W u b) (hb : isB b) (hl : b.length ≤ 1048576) :
    Calls Try.prog 15 #[u] W fun e w' => ∃ v, e = .returned (.tuple #[v, .bool (ardB b)]) ∧ Arr W.heap.size w'.heap.size w' v (if ardB b = true then shB b else []) (if ardB b = true then dtB b else []) ∧ Below W.heap.size W w' := by
  obtain ⟨a, c, rfl, h1, _⟩ := h
  exact arrayRead_spec h1 hb rfl hl
theorem ard_impl {W : World} {u : Value} {b : List Int} (h : BysI W u b) (hb : isB b) (hl : b.length ≤ 1048576) :
    Calls Try.prog 17 #[u] W fun e w' => ∃ v, e = .returned (.tuple #[v, .bool (ardB b)]) ∧ Arr W.heap.size w'.heap.size w' v (if ardB b = true then shB b else []) (if ardB b = true then dtB b else []) ∧ Below W.heap.size W w' := by
  obtain ⟨a, c, rfl, h1, h2, h3⟩ := h
  exact arrayRead_impl h1 hb rfl h2 hl h3
end Go.Proofs.Ytonkiipdobpfgaa
