/-
  Shapes by value as keys of a map: what a look-up, an entry and a store come to, of a map of no entry, of one and of two.
-/
import Derived.Test.YtbmkfmppcojcgaaGreatImplShape
import Derived.DeepKeys4
import Derived.WideKeyEntry
namespace Go.Proofs.YtbmkfmppcojcgaaGreat
open Go.RowKit
open Go.ChangeMaps (setBlock)
set_option linter.unusedVariables false
set_option linter.unusedSimpArgs false
theorem laidOutE : laidOutB Tryz.prog = true := by kernel_rfl
theorem rowE : (75 : TypeId) < Tryz.prog.types.size := of_decide_eq_true (by kernel_rfl)
theorem wideE : (match Tryz.prog.underlying 75 with | some (.array _ _) | some (.struct _) => true | _ => false) = true := by rw [Tryz.underlying75]
set_option maxRecDepth 20000 in
theorem lawE : WideMaps.KeyLaw Tryz.prog 75 := deep_law_laid laidOutE (m := 3) (by omega) rowE (by kernel_rfl) wideE
/-- A shape by value is a key. -/
theorem keyE {n x y z : Int} (hn : (Lit.int .i64 n).wf = true) (hx : (Lit.int .i64 x).wf = true) (hy : (Lit.int .i64 y).wf = true) (hz : (Lit.int .i64 z).wf = true) :
    ∃ l, keyOf Tryz.prog 75 (.agg #[.int .i64 n, .int .i64 x, .int .i64 y, .int .i64 z]) = some l := by
  have hk : Tryz.prog.keyType 75 = true := by kernel_rfl
  have c4 : Tryz.prog.cellsOf 75 = 4 := by kernel_rfl
  have c3 : Tryz.prog.cellsOf 73 = 3 := by kernel_rfl
  have c1 : Tryz.prog.cellsOf 3 = 1 := by kernel_rfl
  obtain ⟨d, hd⟩ : ∃ d, Tryz.prog.types.size + 1 = d + 1 + 1 + 1 := ⟨Tryz.prog.types.size - 2, by have h : (75 : Nat) < Tryz.prog.types.size := rowE; omega⟩
  have r3 : List.range 3 = [0, 1, 2] := by decide
  have hl : Tryz.prog.keyLits (d + 1 + 1 + 1) 75 [.int .i64 n, .int .i64 x, .int .i64 y, .int .i64 z] = some [.int .i64 n, .int .i64 x, .int .i64 y, .int .i64 z] := by
    simp [Program.keyLits, Tryz.underlying75, Tryz.underlying73, Tryz.underlying3, c4, c3, c1, r3, hn, hx, hy, hz]
  refine ⟨.string (keyBytes [.int .i64 n, .int .i64 x, .int .i64 y, .int .i64 z]), ?_⟩
  have hf : (Value.agg #[.int .i64 n, .int .i64 x, .int .i64 y, .int .i64 z]).formed Tryz.prog 75 = true := by simp [Value.formed, Tryz.underlying75, c4]
  have e : keyOf Tryz.prog 75 (.agg #[.int .i64 n, .int .i64 x, .int .i64 y, .int .i64 z]) = if (Tryz.prog.keyType 75 && (Value.agg #[.int .i64 n, .int .i64 x, .int .i64 y, .int .i64 z]).formed Tryz.prog 75) = true then (Tryz.prog.keyLits (Tryz.prog.types.size + 1) 75 [.int .i64 n, .int .i64 x, .int .i64 y, .int .i64 z]).map fun ls => .string (keyBytes ls) else none := by
    unfold keyOf
    rw [Tryz.underlying75]
    rfl
  rw [e, hk, hf, hd, hl]
  rfl
theorem find_nil {w : World} {K1 : Value} {l1 : Lit} (h1 : keyOf Tryz.prog 75 K1 = some l1) : (Instr.findKey 75 K1 []).run Tryz.prog w = .ok none w := by
  rcases lawE.find w h1 [] (by simp) with ⟨h, _⟩ | ⟨j, e, _, h, _⟩
  · exact h
  · simp at h
theorem find_one {w : World} {K1 : Value} {l1 : Lit} (h1 : keyOf Tryz.prog 75 K1 = some l1) (v : Value) (s : Nat) : (Instr.findKey 75 K1 [⟨K1, v, s⟩]).run Tryz.prog w = .ok (some (0, v)) w := by
  rcases lawE.find w h1 [⟨K1, v, s⟩] (by simpa using ⟨l1, h1⟩) with ⟨_, h⟩ | ⟨j, e, h, he, _⟩
  · simp at h
  · match j, he with
    | 0, he => simp at he; subst he; exact h
theorem find_other {w : World} {K1 : Value} {K2 : Value} {l1 : Lit} {l2 : Lit} (h1 : keyOf Tryz.prog 75 K1 = some l1) (h2 : keyOf Tryz.prog 75 K2 = some l2) (hne : K1 ≠ K2) (v : Value) (s : Nat) : (Instr.findKey 75 K2 [⟨K1, v, s⟩]).run Tryz.prog w = .ok none w := by
  rcases lawE.find w h2 [⟨K1, v, s⟩] (by simpa using ⟨l1, h1⟩) with ⟨h, _⟩ | ⟨j, e, _, he, hk⟩
  · exact h
  · match j, he with
    | 0, he => simp at he; subst he; exact absurd hk hne
theorem find_two {w : World} {K1 : Value} {K2 : Value} {l1 : Lit} {l2 : Lit} (h1 : keyOf Tryz.prog 75 K1 = some l1) (h2 : keyOf Tryz.prog 75 K2 = some l2) (hne : K1 ≠ K2) (v u : Value) (s t : Nat) : (Instr.findKey 75 K2 [⟨K1, v, s⟩, ⟨K2, u, t⟩]).run Tryz.prog w = .ok (some (1, u)) w := by
  rcases lawE.find w h2 [⟨K1, v, s⟩, ⟨K2, u, t⟩] (by simpa using ⟨⟨l1, h1⟩, l2, h2⟩) with ⟨_, h⟩ | ⟨j, e, h, he, hk⟩
  · simp at h
  · match j, he with
    | 0, he => simp at he; subst he; exact absurd hk hne
    | 1, he => simp at he; subst he; exact h
theorem zeroI (w : World) : (zeroValue 3).run Tryz.prog w = .ok (.int .i64 0) w := by kernel_rfl
theorem look_0 {w : World} {K1 : Value} {l1 : Lit} {b : Nat} (hb : w.heap[b]? = some (.map #[] 0)) (h1 : keyOf Tryz.prog 75 K1 = some l1) :
    (Instr.lookup 115 (.map (some b)) K1 false).run Tryz.prog w = .ok (.int .i64 0) w := by
  simp [Instr.lookup, run_underlying Tryz.underlying115, MapKept.run_getObj_map hb, lawE.check w true h1, find_nil h1, zeroI, Result.andThen]
theorem look_1 {w : World} {K1 : Value} {l1 : Lit} {b : Nat} {v : Value} {s c : Nat} (hb : w.heap[b]? = some (.map #[⟨K1, v, s⟩] c)) (h1 : keyOf Tryz.prog 75 K1 = some l1) :
    (Instr.lookup 115 (.map (some b)) K1 false).run Tryz.prog w = .ok v w := by
  simp [Instr.lookup, run_underlying Tryz.underlying115, MapKept.run_getObj_map hb, lawE.check w false h1, find_one h1, Result.andThen]
theorem look_other {w : World} {K1 : Value} {K2 : Value} {l1 : Lit} {l2 : Lit} {b : Nat} {v : Value} {s c : Nat} (hb : w.heap[b]? = some (.map #[⟨K1, v, s⟩] c)) (h1 : keyOf Tryz.prog 75 K1 = some l1) (h2 : keyOf Tryz.prog 75 K2 = some l2) (hne : K1 ≠ K2) :
    (Instr.lookup 115 (.map (some b)) K2 false).run Tryz.prog w = .ok (.int .i64 0) w := by
  simp [Instr.lookup, run_underlying Tryz.underlying115, MapKept.run_getObj_map hb, lawE.check w false h2, find_other h1 h2 hne, zeroI, Result.andThen]
theorem look_2 {w : World} {K1 : Value} {K2 : Value} {l1 : Lit} {l2 : Lit} {b : Nat} {v u : Value} {s t c : Nat} (hb : w.heap[b]? = some (.map #[⟨K1, v, s⟩, ⟨K2, u, t⟩] c)) (h1 : keyOf Tryz.prog 75 K1 = some l1) (h2 : keyOf Tryz.prog 75 K2 = some l2) (hne : K1 ≠ K2) :
    (Instr.lookup 115 (.map (some b)) K2 false).run Tryz.prog w = .ok u w := by
  simp [Instr.lookup, run_underlying Tryz.underlying115, MapKept.run_getObj_map hb, lawE.check w false h2, find_two h1 h2 hne, Result.andThen]
theorem entry_0 {w : World} {K1 : Value} {l1 : Lit} {b : Nat} (hb : w.heap[b]? = some (.map #[] 0)) (h1 : keyOf Tryz.prog 75 K1 = some l1) :
    (Instr.mapEntry 115 (.map (some b)) K1).run Tryz.prog w = .ok (.tuple #[.int .i64 0, .int .i64 0]) (setBlock w b (.map #[⟨K1, .int .i64 0, 0⟩] 1)) := by
  simp [Instr.mapEntry, run_underlying Tryz.underlying115, MapKept.run_getObj_map hb, lawE.check w false h1, find_nil h1, zeroI, MapKept.run_setObj_map _ hb, Result.andThen, setBlock, goInt]
theorem entry_1 {w : World} {K1 : Value} {l1 : Lit} {b : Nat} {v : Value} {c : Nat} (hb : w.heap[b]? = some (.map #[⟨K1, v, 0⟩] c)) (h1 : keyOf Tryz.prog 75 K1 = some l1) :
    (Instr.mapEntry 115 (.map (some b)) K1).run Tryz.prog w = .ok (.tuple #[v, .int .i64 0]) (setBlock w b (.map #[⟨K1, v, 0⟩] c)) := by
  simp [Instr.mapEntry, run_underlying Tryz.underlying115, MapKept.run_getObj_map hb, lawE.check w false h1, find_one h1, lawE.stays w h1, MapKept.run_setObj_map _ hb, Result.andThen, setBlock, goInt]
theorem entry_other {w : World} {K1 : Value} {K2 : Value} {l1 : Lit} {l2 : Lit} {b : Nat} {v : Value} {s : Nat} (hb : w.heap[b]? = some (.map #[⟨K1, v, s⟩] 1)) (h1 : keyOf Tryz.prog 75 K1 = some l1) (h2 : keyOf Tryz.prog 75 K2 = some l2) (hne : K1 ≠ K2) :
    (Instr.mapEntry 115 (.map (some b)) K2).run Tryz.prog w = .ok (.tuple #[.int .i64 0, .int .i64 1]) (setBlock w b (.map #[⟨K1, v, s⟩, ⟨K2, .int .i64 0, 1⟩] 2)) := by
  simp [Instr.mapEntry, run_underlying Tryz.underlying115, MapKept.run_getObj_map hb, lawE.check w false h2, find_other h1 h2 hne, zeroI, MapKept.run_setObj_map _ hb, Result.andThen, setBlock, goInt]
theorem store_1 {w : World} {K1 : Value} {b : Nat} {v : Value} {c : Nat} (u : Value) (hb : w.heap[b]? = some (.map #[⟨K1, v, 0⟩] c)) :
    (Instr.entryStore 115 (.map (some b)) (.int .i64 0) u).run Tryz.prog w = .ok () (setBlock w b (.map #[⟨K1, u, 0⟩] c)) := by
  simp [Instr.entryStore, MapKept.run_getObj_map hb, asInt, asIntOf, MapKept.run_setObj_map _ hb, Result.andThen, setBlock]
theorem store_2 {w : World} {K1 : Value} {K2 : Value} {b : Nat} {v v' : Value} {c : Nat} (u : Value) (hb : w.heap[b]? = some (.map #[⟨K1, v, 0⟩, ⟨K2, v', 1⟩] c)) :
    (Instr.entryStore 115 (.map (some b)) (.int .i64 1) u).run Tryz.prog w = .ok () (setBlock w b (.map #[⟨K1, v, 0⟩, ⟨K2, u, 1⟩] c)) := by
  simp [Instr.entryStore, List.findIdx?_cons, MapKept.run_getObj_map hb, asInt, asIntOf, MapKept.run_setObj_map _ hb, Result.andThen, setBlock]
end Go.Proofs.YtbmkfmppcojcgaaGreat
