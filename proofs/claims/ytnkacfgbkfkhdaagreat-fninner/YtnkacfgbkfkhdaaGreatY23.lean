/-
  Several texts, one behind the other: ImplMap, ImplAlike, ImplSame.
-/
import Derived.Test.YtnkacfgbkfkhdaaGreatY16
import Derived.DeepKeys4
import Derived.WideKeyEntry
import Derived.RegionTactic
import Derived.ChangeAlike
namespace Go.Proofs.YtnkacfgbkfkhdaaGreat
open Go.RowKit
open Go.ChangeMaps (setBlock)
set_option linter.unusedVariables false
set_option linter.unusedSimpArgs false
theorem laidOutE : laidOutB Tryz.prog = true := by kernel_rfl
theorem rowE : (75 : TypeId) < Tryz.prog.types.size := of_decide_eq_true (by kernel_rfl)
theorem wideE : (match Tryz.prog.underlying 75 with | some (.array _ _) | some (.struct _) => true | _ => false) = true := by rw [Tryz.underlying75]
set_option maxRecDepth 20000 in
theorem lawE : WideMaps.KeyLaw Tryz.prog 75 := deep_law_laid laidOutE (m := 3) (by omega) rowE (by kernel_rfl) wideE
/-- A shape by value is a key. -/
theorem keyE {n x y z : Int} (hn : (Lit.int .i64 n).wf = true) (hx : (Lit.int .i64 x).wf = true) (hy : (Lit.int .i64 y).wf = true) (hz : (Lit.int .i64 z).wf = true) :
    ∃ l, keyOf Tryz.prog 75 (.agg #[.int .i64 n, .int .i64 x, .int .i64 y, .int .i64 z]) = some l := by
  have hk : Tryz.prog.keyType 75 = true := by kernel_rfl
  have c4 : Tryz.prog.cellsOf 75 = 4 := by kernel_rfl
  have c3 : Tryz.prog.cellsOf 73 = 3 := by kernel_rfl
  have c1 : Tryz.prog.cellsOf 3 = 1 := by kernel_rfl
  obtain ⟨d, hd⟩ : ∃ d, Tryz.prog.types.size + 1 = d + 1 + 1 + 1 := ⟨Tryz.prog.types.size - 2, by have h : (75 : Nat) < Tryz.prog.types.size := rowE; omega⟩
  have r3 : List.range 3 = [0, 1, 2] := by decide
  have hl : Tryz.prog.keyLits (d + 1 + 1 + 1) 75 [.int .i64 n, .int .i64 x, .int .i64 y, .int .i64 z] = some [.int .i64 n, .int .i64 x, .int .i64 y, .int .i64 z] := by
    simp [Program.keyLits, Tryz.underlying75, Tryz.underlying73, Tryz.underlying3, c4, c3, c1, r3, hn, hx, hy, hz]
  refine ⟨.string (keyBytes [.int .i64 n, .int .i64 x, .int .i64 y, .int .i64 z]), ?_⟩
  have hf : (Value.agg #[.int .i64 n, .int .i64 x, .int .i64 y, .int .i64 z]).formed Tryz.prog 75 = true := by simp [Value.formed, Tryz.underlying75, c4]
  have e : keyOf Tryz.prog 75 (.agg #[.int .i64 n, .int .i64 x, .int .i64 y, .int .i64 z]) = if (Tryz.prog.keyType 75 && (Value.agg #[.int .i64 n, .int .i64 x, .int .i64 y, .int .i64 z]).formed Tryz.prog 75) = true then (Tryz.prog.keyLits (Tryz.prog.types.size + 1) 75 [.int .i64 n, .int .i64 x, .int .i64 y, .int .i64 z]).map fun ls => .string (keyBytes ls) else none := by
    unfold keyOf
    rw [Tryz.underlying75]
    rfl
  rw [e, hk, hf, hd, hl]
  rfl
theorem find_nil {w : World} {K1 : Value} {l1 : Lit} (h1 : keyOf Tryz.prog 75 K1 = some l1) : (Instr.findKey 75 K1 []).run Tryz.prog w = .ok none w := by
  rcases lawE.find w h1 [] (by simp) with ⟨h, _⟩ | ⟨j, e, _, h, _⟩
  · exact h
  · simp at h
theorem find_one {w : World} {K1 : Value} {l1 : Lit} (h1 : keyOf Tryz.prog 75 K1 = some l1) (v : Value) (s : Nat) : (Instr.findKey 75 K1 [⟨K1, v, s⟩]).run Tryz.prog w = .ok (some (0, v)) w := by
  rcases lawE.find w h1 [⟨K1, v, s⟩] (by simpa using ⟨l1, h1⟩) with ⟨_, h⟩ | ⟨j, e, h, he, _⟩
  · simp at h
  · match j, he with
    | 0, he => simp at he; subst he; exact h
theorem find_other {w : World} {K1 : Value} {K2 : Value} {l1 : Lit} {l2 : Lit} (h1 : keyOf Tryz.prog 75 K1 = some l1) (h2 : keyOf Tryz.prog 75 K2 = some l2) (hne : K1 ≠ K2) (v : Value) (s : Nat) : (Instr.findKey 75 K2 [⟨K1, v, s⟩]).run Tryz.prog w = .ok none w := by
  rcases lawE.find w h2 [⟨K1, v, s⟩] (by simpa using ⟨l1, h1⟩) with ⟨h, _⟩ | ⟨j, e, _, he, hk⟩
  · exact h
  · match j, he with
    | 0, he => simp at he; subst he; exact absurd hk hne
theorem find_two {w : World} {K1 : Value} {K2 : Value} {l1 : Lit} {l2 : Lit} (h1 : keyOf Tryz.prog 75 K1 = some l1) (h2 : keyOf Tryz.prog 75 K2 = some l2) (hne : K1 ≠ K2) (v u : Value) (s t : Nat) : (Instr.findKey 75 K2 [⟨K1, v, s⟩, ⟨K2, u, t⟩]).run Tryz.prog w = .ok (some (1, u)) w := by
  rcases lawE.find w h2 [⟨K1, v, s⟩, ⟨K2, u, t⟩] (by simpa using ⟨⟨l1, h1⟩, l2, h2⟩) with ⟨_, h⟩ | ⟨j, e, h, he, hk⟩
  · simp at h
  · match j, he with
    | 0, he => simp at he; subst he; exact absurd hk hne
    | 1, he => simp at he; subst he; exact h
theorem zeroI (w : World) : (zeroValue 3).run Tryz.prog w = .ok (.int .i64 0) w := by kernel_rfl
theorem look_0 {w : World} {K1 : Value} {l1 : Lit} {b : Nat} (hb : w.heap[b]? = some (.map #[] 0)) (h1 : keyOf Tryz.prog 75 K1 = some l1) :
    (Instr.lookup 115 (.map (some b)) K1 false).run Tryz.prog w = .ok (.int .i64 0) w := by
  simp [Instr.lookup, run_underlying Tryz.underlying115, MapKept.run_getObj_map hb, lawE.check w true h1, find_nil h1, zeroI, Result.andThen]
theorem look_1 {w : World} {K1 : Value} {l1 : Lit} {b : Nat} {v : Value} {s c : Nat} (hb : w.heap[b]? = some (.map #[⟨K1, v, s⟩] c)) (h1 : keyOf Tryz.prog 75 K1 = some l1) :
    (Instr.lookup 115 (.map (some b)) K1 false).run Tryz.prog w = .ok v w := by
  simp [Instr.lookup, run_underlying Tryz.underlying115, MapKept.run_getObj_map hb, lawE.check w false h1, find_one h1, Result.andThen]
theorem look_other {w : World} {K1 : Value} {K2 : Value} {l1 : Lit} {l2 : Lit} {b : Nat} {v : Value} {s c : Nat} (hb : w.heap[b]? = some (.map #[⟨K1, v, s⟩] c)) (h1 : keyOf Tryz.prog 75 K1 = some l1) (h2 : keyOf Tryz.prog 75 K2 = some l2) (hne : K1 ≠ K2) :
    (Instr.lookup 115 (.map (some b)) K2 false).run Tryz.prog w = .ok (.int .i64 0) w := by
  simp [Instr.lookup, run_underlying Tryz.underlying115, MapKept.run_getObj_map hb, lawE.check w false h2, find_other h1 h2 hne, zeroI, Result.andThen]
theorem look_2 {w : World} {K1 : Value} {K2 : Value} {l1 : Lit} {l2 : Lit} {b : Nat} {v u : Value} {s t c : Nat} (hb : w.heap[b]? = some (.map #[⟨K1, v, s⟩, ⟨K2, u, t⟩] c)) (h1 : keyOf Tryz.prog 75 K1 = some l1) (h2 : keyOf Tryz.prog 75 K2 = some l2) (hne : K1 ≠ K2) :
    (Instr.lookup 115 (.map (some b)) K2 false).run Tryz.prog w = .ok u w := by
  simp [Instr.lookup, run_underlying Tryz.underlying115, MapKept.run_getObj_map hb, lawE.check w false h2, find_two h1 h2 hne, Result.andThen]
theorem entry_0 {w : World} {K1 : Value} {l1 : Lit} {b : Nat} (hb : w.heap[b]? = some (.map #[] 0)) (h1 : keyOf Tryz.prog 75 K1 = some l1) :
    (Instr.mapEntry 115 (.map (some b)) K1).run Tryz.prog w = .ok (.tuple #[.int .i64 0, .int .i64 0]) (setBlock w b (.map #[⟨K1, .int .i64 0, 0⟩] 1)) := by
  simp [Instr.mapEntry, run_underlying Tryz.underlying115, MapKept.run_getObj_map hb, lawE.check w false h1, find_nil h1, zeroI, MapKept.run_setObj_map _ hb, Result.andThen, setBlock, goInt]
theorem entry_1 {w : World} {K1 : Value} {l1 : Lit} {b : Nat} {v : Value} {c : Nat} (hb : w.heap[b]? = some (.map #[⟨K1, v, 0⟩] c)) (h1 : keyOf Tryz.prog 75 K1 = some l1) :
    (Instr.mapEntry 115 (.map (some b)) K1).run Tryz.prog w = .ok (.tuple #[v, .int .i64 0]) (setBlock w b (.map #[⟨K1, v, 0⟩] c)) := by
  simp [Instr.mapEntry, run_underlying Tryz.underlying115, MapKept.run_getObj_map hb, lawE.check w false h1, find_one h1, lawE.stays w h1, MapKept.run_setObj_map _ hb, Result.andThen, setBlock, goInt]
theorem entry_other {w : World} {K1 : Value} {K2 : Value} {l1 : Lit} {l2 : Lit} {b : Nat} {v : Value} {s : Nat} (hb : w.heap[b]? = some (.map #[⟨K1, v, s⟩] 1)) (h1 : keyOf Tryz.prog 75 K1 = some l1) (h2 : keyOf Tryz.prog 75 K2 = some l2) (hne : K1 ≠ K2) :
    (Instr.mapEntry 115 (.map (some b)) K2).run Tryz.prog w = .ok (.tuple #[.int .i64 0, .int .i64 1]) (setBlock w b (.map #[⟨K1, v, s⟩, ⟨K2, .int .i64 0, 1⟩] 2)) := by
  simp [Instr.mapEntry, run_underlying Tryz.underlying115, MapKept.run_getObj_map hb, lawE.check w false h2, find_other h1 h2 hne, zeroI, MapKept.run_setObj_map _ hb, Result.andThen, setBlock, goInt]
theorem store_1 {w : World} {K1 : Value} {b : Nat} {v : Value} {c : Nat} (u : Value) (hb : w.heap[b]? = some (.map #[⟨K1, v, 0⟩] c)) :
    (Instr.entryStore 115 (.map (some b)) (.int .i64 0) u).run Tryz.prog w = .ok () (setBlock w b (.map #[⟨K1, u, 0⟩] c)) := by
  simp [Instr.entryStore, MapKept.run_getObj_map hb, asInt, asIntOf, MapKept.run_setObj_map _ hb, Result.andThen, setBlock]
theorem store_2 {w : World} {K1 : Value} {K2 : Value} {b : Nat} {v v' : Value} {c : Nat} (u : Value) (hb : w.heap[b]? = some (.map #[⟨K1, v, 0⟩, ⟨K2, v', 1⟩] c)) :
    (Instr.entryStore 115 (.map (some b)) (.int .i64 1) u).run Tryz.prog w = .ok () (setBlock w b (.map #[⟨K1, v, 0⟩, ⟨K2, u, 1⟩] c)) := by
  simp [Instr.entryStore, List.findIdx?_cons, MapKept.run_getObj_map hb, asInt, asIntOf, MapKept.run_setObj_map _ hb, Result.andThen, setBlock]
end Go.Proofs.YtnkacfgbkfkhdaaGreat
namespace Go.Proofs.YtnkacfgbkfkhdaaGreat
open Go.RowKit
open Go.ChangeMaps (setBlock)
set_option linter.unusedVariables false
set_option linter.unusedSimpArgs false
theorem setBlock_at {w : World} {b : Nat} {o : Obj} (h : b < w.heap.size) : (setBlock w b o).heap[b]? = some o := by simp [setBlock, h]
theorem setBlock_but (w : World) (b : Nat) (o : Obj) : But b w (setBlock w b o) :=
  ⟨rfl, rfl, rfl, by simp [setBlock], fun k _ hk => by simp only [setBlock]; rw [Array.getElem?_setIfInBounds_ne (Ne.symm hk)]⟩
theorem lt_of_heap {w : World} {b : Nat} {o : Obj} (h : w.heap[b]? = some o) : b < w.heap.size := (Array.getElem?_eq_some_iff.1 h).1
theorem setBlock_size (w : World) (b : Nat) (o : Obj) : (setBlock w b o).heap.size = w.heap.size := by simp [setBlock]
theorem step_first {K1 : Value} {l1 : Lit} {b : Nat} (W : World) (hm : W.heap[b]? = some (.map #[] 0)) (h1 : keyOf Tryz.prog 75 K1 = some l1) :
    ∃ W1 W2, (Instr.lookup 115 (.map (some b)) K1 false).run Tryz.prog W = .ok (.int .i64 0) W ∧ (Instr.mapEntry 115 (.map (some b)) K1).run Tryz.prog W = .ok (.tuple #[.int .i64 0, .int .i64 0]) W1 ∧
      (Instr.lookup 115 (.map (some b)) K1 false).run Tryz.prog W1 = .ok (.int .i64 0) W1 ∧ (Instr.entryStore 115 (.map (some b)) (.int .i64 0) (.int .i64 1)).run Tryz.prog W1 = .ok () W2 ∧
      W2.heap[b]? = some (.map #[⟨K1, .int .i64 1, 0⟩] 1) ∧ But b W W2 ∧ W2.heap.size = W.heap.size := by
  have hb := lt_of_heap hm
  have q : (setBlock W b (.map #[⟨K1, .int .i64 0, 0⟩] 1)).heap[b]? = some (.map #[⟨K1, .int .i64 0, 0⟩] 1) := setBlock_at hb
  refine ⟨_, _, look_0 hm h1, entry_0 hm h1, look_1 q h1, store_1 (.int .i64 1) q, setBlock_at (by rw [setBlock_size]; exact hb), (setBlock_but _ _ _).trans (setBlock_but _ _ _), by rw [setBlock_size, setBlock_size]⟩
theorem step_same {K1 : Value} {l1 : Lit} {b : Nat} (W : World) (hm : W.heap[b]? = some (.map #[⟨K1, .int .i64 1, 0⟩] 1)) (h1 : keyOf Tryz.prog 75 K1 = some l1) :
    ∃ W1 W2, (Instr.lookup 115 (.map (some b)) K1 false).run Tryz.prog W = .ok (.int .i64 1) W ∧ (Instr.mapEntry 115 (.map (some b)) K1).run Tryz.prog W = .ok (.tuple #[.int .i64 1, .int .i64 0]) W1 ∧
      (Instr.lookup 115 (.map (some b)) K1 false).run Tryz.prog W1 = .ok (.int .i64 1) W1 ∧ (Instr.entryStore 115 (.map (some b)) (.int .i64 0) (.int .i64 2)).run Tryz.prog W1 = .ok () W2 ∧
      W2.heap[b]? = some (.map #[⟨K1, .int .i64 2, 0⟩] 1) ∧ But b W W2 := by
  have hb := lt_of_heap hm
  have q : (setBlock W b (.map #[⟨K1, .int .i64 1, 0⟩] 1)).heap[b]? = some (.map #[⟨K1, .int .i64 1, 0⟩] 1) := setBlock_at hb
  exact ⟨_, _, look_1 hm h1, entry_1 hm h1, look_1 q h1, store_1 (.int .i64 2) q, setBlock_at (by rw [setBlock_size]; exact hb), (setBlock_but _ _ _).trans (setBlock_but _ _ _)⟩
theorem step_other {K1 : Value} {K2 : Value} {l1 : Lit} {l2 : Lit} {b : Nat} (W : World) (hm : W.heap[b]? = some (.map #[⟨K1, .int .i64 1, 0⟩] 1)) (h1 : keyOf Tryz.prog 75 K1 = some l1) (h2 : keyOf Tryz.prog 75 K2 = some l2) (hne : K1 ≠ K2) :
    ∃ W1 W2, (Instr.lookup 115 (.map (some b)) K2 false).run Tryz.prog W = .ok (.int .i64 0) W ∧ (Instr.mapEntry 115 (.map (some b)) K2).run Tryz.prog W = .ok (.tuple #[.int .i64 0, .int .i64 1]) W1 ∧
      (Instr.lookup 115 (.map (some b)) K2 false).run Tryz.prog W1 = .ok (.int .i64 0) W1 ∧ (Instr.entryStore 115 (.map (some b)) (.int .i64 1) (.int .i64 1)).run Tryz.prog W1 = .ok () W2 ∧
      W2.heap[b]? = some (.map #[⟨K1, .int .i64 1, 0⟩, ⟨K2, .int .i64 1, 1⟩] 2) ∧ But b W W2 := by
  have hb := lt_of_heap hm
  have q : (setBlock W b (.map #[⟨K1, .int .i64 1, 0⟩, ⟨K2, .int .i64 0, 1⟩] 2)).heap[b]? = some (.map #[⟨K1, .int .i64 1, 0⟩, ⟨K2, .int .i64 0, 1⟩] 2) := setBlock_at hb
  exact ⟨_, _, look_other hm h1 h2 hne, entry_other hm h1 h2 hne, look_2 q h1 h2 hne, store_2 (.int .i64 1) q, setBlock_at (by rw [setBlock_size]; exact hb), (setBlock_but _ _ _).trans (setBlock_but _ _ _)⟩
theorem len_map {b : Nat} {W : World} {es : Array MapEntry} {c : Nat} (ty : TypeId) (hm : W.heap[b]? = some (.map es c)) : (Builtin.len_ #[115] ty #[.map (some b)]).run Tryz.prog W = .ok (.int .i64 es.size) W := by
  simp [Builtin.len_, Builtin.lenOf, MapKept.run_getObj_map hm, run_underlying Tryz.underlying115, goInt, Result.andThen]
set_option maxRecDepth 20000 in
set_option maxHeartbeats 4000000 in
theorem alike_one (n x y z : Int) (g : Nat) (w : World) (l1 : Lit)
    (h1 : keyOf Tryz.prog 75 (.agg #[.int .i64 n, .int .i64 x, .int .i64 y, .int .i64 z]) = some l1)
    (hg : g < w.heap.size)
    (c0 : w.cell? ⟨g, 0, none⟩ = some (.int .i64 n)) (c1 : w.cell? ⟨g, 1, none⟩ = some (.int .i64 x)) (c2 : w.cell? ⟨g, 2, none⟩ = some (.int .i64 y)) (c3 : w.cell? ⟨g, 3, none⟩ = some (.int .i64 z)) (c4 : w.cell? ⟨g, 4, none⟩ = some (.int .i64 n)) (c5 : w.cell? ⟨g, 5, none⟩ = some (.int .i64 x)) (c6 : w.cell? ⟨g, 6, none⟩ = some (.int .i64 y)) (c7 : w.cell? ⟨g, 7, none⟩ = some (.int .i64 z)) :
    Calls Tryz.prog 85 #[.slice (some ⟨g, 0, none⟩) 2 2] w fun e w' => e = .returned (.bool true) ∧ Below w.heap.size w w' := by
  have K1 : Hid (keyOf Tryz.prog 75 (.agg #[.int .i64 n, .int .i64 x, .int .i64 y, .int .i64 z]) = some l1) := h1
  clear h1
  have hmm := @run_makeMap Tryz.prog
  go_enter Tryz.func85, Tryz.ntmps85
  go_wp2
  refine wp_loop_rounds 3 ?_
  rw [rounds_succ]
  go_wp2
  generalize hW : World.alloc (World.alloc w (.map #[] 0)) (.cells #[.int .i64 n, .int .i64 x, .int .i64 y, .int .i64 z] 75) = W
  have HB : Hid (Below w.heap.size w W) := by rw [← hW]; exact bAlloc (bAlloc (Below.refl _ _) _) _
  have hm : W.heap[w.heap.size]? = some (.map #[] 0) := by rw [← hW]; exact heap_alloc2_old w _ _
  have e0 : W.cell? ⟨w.heap.size + 1, 0, none⟩ = some (.int .i64 n) := by rw [← hW]; simp
  have e1 : W.cell? ⟨w.heap.size + 1, 1, none⟩ = some (.int .i64 x) := by rw [← hW]; simp
  have e2 : W.cell? ⟨w.heap.size + 1, 2, none⟩ = some (.int .i64 y) := by rw [← hW]; simp
  have e3 : W.cell? ⟨w.heap.size + 1, 3, none⟩ = some (.int .i64 z) := by rw [← hW]; simp
  clear hW
  obtain ⟨W1, W2, f1, f2, f3, f4, m2, hbut, hsz⟩ := step_first (b := w.heap.size) W.drew hm K1.out
  have M2 : Hid (W2.heap[w.heap.size]? = some (.map #[⟨.agg #[.int .i64 n, .int .i64 x, .int .i64 y, .int .i64 z], .int .i64 1, 0⟩] 1)) := m2
  have HB2 : Hid (Below w.heap.size w W2) := (HB.out.drew).trans (hbut.below (Nat.le_refl _) HB.out.size)
  clear m2 hbut hsz
  go_region
  clear f1 f2 f3 f4 hm e0 e1 e2 e3 c0 c1 c2 c3
  clear W1 HB W
  have d4 : W2.cell? ⟨g, 4, none⟩ = some (.int .i64 n) := by rw [HB2.out.cell (p := ⟨g, 4, none⟩) hg]; exact c4
  have d5 : W2.cell? ⟨g, 5, none⟩ = some (.int .i64 x) := by rw [HB2.out.cell (p := ⟨g, 5, none⟩) hg]; exact c5
  have d6 : W2.cell? ⟨g, 6, none⟩ = some (.int .i64 y) := by rw [HB2.out.cell (p := ⟨g, 6, none⟩) hg]; exact c6
  have d7 : W2.cell? ⟨g, 7, none⟩ = some (.int .i64 z) := by rw [HB2.out.cell (p := ⟨g, 7, none⟩) hg]; exact c7
  clear c4 c5 c6 c7
  go_wp2
  rw [rounds_succ]
  go_wp2
  generalize hW : World.alloc W2 (.cells #[.int .i64 n, .int .i64 x, .int .i64 y, .int .i64 z] 75) = W
  have HB : Hid (Below w.heap.size w W) := by rw [← hW]; exact bAlloc HB2.out _
  have hm : W.heap[w.heap.size]? = some (.map #[⟨.agg #[.int .i64 n, .int .i64 x, .int .i64 y, .int .i64 z], .int .i64 1, 0⟩] 1) := by rw [← hW, heap_alloc_old _ _ (lt_of_heap M2.out)]; exact M2.out
  have e0 : W.cell? ⟨W2.heap.size, 0, none⟩ = some (.int .i64 n) := by rw [← hW]; exact cell_new _ _ _ rfl
  have e1 : W.cell? ⟨W2.heap.size, 1, none⟩ = some (.int .i64 x) := by rw [← hW]; exact cell_new _ _ _ rfl
  have e2 : W.cell? ⟨W2.heap.size, 2, none⟩ = some (.int .i64 y) := by rw [← hW]; exact cell_new _ _ _ rfl
  have e3 : W.cell? ⟨W2.heap.size, 3, none⟩ = some (.int .i64 z) := by rw [← hW]; exact cell_new _ _ _ rfl
  clear hW d4 d5 d6 d7
  obtain ⟨W3, W4, f1, f2, f3, f4, m4, hbut⟩ := step_same (b := w.heap.size) W.drew hm K1.out
  have HB4 : Hid (Below w.heap.size w W4) := (HB.out.drew).trans (hbut.below (Nat.le_refl _) HB.out.size)
  have hlen : ∀ ty, (Builtin.len_ #[115] ty #[.map (some w.heap.size)]).run Tryz.prog W4 = .ok (.int .i64 1) W4 := fun ty => len_map ty m4
  clear m4 hbut
  go_region
  clear f1 f2 f3 f4 hm e0 e1 e2 e3
  go_wp2
  rw [rounds_succ]
  go_wp2
  go_ret
  exact ⟨rfl, HB4.out⟩
set_option maxRecDepth 20000 in
set_option maxHeartbeats 4000000 in
theorem alike_two (n x y z n' x' y' z' : Int) (g : Nat) (w : World) (l1 l2 : Lit)
    (h1 : keyOf Tryz.prog 75 (.agg #[.int .i64 n, .int .i64 x, .int .i64 y, .int .i64 z]) = some l1) (h2 : keyOf Tryz.prog 75 (.agg #[.int .i64 n', .int .i64 x', .int .i64 y', .int .i64 z']) = some l2)
    (hg : g < w.heap.size)
    (c0 : w.cell? ⟨g, 0, none⟩ = some (.int .i64 n)) (c1 : w.cell? ⟨g, 1, none⟩ = some (.int .i64 x)) (c2 : w.cell? ⟨g, 2, none⟩ = some (.int .i64 y)) (c3 : w.cell? ⟨g, 3, none⟩ = some (.int .i64 z)) (c4 : w.cell? ⟨g, 4, none⟩ = some (.int .i64 n')) (c5 : w.cell? ⟨g, 5, none⟩ = some (.int .i64 x')) (c6 : w.cell? ⟨g, 6, none⟩ = some (.int .i64 y')) (c7 : w.cell? ⟨g, 7, none⟩ = some (.int .i64 z'))
    (hne : (Value.agg #[.int .i64 n, .int .i64 x, .int .i64 y, .int .i64 z]) ≠ .agg #[.int .i64 n', .int .i64 x', .int .i64 y', .int .i64 z']) :
    Calls Tryz.prog 85 #[.slice (some ⟨g, 0, none⟩) 2 2] w fun e w' => e = .returned (.bool false) ∧ Below w.heap.size w w' := by
  have K1 : Hid (keyOf Tryz.prog 75 (.agg #[.int .i64 n, .int .i64 x, .int .i64 y, .int .i64 z]) = some l1) := h1
  have K2 : Hid (keyOf Tryz.prog 75 (.agg #[.int .i64 n', .int .i64 x', .int .i64 y', .int .i64 z']) = some l2) := h2
  have NE : Hid ((Value.agg #[.int .i64 n, .int .i64 x, .int .i64 y, .int .i64 z]) ≠ .agg #[.int .i64 n', .int .i64 x', .int .i64 y', .int .i64 z']) := hne
  clear h1 h2 hne
  have hmm := @run_makeMap Tryz.prog
  go_enter Tryz.func85, Tryz.ntmps85
  go_wp2
  refine wp_loop_rounds 3 ?_
  rw [rounds_succ]
  go_wp2
  generalize hW : World.alloc (World.alloc w (.map #[] 0)) (.cells #[.int .i64 n, .int .i64 x, .int .i64 y, .int .i64 z] 75) = W
  have HB : Hid (Below w.heap.size w W) := by rw [← hW]; exact bAlloc (bAlloc (Below.refl _ _) _) _
  have hm : W.heap[w.heap.size]? = some (.map #[] 0) := by rw [← hW]; exact heap_alloc2_old w _ _
  have e0 : W.cell? ⟨w.heap.size + 1, 0, none⟩ = some (.int .i64 n) := by rw [← hW]; simp
  have e1 : W.cell? ⟨w.heap.size + 1, 1, none⟩ = some (.int .i64 x) := by rw [← hW]; simp
  have e2 : W.cell? ⟨w.heap.size + 1, 2, none⟩ = some (.int .i64 y) := by rw [← hW]; simp
  have e3 : W.cell? ⟨w.heap.size + 1, 3, none⟩ = some (.int .i64 z) := by rw [← hW]; simp
  clear hW
  obtain ⟨W1, W2, f1, f2, f3, f4, m2, hbut, hsz⟩ := step_first (b := w.heap.size) W.drew hm K1.out
  have M2 : Hid (W2.heap[w.heap.size]? = some (.map #[⟨.agg #[.int .i64 n, .int .i64 x, .int .i64 y, .int .i64 z], .int .i64 1, 0⟩] 1)) := m2
  have HB2 : Hid (Below w.heap.size w W2) := (HB.out.drew).trans (hbut.below (Nat.le_refl _) HB.out.size)
  clear m2 hbut hsz
  go_region
  clear f1 f2 f3 f4 hm e0 e1 e2 e3 c0 c1 c2 c3
  clear W1 HB W
  have d4 : W2.cell? ⟨g, 4, none⟩ = some (.int .i64 n') := by rw [HB2.out.cell (p := ⟨g, 4, none⟩) hg]; exact c4
  have d5 : W2.cell? ⟨g, 5, none⟩ = some (.int .i64 x') := by rw [HB2.out.cell (p := ⟨g, 5, none⟩) hg]; exact c5
  have d6 : W2.cell? ⟨g, 6, none⟩ = some (.int .i64 y') := by rw [HB2.out.cell (p := ⟨g, 6, none⟩) hg]; exact c6
  have d7 : W2.cell? ⟨g, 7, none⟩ = some (.int .i64 z') := by rw [HB2.out.cell (p := ⟨g, 7, none⟩) hg]; exact c7
  clear c4 c5 c6 c7
  go_wp2
  rw [rounds_succ]
  go_wp2
  generalize hW : World.alloc W2 (.cells #[.int .i64 n', .int .i64 x', .int .i64 y', .int .i64 z'] 75) = W
  have HB : Hid (Below w.heap.size w W) := by rw [← hW]; exact bAlloc HB2.out _
  have hm : W.heap[w.heap.size]? = some (.map #[⟨.agg #[.int .i64 n, .int .i64 x, .int .i64 y, .int .i64 z], .int .i64 1, 0⟩] 1) := by rw [← hW, heap_alloc_old _ _ (lt_of_heap M2.out)]; exact M2.out
  have e0 : W.cell? ⟨W2.heap.size, 0, none⟩ = some (.int .i64 n') := by rw [← hW]; exact cell_new _ _ _ rfl
  have e1 : W.cell? ⟨W2.heap.size, 1, none⟩ = some (.int .i64 x') := by rw [← hW]; exact cell_new _ _ _ rfl
  have e2 : W.cell? ⟨W2.heap.size, 2, none⟩ = some (.int .i64 y') := by rw [← hW]; exact cell_new _ _ _ rfl
  have e3 : W.cell? ⟨W2.heap.size, 3, none⟩ = some (.int .i64 z') := by rw [← hW]; exact cell_new _ _ _ rfl
  clear hW d4 d5 d6 d7
  obtain ⟨W3, W4, f1, f2, f3, f4, m4, hbut⟩ := step_other (b := w.heap.size) W.drew hm K1.out K2.out NE.out
  have HB4 : Hid (Below w.heap.size w W4) := (HB.out.drew).trans (hbut.below (Nat.le_refl _) HB.out.size)
  have hlen : ∀ ty, (Builtin.len_ #[115] ty #[.map (some w.heap.size)]).run Tryz.prog W4 = .ok (.int .i64 2) W4 := fun ty => len_map ty m4
  clear m4 hbut
  go_region
  clear f1 f2 f3 f4 hm e0 e1 e2 e3
  go_wp2
  rw [rounds_succ]
  go_wp2
  go_ret
  exact ⟨rfl, HB4.out⟩
end Go.Proofs.YtnkacfgbkfkhdaaGreat
namespace Go.Proofs.YtnkacfgbkfkhdaaGreat
open Go.RowKit
set_option linter.unusedVariables false
theorem ext_eq {l m : List Int} {n n' : Nat} {x y z x' y' z' : Int} (h1 : Ext l n x y z) (h2 : Ext m n' x' y' z') (k1 : l.length ≤ 3) (k2 : m.length ≤ 3) (e : (n : Int) = n' ∧ x = x' ∧ y = y' ∧ z = z') : l = m := by
  obtain ⟨rfl, rfl, rfl, rfl⟩ := h1
  obtain ⟨rfl, rfl, rfl, rfl⟩ := h2
  obtain ⟨e0, e1, e2, e3⟩ := e
  have e0 : l.length = m.length := by omega
  apply List.ext_getElem e0
  intro i a b
  have : i = 0 ∨ i = 1 ∨ i = 2 := by omega
  rcases this with rfl | rfl | rfl
  · simpa [a, b] using e1
  · simpa [a, b] using e2
  · simpa [a, b] using e3
theorem ext_wf {l : List Int} {n : Nat} {x y z : Int} (hs : 0 ≤ sizeV l) (he : Ext l n x y z) : (Lit.int .i64 (n : Int)).wf = true ∧ (Lit.int .i64 x).wf = true ∧ (Lit.int .i64 y).wf = true ∧ (Lit.int .i64 z).wf = true := by
  obtain ⟨rfl, rfl, rfl, rfl⟩ := he
  obtain ⟨k1, k2, k3, k4⟩ := sizeV_ok hs
  have d : ∀ k, 0 ≤ l.getD k 0 ∧ l.getD k 0 ≤ 300 := by
    intro k
    by_cases hk : k < l.length
    · rw [List.all_eq_true] at k2
      exact dimOk_bd (k2 _ (by simp [hk]))
    · simp [List.getD, List.getElem?_eq_none (Nat.le_of_not_lt hk)]
  have d0 := d 0
  have d1 := d 1
  have d2 := d 2
  exact ⟨WalkArith.wf_i64 (by omega), WalkArith.wf_i64 (by omega), WalkArith.wf_i64 (by omega), WalkArith.wf_i64 (by omega)⟩
/-- Whether two shapes by value are one. -/
theorem alike_ext {l m : List Int} {n n' : Nat} {x y z x' y' z' : Int} (hs : 0 ≤ sizeV l) (ht : 0 ≤ sizeV m) (h1 : Ext l n x y z) (h2 : Ext m n' x' y' z') (g : Nat) (w : World) (hg : g < w.heap.size)
    (c0 : w.cell? ⟨g, 0, none⟩ = some (.int .i64 n)) (c1 : w.cell? ⟨g, 1, none⟩ = some (.int .i64 x)) (c2 : w.cell? ⟨g, 2, none⟩ = some (.int .i64 y)) (c3 : w.cell? ⟨g, 3, none⟩ = some (.int .i64 z))
    (c4 : w.cell? ⟨g, 4, none⟩ = some (.int .i64 n')) (c5 : w.cell? ⟨g, 5, none⟩ = some (.int .i64 x')) (c6 : w.cell? ⟨g, 6, none⟩ = some (.int .i64 y')) (c7 : w.cell? ⟨g, 7, none⟩ = some (.int .i64 z')) :
    Calls Tryz.prog 85 #[.slice (some ⟨g, 0, none⟩) 2 2] w fun e w' => e = .returned (.bool (decide (l = m))) ∧ Below w.heap.size w w' := by
  obtain ⟨a0, a1, a2, a3⟩ := ext_wf hs h1
  obtain ⟨b0, b1, b2, b3⟩ := ext_wf ht h2
  obtain ⟨l1, k1⟩ := keyE a0 a1 a2 a3
  obtain ⟨l2, k2⟩ := keyE b0 b1 b2 b3
  by_cases e : (n : Int) = n' ∧ x = x' ∧ y = y' ∧ z = z'
  · have q := ext_eq h1 h2 (sizeV_ok hs).1 (sizeV_ok ht).1 e
    obtain ⟨e0, rfl, rfl, rfl⟩ := e
    rw [show decide (l = m) = true by simpa using q]
    rw [← e0] at c4
    exact alike_one n x y z g w l1 k1 hg c0 c1 c2 c3 c4 c5 c6 c7
  · have q : ¬ l = m := by
      rintro rfl
      obtain ⟨rfl, rfl, rfl, rfl⟩ := h1
      obtain ⟨rfl, rfl, rfl, rfl⟩ := h2
      exact e ⟨rfl, rfl, rfl, rfl⟩
    rw [show decide (l = m) = false by simpa using q]
    exact alike_two n x y z n' x' y' z' g w l1 l2 k1 k2 hg c0 c1 c2 c3 c4 c5 c6 c7 (by
      intro h
      simp at h
      exact e ⟨by omega, h.2⟩)
set_option maxRecDepth 20000 in
set_option maxHeartbeats 2000000 in
/-- ShapeSame, whatever lists it is given. -/
theorem same_impl {l m : List Int} {a b : Option Addr} {w : World} (c d : Nat) (h1 : Ints w a l) (h2 : Ints w b m) :
    Calls Tryz.prog 63 #[.slice a l.length c, .slice b m.length d] w fun e w' => e = .returned (.bool (decide (0 ≤ sizeV l) && decide (l = m))) ∧ Below w.heap.size w w' := by
  have H1 : Hid (Ints w a l) := h1
  have H2 : Hid (Ints w b m) := h2
  clear h1 h2
  by_cases hs : 0 ≤ sizeV l
  · have hs' : decide (0 ≤ sizeV l) = true := by simpa using hs
    have HS : Hid (0 ≤ sizeV l) := hs
    by_cases ht : 0 ≤ sizeV m
    · have ht' : decide (0 ≤ sizeV m) = true := by simpa using ht
      have HT : Hid (0 ≤ sizeV m) := ht
      clear hs ht
      generalize hq : decide (l = m) = q
      have HQ : Hid (decide (l = m) = q) := hq
      clear hq
      go_enter Tryz.func63, Tryz.ntmps63
      go_wp2_with fail
      refine (ext_impl _ H1.out).mono ?_
      rintro e w1 ⟨n, x, y, z, rfl, he, hb⟩
      have HE : Hid (Ext l n x y z) := he HS.out
      have HB : Hid (Below w.heap.size w w1) := hb
      clear he hb
      go_wp2_with fail
      refine (ext_impl _ ((H2.out.keep HB.out).alloc _)).mono ?_
      rintro e w2 ⟨n', x', y', z', rfl, he, hb⟩
      have HE2 : Hid (Ext m n' x' y' z') := he HT.out
      have HB2 : Hid (Below w.heap.size w w2) := bTrans (bAlloc HB.out _) hb
      have r0 : ∀ o : Obj, (w2.alloc o).cell? ⟨w1.heap.size, 0, none⟩ = some (.int .i64 n) := fun o => by rw [(bAlloc hb o).cell (p := ⟨w1.heap.size, 0, none⟩) (by simp)]; exact cell_new _ _ _ rfl
      have r1 : ∀ o : Obj, (w2.alloc o).cell? ⟨w1.heap.size, 1, none⟩ = some (.int .i64 x) := fun o => by rw [(bAlloc hb o).cell (p := ⟨w1.heap.size, 1, none⟩) (by simp)]; exact cell_new _ _ _ rfl
      have r2 : ∀ o : Obj, (w2.alloc o).cell? ⟨w1.heap.size, 2, none⟩ = some (.int .i64 y) := fun o => by rw [(bAlloc hb o).cell (p := ⟨w1.heap.size, 2, none⟩) (by simp)]; exact cell_new _ _ _ rfl
      have r3 : ∀ o : Obj, (w2.alloc o).cell? ⟨w1.heap.size, 3, none⟩ = some (.int .i64 z) := fun o => by rw [(bAlloc hb o).cell (p := ⟨w1.heap.size, 3, none⟩) (by simp)]; exact cell_new _ _ _ rfl
      clear he hb
      go_wp2_with fail
      refine (alike_ext HS.out HT.out HE.out HE2.out (w2.heap.size + 1) _ (by simp) (by simp) (by simp) (by simp) (by simp) (by simp) (by simp) (by simp) (by simp)).mono ?_
      rintro e w3 ⟨rfl, hb⟩
      have HB3 : Hid (Below w.heap.size w w3) := bTrans (bAlloc (bAlloc HB2.out _) _) hb
      clear hb
      rw [HQ.out]
      go_wp2
      go_ret
      exact ⟨by simp [hs'], HB3.out⟩
    · have ht' : decide (0 ≤ sizeV m) = false := by simpa using ht
      have hne : l ≠ m := fun e => ht (e ▸ hs)
      have HN : Hid (l ≠ m) := hne
      clear hs ht hne
      go_enter Tryz.func63, Tryz.ntmps63
      go_wp2_with fail
      refine (ext_impl _ H1.out).mono ?_
      rintro e w1 ⟨n, x, y, z, rfl, he, hb⟩
      have HB : Hid (Below w.heap.size w w1) := hb
      clear he hb
      go_wp2_with fail
      refine (ext_impl _ ((H2.out.keep HB.out).alloc _)).mono ?_
      rintro e w2 ⟨n', x', y', z', rfl, he, hb⟩
      have HB2 : Hid (Below w.heap.size w w2) := bTrans (bAlloc HB.out _) hb
      clear he hb
      go_wp2
      go_ret
      exact ⟨by simp [HN.out], bAlloc HB2.out _⟩
  · have hs' : decide (0 ≤ sizeV l) = false := by simpa using hs
    clear hs
    go_enter Tryz.func63, Tryz.ntmps63
    go_wp2_with fail
    refine (ext_impl _ H1.out).mono ?_
    rintro e w1 ⟨n, x, y, z, rfl, he, hb⟩
    have HB : Hid (Below w.heap.size w w1) := hb
    clear he hb
    go_wp2_with fail
    refine (ext_impl _ ((H2.out.keep HB.out).alloc _)).mono ?_
    rintro e w2 ⟨n', x', y', z', rfl, he, hb⟩
    have HB2 : Hid (Below w.heap.size w w2) := bTrans (bAlloc HB.out _) hb
    clear he hb
    generalize decide (0 ≤ sizeV m) = q
    go_wp2
    go_ret
    exact ⟨by simp [hs'], bAlloc HB2.out _⟩
end Go.Proofs.YtnkacfgbkfkhdaaGreat
