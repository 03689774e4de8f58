
/-
  Walks: a tree's size, its copy, two trees held against each other; a tree that is handed in, opened.
-/
import Derived.Test.YtnebjnglcfebeaaDoorTreeT
import Derived.Test.YtnebjnglcfebeaaDoorTreeU
import Derived.Test.YtnebjnglcfebeaaDoorTreeF
import Derived.Lib.SmallJoins
namespace Go.Proofs.YtnebjnglcfebeaaDoor
open Go.RowKit Go.ChangeShapes Go.WideShapes
set_option linter.unusedVariables false
set_option linter.unusedSimpArgs false
theorem tree_loaded {w : World} {g : Nat} {x : Value} (h : w.heap[g]? = some (.cells #[x] 26 (0, 0))) : (loadVar 26 ⟨g, 0, none⟩).run Tryd.prog w = .ok (.agg #[x]) w := by
  have c0 : w.cell? ⟨g, 0, none⟩ = some x := cell_at h rfl
  simp [loadVar, go_sem, c0]
theorem results_tree {fn : Func} {p : Tmp} (h : fn.results = #[.cell p 26]) (tmps : Array Value) (w : World) (g : Nat) (x : Value) (hp : tmps.getD p undef = .pointer (some ⟨g, 0, none⟩))
    (hg : w.heap[g]? = some (.cells #[x] 26 (0, 0))) : (results fn tmps).run Tryd.prog w = .ok (.agg #[x]) w := by
  have e : (asAddr (.pointer (some ⟨g, 0, none⟩))).run Tryd.prog w = .ok ⟨g, 0, none⟩ w := by simp [asAddr]
  have l := tree_loaded hg
  have hp' : tmps[p]?.getD undef = .pointer (some ⟨g, 0, none⟩) := by simpa using hp
  simp [results, h, hp', e, l, Sem.run_bind, Result.andThen]
set_option maxRecDepth 20000 in
set_option maxHeartbeats 4000000 in
theorem eqTree_same {w : World} {v u : Value} {n : Nat} {E : Nat → Nat → Int} {N : Nat → List Int} (h : ExprsI w v n E N) (k : ExprsI w u n E N) (hl : ∀ i, (N i).length ≤ 1048576) (hn : n ≤ 1048576) :
    Calls Tryd.prog 9 #[.agg #[v], .agg #[u]] w fun r w' => r = .returned (.bool true) ∧ Below w.heap.size w w' := by
  have CS : Hid (∀ W, Below w.heap.size w W → Calls Tryd.prog 24 #[v, u] W fun r w' => r = .returned (.bool true) ∧ Below W.heap.size W w') := fun W hb => eqExprS_same (h.keep hb) (k.keep hb) hl hn
  clear hl hn
  obtain ⟨a, c, rfl, _⟩ := h
  obtain ⟨a', c', rfl, _⟩ := k
  go_enter Tryd.func9, Tryd.ntmps9
  go_wp2_with fail
  refine (CS.out _ two_below).mono ?_
  rintro r w2 ⟨rfl, hb⟩
  have B2 : Hid (Below w.heap.size w w2) := bTrans two_below hb
  clear hb
  go_wp2
  go_ret
  exact ⟨rfl, B2.out⟩
theorem open_agg1 {H : Type} {enc : TypeId × Value → H} {P : Program} {w : World} {base : Nat} {spare : Nat → Bool} {held : Bool} {r : Reach} {b0 : Nat} {t : TypeId} {f0 : Field} {v : Value} {d : DataW H} {p : List MemPlace} (hs : P.underlying t = some (.struct #[f0])) (hone : Deep.oneCellFields P #[f0] = true) (hC : P.cellsOf t = 1)
    (hv : Value.okWide P w r b0 t v) (h : DataW.Trod enc P w base spare held t v d p) :
    ∃ (v0 : Value) (y0 : DataW H × List MemPlace) (n : Nat), v = .agg #[v0] ∧ d = .agg [y0.1] ∧ p = y0.2 ∧ DataW.trod enc P w base spare held n f0.type [v0] = some y0 := by
  obtain ⟨cs, rfl, hsz⟩ := okWide_struct hs hv
  obtain ⟨c0, rfl⟩ : ∃ c0, cs = #[c0] := by
    have h1 := hsz.trans hC
    obtain ⟨l⟩ := cs
    match l, h1 with
    | [c0], _ => exact ⟨c0, rfl⟩
  obtain ⟨fuel, hf⟩ := h
  obtain ⟨y0, n, hx, _, h0⟩ := trod_struct1 hs hf
  obtain ⟨o0, k0⟩ := Deep.hone_of hone 0 f0 rfl
  simp only [Prod.mk.injEq] at hx
  exact ⟨c0, y0, n, rfl, hx.1, hx.2, by simpa [Value.cells, o0, k0] using h0⟩
end Go.Proofs.YtnebjnglcfebeaaDoor
