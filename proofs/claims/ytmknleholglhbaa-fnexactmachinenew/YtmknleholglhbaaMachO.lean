/-
  Walks: MachineNew, both sides; machines without a stack held against each other, marked and looked at.
-/
import Derived.Test.YtmknleholglhbaaVarsI2
import Derived.Test.YtmknleholglhbaaVarsS
import Derived.Test.YtmknleholglhbaaVarsR
import Derived.Test.YtmknleholglhbaaVarsX
import Derived.Test.YtmknleholglhbaaArrs
namespace Go.Proofs.Ytmknleholglhbaa
open Go.RowKit
set_option linter.unusedVariables false
set_option linter.unusedSimpArgs false
/-- A machine ahead of its first instruction. -/
def machV (u : Value) (st : Int) : Value := .agg #[.int .i64 0, .slice none 0 0, u, .int .i64 st, .int .i64 0]
/-- A block with a machine in it. -/
def BoxM (w : World) (g : Nat) (u : Value) (st : Int) : Prop := w.heap[g]? = some (.cells #[.int .i64 0, .slice none 0 0, u, .int .i64 st, .int .i64 0] 27 (0, 0))
section
variable {w w' : World} {g P Q : Nat} {u : Value} {st : Int}
theorem BoxM.lt (h : BoxM w g u st) : g < w.heap.size := lt_of_heapA h
theorem BoxM.keep (h : BoxM w g u st) (hb : Below w.heap.size w w') : BoxM w' g u st := by unfold BoxM; rw [hb.block g h.lt]; exact h
theorem BoxM.win (h : BoxM w g u st) (hw : Win P Q w w') (hd : g < P ∨ Q ≤ g) : BoxM w' g u st := by unfold BoxM; rw [hw.block g h.lt hd]; exact h
theorem BoxM.cells (h : BoxM w g u st) : w.cell? ⟨g, 0, none⟩ = some (.int .i64 0) ∧ w.cell? ⟨g, 1, none⟩ = some (.slice none 0 0) ∧ w.cell? ⟨g, 2, none⟩ = some u ∧ w.cell? ⟨g, 3, none⟩ = some (.int .i64 st) ∧ w.cell? ⟨g, 4, none⟩ = some (.int .i64 0) := ⟨cell_at h rfl, cell_at h rfl, cell_at h rfl, cell_at h rfl, cell_at h rfl⟩
theorem boxM_new (w : World) (u : Value) (st : Int) : BoxM (w.alloc (.cells #[.int .i64 0, .slice none 0 0, u, .int .i64 st, .int .i64 0] 27)) w.heap.size u st := heap_alloc_new w _
end
theorem two_blocksM (w : World) (A B : Obj) : ((w.alloc A).alloc B).heap[w.heap.size]? = some A ∧ ((w.alloc A).alloc B).heap[w.heap.size + 1]? = some B := by
  have e1 := heap_alloc_new w A
  have e2 := heap_alloc_new (w.alloc A) B
  simp only [World.size_alloc] at e2
  refine ⟨?_, e2⟩
  rw [heap_alloc_old _ _ (by simp only [World.size_alloc]; omega)]; exact e1
theorem markArrs_nil (k0 : Int) (w : World) : Calls Try.prog 20 #[.slice none 0 0, .int .i64 k0] w fun e w' => e = .returned (.int .i64 k0) ∧ Below w.heap.size w w' := by
  go_enter Try.func20, Try.ntmps20
  go_wp2
  refine wp_loop_rounds 1 ?_
  rw [rounds_succ]
  go_wp2
  go_ret
  exact ⟨rfl, Below.refl _ _⟩
theorem heldArrs_nil (k0 : Int) (w : World) : Calls Try.prog 21 #[.slice none 0 0, .int .i64 k0] w fun e w' => e = .returned (.int .i64 k0) ∧ Below w.heap.size w w' := by
  go_enter Try.func21, Try.ntmps21
  go_wp2
  refine wp_loop_rounds 1 ?_
  rw [rounds_succ]
  go_wp2
  go_ret
  exact ⟨rfl, Below.refl _ _⟩
theorem mach_loaded {w : World} {g : Nat} {x0 x1 x2 x3 x4 : Value} (h : w.heap[g]? = some (.cells #[x0, x1, x2, x3, x4] 27 (0, 0))) : (loadVar 27 ⟨g, 0, none⟩).run Try.prog w = .ok (.agg #[x0, x1, x2, x3, x4]) w := by
  have c0 : w.cell? ⟨g, 0, none⟩ = some x0 := cell_at h rfl
  have c1 : w.cell? ⟨g, 1, none⟩ = some x1 := cell_at h rfl
  have c2 : w.cell? ⟨g, 2, none⟩ = some x2 := cell_at h rfl
  have c3 : w.cell? ⟨g, 3, none⟩ = some x3 := cell_at h rfl
  have c4 : w.cell? ⟨g, 4, none⟩ = some x4 := cell_at h rfl
  simp [loadVar, go_sem, c0, c1, c2, c3, c4]
theorem results_mach {fn : Func} {p : Tmp} (h : fn.results = #[.cell p 27]) (tmps : Array Value) (w : World) (g : Nat) (x0 x1 x2 x3 x4 : Value) (hp : tmps.getD p undef = .pointer (some ⟨g, 0, none⟩))
    (hg : w.heap[g]? = some (.cells #[x0, x1, x2, x3, x4] 27 (0, 0))) : (results fn tmps).run Try.prog w = .ok (.agg #[x0, x1, x2, x3, x4]) w := by
  have e : (asAddr (.pointer (some ⟨g, 0, none⟩))).run Try.prog w = .ok ⟨g, 0, none⟩ w := by simp [asAddr]
  have l := mach_loaded hg
  have hp' : tmps[p]?.getD undef = .pointer (some ⟨g, 0, none⟩) := by simpa using hp
  simp [results, h, hp', e, l, Sem.run_bind, Result.andThen]
theorem mach_stored {w : World} {g : Nat} {x0 x1 x2 x3 x4 y0 y1 y2 y3 y4 : Value} {t : TypeId} (h : w.heap[g]? = some (.cells #[x0, x1, x2, x3, x4] t (0, 0))) : (((((w.setCell ⟨g, 0, none⟩ y0).setCell ⟨g, 1, none⟩ y1).setCell ⟨g, 2, none⟩ y2).setCell ⟨g, 3, none⟩ y3).setCell ⟨g, 4, none⟩ y4).heap[g]? = some (.cells #[y0, y1, y2, y3, y4] t (0, 0)) := by
  have h0 := heap_setCell_same w g 0 _ _ y0 h
  have h1 := heap_setCell_same _ g 1 _ _ y1 h0
  have h2 := heap_setCell_same _ g 2 _ _ y2 h1
  have h3 := heap_setCell_same _ g 3 _ _ y3 h2
  have h4 := heap_setCell_same _ g 4 _ _ y4 h3
  simpa using h4
set_option maxRecDepth 20000 in
set_option maxHeartbeats 4000000 in
/-- MachineNew (impl). -/
theorem machNew_impl {w : World} {v : Value} {n : Nat} {B : Nat → Bool} {S D : Nat → List Int} (st : Int) (h : VarsI w v n B S D) (hl : ∀ i, (S i).length ≤ 1048576 ∧ (D i).length ≤ 1048576) (hn : n ≤ 1048576) :
    Calls Try.prog 7 #[v, .int .i64 st] w fun e w' => ∃ o, e = .returned (machV (.slice (some ⟨o, 0, none⟩) n n) st) ∧ w.heap.size ≤ o ∧ OwnVars o w'.heap.size n n w' B S D ∧ Below w.heap.size w w' := by
  have CV : Hid (∀ W, Below w.heap.size w W → Calls Try.prog 16 #[v] W fun e w' => ∃ o, e = .returned (.slice (some ⟨o, 0, none⟩) n n) ∧ W.heap.size ≤ o ∧ OwnVars o w'.heap.size n n w' B S D ∧ Below W.heap.size W w') := fun W hb => copiedVars_impl (h.keep hb) hl hn
  obtain ⟨a, c, rfl, _⟩ := h
  clear hl
  go_enter Try.func7, Try.ntmps7
  go_wp2_with fail
  refine (CV.out _ (bAlloc (Below.refl _ _) _)).mono ?_
  rintro r w2 ⟨o, rfl, ho, hO, hb⟩
  have R2 : Hid (w2.heap[w.heap.size]? = some (.cells #[.int .i64 0, .slice none 0 0, .slice none 0 0, .int .i64 0, .int .i64 0] 27 (0, 0))) := by show _ = _; rw [hb.block _ (by simp)]; exact heap_alloc_new w _
  have B2 : Hid (Below w.heap.size w w2) := bTrans (bAlloc (Below.refl _ _) _) hb
  have LT : Hid (w.heap.size < w2.heap.size) := lt_of_heapA R2.out
  have O2 : Hid (OwnVars o w2.heap.size n n w2 B S D ∧ w.heap.size + 1 ≤ o) := ⟨hO, by simpa using ho⟩
  clear CV hb hO ho
  have r0 : w2.cell? ⟨w.heap.size, 0, none⟩ = some (.int .i64 0) := cell_at R2.out rfl
  have f0 : w2.frozen? ⟨w.heap.size, 0, none⟩ = false := free_at R2.out 0
  have r1 : w2.cell? ⟨w.heap.size, 1, none⟩ = some (.slice none 0 0) := cell_at R2.out rfl
  have f1 : w2.frozen? ⟨w.heap.size, 1, none⟩ = false := free_at R2.out 1
  have r2 : w2.cell? ⟨w.heap.size, 2, none⟩ = some (.slice none 0 0) := cell_at R2.out rfl
  have f2 : w2.frozen? ⟨w.heap.size, 2, none⟩ = false := free_at R2.out 2
  have r3 : w2.cell? ⟨w.heap.size, 3, none⟩ = some (.int .i64 0) := cell_at R2.out rfl
  have f3 : w2.frozen? ⟨w.heap.size, 3, none⟩ = false := free_at R2.out 3
  have r4 : w2.cell? ⟨w.heap.size, 4, none⟩ = some (.int .i64 0) := cell_at R2.out rfl
  have f4 : w2.frozen? ⟨w.heap.size, 4, none⟩ = false := free_at R2.out 4
  have HR : Hid ((((((w2.setCell ⟨w.heap.size, 0, none⟩ (.int .i64 0)).setCell ⟨w.heap.size, 1, none⟩ (.slice none 0 0)).setCell ⟨w.heap.size, 2, none⟩ (.slice (some ⟨o, 0, none⟩) n n)).setCell ⟨w.heap.size, 3, none⟩ (.int .i64 st)).setCell ⟨w.heap.size, 4, none⟩ (.int .i64 0)).heap[w.heap.size]? = some (.cells #[.int .i64 0, .slice none 0 0, .slice (some ⟨o, 0, none⟩) n n, .int .i64 st, .int .i64 0] 27 (0, 0))) := mach_stored R2.out
  have WW : Hid (Win w.heap.size (w.heap.size + 1) w2 (((((w2.setCell ⟨w.heap.size, 0, none⟩ (.int .i64 0)).setCell ⟨w.heap.size, 1, none⟩ (.slice none 0 0)).setCell ⟨w.heap.size, 2, none⟩ (.slice (some ⟨o, 0, none⟩) n n)).setCell ⟨w.heap.size, 3, none⟩ (.int .i64 st)).setCell ⟨w.heap.size, 4, none⟩ (.int .i64 0))) := ((((win_setCell _ _ _ _).trans (win_setCell _ _ _ _)).trans (win_setCell _ _ _ _)).trans (win_setCell _ _ _ _)).trans (win_setCell _ _ _ _)
  go_wp2
  refine bodyPost_ret (results_mach Try.results7 _ _ w.heap.size _ _ _ _ _ rfl HR.out) rfl ?_
  have BB := B2.out.trans (WW.out.below (Nat.le_refl _) B2.out.size)
  exact ⟨o, rfl, by have := O2.out.2; omega, by simp only [size_setCell]; exact O2.out.1.win WW.out (.inl O2.out.2), BB⟩
set_option maxRecDepth 20000 in
set_option maxHeartbeats 4000000 in
/-- MachineNew (spec). -/
theorem machNew_spec {w : World} {v : Value} {n : Nat} {B : Nat → Bool} {S D : Nat → List Int} (st : Int) (h : VarsI w v n B S D) (hl : ∀ i, (S i).length ≤ 1048576 ∧ (D i).length ≤ 1048576) (hn : n ≤ 1048576) :
    Calls Try.prog 5 #[v, .int .i64 st] w fun e w' => ∃ u, e = .returned (machV u st) ∧ (∃ a c, u = .slice a n c) ∧ VarsW w.heap.size w'.heap.size w' u n B S D ∧ Below w.heap.size w w' := by
  have CV : Hid (∀ W, Below w.heap.size w W → Calls Try.prog 14 #[v] W fun e w' => ∃ u, e = .returned u ∧ VarsW W.heap.size w'.heap.size w' u n B S D ∧ Below W.heap.size W w') := fun W hb => copyVars_spec (h.keep hb) hl hn
  obtain ⟨a, c, rfl, _⟩ := h
  clear hl
  go_enter Try.func5, Try.ntmps5
  go_wp2_with fail
  refine (CV.out _ (bAlloc (Below.refl _ _) _)).mono ?_
  rintro r w2 ⟨u2, rfl, hV, hb⟩
  have R2 : Hid (w2.heap[w.heap.size]? = some (.cells #[.int .i64 0, .slice none 0 0, .slice none 0 0, .int .i64 0, .int .i64 0] 27 (0, 0))) := by show _ = _; rw [hb.block _ (by simp)]; exact heap_alloc_new w _
  have B2 : Hid (Below w.heap.size w w2) := bTrans (bAlloc (Below.refl _ _) _) hb
  have LT : Hid (w.heap.size < w2.heap.size) := lt_of_heapA R2.out
  have hV' := hV
  obtain ⟨a2, c2, rfl, _⟩ := hV'
  have V2 : Hid (VarsW (w.heap.size + 1) w2.heap.size w2 (.slice a2 n c2) n B S D) := hV.mono (by simp)
  clear CV hb hV
  have r0 : w2.cell? ⟨w.heap.size, 0, none⟩ = some (.int .i64 0) := cell_at R2.out rfl
  have f0 : w2.frozen? ⟨w.heap.size, 0, none⟩ = false := free_at R2.out 0
  have r1 : w2.cell? ⟨w.heap.size, 1, none⟩ = some (.slice none 0 0) := cell_at R2.out rfl
  have f1 : w2.frozen? ⟨w.heap.size, 1, none⟩ = false := free_at R2.out 1
  have r2 : w2.cell? ⟨w.heap.size, 2, none⟩ = some (.slice none 0 0) := cell_at R2.out rfl
  have f2 : w2.frozen? ⟨w.heap.size, 2, none⟩ = false := free_at R2.out 2
  have r3 : w2.cell? ⟨w.heap.size, 3, none⟩ = some (.int .i64 0) := cell_at R2.out rfl
  have f3 : w2.frozen? ⟨w.heap.size, 3, none⟩ = false := free_at R2.out 3
  have r4 : w2.cell? ⟨w.heap.size, 4, none⟩ = some (.int .i64 0) := cell_at R2.out rfl
  have f4 : w2.frozen? ⟨w.heap.size, 4, none⟩ = false := free_at R2.out 4
  have HR : Hid ((((((w2.setCell ⟨w.heap.size, 0, none⟩ (.int .i64 0)).setCell ⟨w.heap.size, 1, none⟩ (.slice none 0 0)).setCell ⟨w.heap.size, 2, none⟩ (.slice a2 n c2)).setCell ⟨w.heap.size, 3, none⟩ (.int .i64 st)).setCell ⟨w.heap.size, 4, none⟩ (.int .i64 0)).heap[w.heap.size]? = some (.cells #[.int .i64 0, .slice none 0 0, .slice a2 n c2, .int .i64 st, .int .i64 0] 27 (0, 0))) := mach_stored R2.out
  have WW : Hid (Win w.heap.size (w.heap.size + 1) w2 (((((w2.setCell ⟨w.heap.size, 0, none⟩ (.int .i64 0)).setCell ⟨w.heap.size, 1, none⟩ (.slice none 0 0)).setCell ⟨w.heap.size, 2, none⟩ (.slice a2 n c2)).setCell ⟨w.heap.size, 3, none⟩ (.int .i64 st)).setCell ⟨w.heap.size, 4, none⟩ (.int .i64 0))) := ((((win_setCell _ _ _ _).trans (win_setCell _ _ _ _)).trans (win_setCell _ _ _ _)).trans (win_setCell _ _ _ _)).trans (win_setCell _ _ _ _)
  go_wp2
  refine bodyPost_ret (results_mach Try.results5 _ _ w.heap.size _ _ _ _ _ rfl HR.out) rfl ?_
  have BB := B2.out.trans (WW.out.below (Nat.le_refl _) B2.out.size)
  exact ⟨_, rfl, ⟨a2, c2, rfl⟩, by simp only [size_setCell]; exact (V2.out.win WW.out (.inr (Nat.le_refl _))).mono (by omega), BB⟩
set_option maxRecDepth 20000 in
set_option maxHeartbeats 4000000 in
/-- Two of them. -/
theorem eqMach_same {w : World} {v u : Value} {n : Nat} {B : Nat → Bool} {S D : Nat → List Int} (st : Int) (h : VarsI w v n B S D) (k : VarsI w u n B S D) (hl : ∀ i, (S i).length ≤ 1048576 ∧ (D i).length ≤ 1048576) (hn : n ≤ 1048576) :
    Calls Try.prog 8 #[machV v st, machV u st] w fun e w' => e = .returned (.bool true) ∧ Below w.heap.size w w' := by
  have CV : Hid (∀ W, Below w.heap.size w W → Calls Try.prog 9 #[v, u] W fun e w' => e = .returned (.bool true) ∧ Below W.heap.size W w') := fun W hb => eqVarS_same (h.keep hb) (k.keep hb) hl hn
  have CA : Hid (∀ W : World, Calls Try.prog 17 #[.slice none 0 0, .slice none 0 0] W fun e w' => e = .returned (.bool true) ∧ Below W.heap.size W w') := fun W => (eq_arrsI (F := []) ⟨none, 0, 0, rfl, rfl, .inl rfl⟩ ⟨none, 0, 0, rfl, rfl, .inl rfl⟩ (by simp) (by simp))
  have q := fun W0 : World => two_blocksM W0 (.cells #[.int .i64 0, .slice none 0 0, v, .int .i64 st, .int .i64 0] 27) (.cells #[.int .i64 0, .slice none 0 0, u, .int .i64 st, .int .i64 0] 27)
  have QQ : Hid (∀ W, Below (w.heap.size + 1 + 1) ((w.alloc (.cells #[.int .i64 0, .slice none 0 0, v, .int .i64 st, .int .i64 0] 27)).alloc (.cells #[.int .i64 0, .slice none 0 0, u, .int .i64 st, .int .i64 0] 27)) W → BoxM W w.heap.size v st ∧ BoxM W (w.heap.size + 1) u st) := fun W hb => ⟨by unfold BoxM; rw [hb.block _ (by omega)]; exact (q w).1, by unfold BoxM; rw [hb.block _ (by omega)]; exact (q w).2⟩
  have bs : (st != st) = false := by simp
  obtain ⟨a, c, rfl, _⟩ := h
  obtain ⟨a', c', rfl, _⟩ := k
  clear hl q
  unfold machV
  go_enter Try.func8, Try.ntmps8
  go_wp2_with fail
  refine (CA.out _).mono ?_
  rintro r w2 ⟨rfl, hb⟩
  have B2 : Hid (Below w.heap.size w w2) := bTrans (bAlloc (bAlloc (Below.refl _ _) _) _) hb
  obtain ⟨b1, b2⟩ := QQ.out w2 (by simpa using hb)
  have Z2 : Hid (BoxM w2 w.heap.size (.slice a n c) st ∧ BoxM w2 (w.heap.size + 1) (.slice a' n c') st) := ⟨b1, b2⟩
  obtain ⟨_, _, e2, e3, e4⟩ := b1.cells
  obtain ⟨_, _, g2, g3, g4⟩ := b2.cells
  clear hb CA QQ b1 b2
  go_wp2_with fail
  refine (CV.out _ B2.out).mono ?_
  rintro r w3 ⟨rfl, hb⟩
  have B3 : Hid (Below w.heap.size w w3) := bTrans B2.out hb
  obtain ⟨_, _, _, h3, h4⟩ := (Z2.out.1.keep hb).cells
  obtain ⟨_, _, _, k3, k4⟩ := (Z2.out.2.keep hb).cells
  clear hb CV e2 e3 e4 g2 g3 g4
  go_wp2
  go_ret
  exact ⟨rfl, B3.out⟩
set_option maxRecDepth 20000 in
set_option maxHeartbeats 4000000 in
/-- markMachine. -/
theorem markMach_at {o hi n : Nat} {w : World} {B : Nat → Bool} {S D : Nat → List Int} (st k0 : Int) (h : OwnVars o hi n n w B S D) (hl : ∀ i, (S i).length ≤ 1048576 ∧ (D i).length ≤ 1048576) (hn : n ≤ 1048576) (hT : totV S D n ≤ 1073741824) (p1 : 0 ≤ k0) (p2 : k0 ≤ 1073741824) :
    Calls Try.prog 11 #[machV (.slice (some ⟨o, 0, none⟩) n n) st, .int .i64 k0] w fun e w' => e = .returned (.int .i64 (k0 + (totV S D n : Int))) ∧ (∃ B' S' D', OwnVars o hi n n w' B' S' D' ∧ MkdV k0 S D n B' S' D') ∧ Win o hi w w' := by
  have CV : Hid (∀ W, Below w.heap.size w W → Calls Try.prog 10 #[.slice (some ⟨o, 0, none⟩) n n, .int .i64 k0] W fun e w' => e = .returned (.int .i64 (k0 + (totV S D n : Int))) ∧ (∃ B' S' D', OwnVars o hi n n w' B' S' D' ∧ MkdV k0 S D n B' S' D') ∧ Win o hi W w') := fun W hb => markVarS_at (h.keep hb) hl hn k0 p1 (by omega)
  have CA : Hid (∀ W : World, Calls Try.prog 20 #[.slice none 0 0, .int .i64 k0] W fun e w' => e = .returned (.int .i64 k0) ∧ Below W.heap.size W w') := fun W => markArrs_nil k0 W
  have PT : 0 ≤ k0 + (totV S D n : Int) := by omega
  have pk : ¬ k0 < 0 := by omega
  have pt : ¬ k0 + (totV S D n : Int) < 0 := by omega
  have QB : Hid (∀ W, Below (w.heap.size + 1) (w.alloc (.cells #[.int .i64 0, .slice none 0 0, .slice (some ⟨o, 0, none⟩) n n, .int .i64 st, .int .i64 0] 27)) W → BoxM W w.heap.size (.slice (some ⟨o, 0, none⟩) n n) st) := fun W hb => by unfold BoxM; rw [hb.block _ (by omega)]; exact heap_alloc_new w _
  clear h hl hT
  unfold machV
  go_enter Try.func11, Try.ntmps11
  go_wp2_with fail
  refine (CA.out _).mono ?_
  rintro r w2 ⟨rfl, hb⟩
  have BB2 : Hid (Below w.heap.size w w2) := bTrans (bAlloc (Below.refl _ _) _) hb
  obtain ⟨_, _, c2, _, _⟩ := (QB.out w2 (by simpa using hb)).cells
  clear hb QB CA
  go_wp2_with fail
  refine (CV.out _ BB2.out).mono ?_
  rintro r w3 ⟨rfl, hp⟩
  clear CV
  go_wp2
  go_ret
  exact ⟨rfl, hp.1, (Below.win BB2.out).trans hp.2⟩
set_option maxRecDepth 20000 in
set_option maxHeartbeats 4000000 in
/-- heldMachine. -/
theorem heldMach_at {o hi n : Nat} {w : World} {B : Nat → Bool} {S D S0 D0 : Nat → List Int} (st k0 : Int) (h : OwnVars o hi n n w B S D) (hm : MkdV k0 S0 D0 n B S D) (hl : ∀ i, (S0 i).length ≤ 1048576 ∧ (D0 i).length ≤ 1048576) (hn : n ≤ 1048576) (hT : totV S0 D0 n ≤ 1073741824) (p1 : 0 ≤ k0) (p2 : k0 ≤ 1073741824) :
    Calls Try.prog 12 #[machV (.slice (some ⟨o, 0, none⟩) n n) st, .int .i64 k0] w fun e w' => e = .returned (.int .i64 (k0 + (totV S0 D0 n : Int))) ∧ Below w.heap.size w w' := by
  have CV : Hid (∀ W, Below w.heap.size w W → Calls Try.prog 22 #[.slice (some ⟨o, 0, none⟩) n n, .int .i64 k0] W fun e w' => e = .returned (.int .i64 (k0 + (totV S0 D0 n : Int))) ∧ Below W.heap.size W w') := fun W hb => (heldVarS_at k0 (h.keep hb) hm hl hn hT p1 (by omega)).mono fun e w' h => ⟨h.1, by rw [h.2]; exact Below.refl _ _⟩
  have CA : Hid (∀ W : World, Calls Try.prog 21 #[.slice none 0 0, .int .i64 k0] W fun e w' => e = .returned (.int .i64 k0) ∧ Below W.heap.size W w') := fun W => heldArrs_nil k0 W
  have PT : 0 ≤ k0 + (totV S0 D0 n : Int) := by omega
  have pk : ¬ k0 < 0 := by omega
  have pt : ¬ k0 + (totV S0 D0 n : Int) < 0 := by omega
  have QB : Hid (∀ W, Below (w.heap.size + 1) (w.alloc (.cells #[.int .i64 0, .slice none 0 0, .slice (some ⟨o, 0, none⟩) n n, .int .i64 st, .int .i64 0] 27)) W → BoxM W w.heap.size (.slice (some ⟨o, 0, none⟩) n n) st) := fun W hb => by unfold BoxM; rw [hb.block _ (by omega)]; exact heap_alloc_new w _
  clear h hl hT hm
  unfold machV
  go_enter Try.func12, Try.ntmps12
  go_wp2_with fail
  refine (CA.out _).mono ?_
  rintro r w2 ⟨rfl, hb⟩
  have BB2 : Hid (Below w.heap.size w w2) := bTrans (bAlloc (Below.refl _ _) _) hb
  obtain ⟨_, _, c2, _, _⟩ := (QB.out w2 (by simpa using hb)).cells
  clear hb QB CA
  go_wp2_with fail
  refine (CV.out _ BB2.out).mono ?_
  rintro r w3 ⟨rfl, hp⟩
  clear CV
  go_wp2
  go_ret
  exact ⟨rfl, bTrans BB2.out hp⟩
end Go.Proofs.Ytmknleholglhbaa
