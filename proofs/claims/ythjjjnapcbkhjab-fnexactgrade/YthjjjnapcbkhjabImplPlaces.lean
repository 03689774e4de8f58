/-
  Walks: the program's placesOf: the first place of each number, in a map.
-/
import Derived.Test.YthjjjnapcbkhjabInHeld
import Derived.Test.YthjjjnapcbkhjabImplLook1
namespace Go.Proofs.Ythjjjnapcbkhjab
open Go.RowKit Go.Shelf
set_option linter.unusedVariables false
set_option linter.unusedSimpArgs false
attribute [local go_sem] Oper.semAt_some
/-- The first place, among the last k numbers of a list. -/
def firstM (d : List Int) : Nat → Int → Option Int
  | 0, _ => none
  | k + 1, y => if y = d.getD (d.length - 1 - k) 0 then some ((d.length - 1 - k : Nat) : Int) else firstM d k y
/-- The same, by the list of those that were told. -/
def firstL (d : List Int) (pre : List (Fin d.length)) : Int → Option Int := pre.foldl (fun M x y => if y = d.getD (d.length - 1 - x.1) 0 then some ((d.length - 1 - x.1 : Nat) : Int) else M y) (fun _ => none)
theorem firstL_snoc (d : List Int) (pre : List (Fin d.length)) (x : Fin d.length) : firstL d (pre ++ [x]) = fun y => if y = d.getD (d.length - 1 - x.1) 0 then some ((d.length - 1 - x.1 : Nat) : Int) else firstL d pre y := by
  unfold firstL
  rw [List.foldl_append]
  rfl
theorem firstL_upto (d : List Int) : ∀ k, k ≤ d.length → firstL d (upto d.length k) = firstM d k := by
  intro k
  induction k with
  | zero => intro _; funext y; simp [upto, firstL, firstM]
  | succ k ih =>
    intro h
    rw [upto_succ (by omega), firstL_snoc, ih (by omega)]
    rfl
/-- What the loop keeps: three boxes, the map, the list that is filled, the box of the list that is told. -/
structure PlI (w : World) (d : List Int) (v : Value) (N k : Nat) (M : Int → Option Int) (W : World) : Prop where
  b0 : W.heap[N]? = some (.cells #[v] 22 (0, 0))
  b1 : W.heap[N + 1]? = some (.cells #[.map (some (N + 3))] 37 (0, 0))
  b2 : W.heap[N + 2]? = some (.cells #[.slice (some ⟨N + 4, 0, none⟩) d.length d.length] 22 (0, 0))
  map : MapAt W (N + 3) k M
  own : ∃ A : List Int, A.length = d.length ∧ OwnInts W (N + 4) A
  b5 : W.heap[N + 5]? = some (.cells #[v] 22 (0, 0))
  bel : Below N w W
  size : N + 6 ≤ W.heap.size
theorem PlI.kept {w : World} {d : List Int} {v : Value} {N k : Nat} {M : Int → Option Int} {X Y : World} {row : Option Nat} (h : PlI w d v N k M X) (hg : X.grownBy Y row) (hr : ∀ r, row = some r → N + 6 ≤ r) : PlI w d v N k M Y := by
  have hs := h.size
  have hz := hg.size
  have hb : ∀ j, j < N + 6 → Y.heap[j]? = X.heap[j]? := fun j hj => hg.block j (by omega) (fun e => by have := hr j e.symm; omega)
  obtain ⟨A, hA, hO⟩ := h.own
  refine ⟨by rw [hb _ (by omega)]; exact h.b0, by rw [hb _ (by omega)]; exact h.b1, by rw [hb _ (by omega)]; exact h.b2, h.map.kept hg (fun e => by have := hr _ e.symm; omega), ⟨A, hA, by show Y.heap[_]? = _; rw [hb _ (by omega)]; exact hO⟩, by rw [hb _ (by omega)]; exact h.b5, ?_, by omega⟩
  exact ⟨hg.os.trans h.bel.os, hg.tape.trans h.bel.tape, hg.output.trans h.bel.output, Nat.le_trans h.bel.size hz, fun j hj => (hb j (by omega)).trans (h.bel.block j hj)⟩
/-- Behind a round. -/
theorem PlI.next {w : World} {d : List Int} {v : Value} {N k i : Nat} {M : Int → Option Int} {X : World} {y q : Int} (h : PlI w d v N k M X) (hk : k ≤ 1000) (hi : i < d.length) (hc : d.length ≤ 300) (hwf : (Lit.int .i64 y).wf = true) :
    ∃ W', (Instr.mapUpdate 37 (.map (some (N + 3))) (.int .i64 y) (.int .i64 (i : Int))).run Try.prog (X.drew.setCell ⟨N + 4, i, none⟩ (.int .i64 q)) = .ok () W' ∧ PlI w d v N (k + 1) (fun z => if z = y then some (i : Int) else M z) W' ∧ KeepsFrom (N + 6) X W' ∧ ∀ j, j < N + 3 ∨ j = N + 5 → W'.heap[j]? = X.heap[j]? := by
  obtain ⟨A, hA, hO⟩ := h.own
  have hs := h.size
  have M1 : MapAt (X.drew.setCell ⟨N + 4, i, none⟩ (.int .i64 q)) (N + 3) k M := (h.map.keep ((Below.refl _ _).drew)).setCell (by show N + 3 ≠ N + 4; omega) _
  obtain ⟨W', hr, hm, hg⟩ := M1.store hk hwf (p := (i : Int)) (wf_i64 (by omega) (by omega))
  have hsz : (X.drew.setCell ⟨N + 4, i, none⟩ (.int .i64 q)).heap.size = X.heap.size := by simp only [size_setCell]; rfl
  have hz := hg.size
  have hb : ∀ j, j < X.heap.size → j ≠ N + 3 → j ≠ N + 4 → W'.heap[j]? = X.heap[j]? := fun j h1 h2 h3 => by
    rw [hg.block j (by rw [hsz]; exact h1) (fun e => h2 (by injection e)), heap_setCell_other _ _ _ _ (by show j ≠ N + 4; exact h3)]
    rfl
  have hO' : OwnInts (X.drew.setCell ⟨N + 4, i, none⟩ (.int .i64 q)) (N + 4) (A.set i q) := by
    have e := heap_setCell_same X.drew (N + 4) i _ _ (.int .i64 q) (show X.drew.heap[N + 4]? = some (.cells (vals A) 3 (0, 0)) from hO)
    unfold OwnInts
    rw [e]
    simp [vals, List.map_set]
  refine ⟨W', hr, ?_, ?_, ?_⟩
  · refine ⟨by rw [hb _ (by omega) (by omega) (by omega)]; exact h.b0, by rw [hb _ (by omega) (by omega) (by omega)]; exact h.b1, by rw [hb _ (by omega) (by omega) (by omega)]; exact h.b2, hm, ⟨A.set i q, by simpa using hA, ?_⟩, by rw [hb _ (by omega) (by omega) (by omega)]; exact h.b5, ?_, by omega⟩
    · show W'.heap[N + 4]? = _
      rw [hg.block (N + 4) (by rw [hsz]; omega) (fun e => by injection e; omega)]
      exact hO'
    · exact ⟨hg.os.trans h.bel.os, hg.tape.trans h.bel.tape, hg.output.trans h.bel.output, by have := h.bel.size; omega, fun j hj => (hb j (by omega) (by omega) (by omega)).trans (h.bel.block j hj)⟩
  · exact ⟨by omega, fun j o h1 h2 _ => by rw [hb j (Array.getElem?_eq_some_iff.1 h2).1 (by omega) (by omega)]; exact h2⟩
  · intro j hj
    exact hb j (by omega) (by omega) (by omega)
theorem results_map_ints {fn : Func} {p q : Tmp} (h : fn.results = #[.cell p 37, .cell q 22]) (tmps : Array Value) (w : World) (g k : Nat) (x y : Value) (hp : tmps.getD p undef = .pointer (some ⟨g, 0, none⟩)) (hq : tmps.getD q undef = .pointer (some ⟨k, 0, none⟩))
    (hg : w.cell? ⟨g, 0, none⟩ = some x) (hk : w.cell? ⟨k, 0, none⟩ = some y) : (results fn tmps).run Try.prog w = .ok (.tuple #[x, y]) w := by
  have e : (asAddr (.pointer (some ⟨g, 0, none⟩))).run Try.prog w = .ok ⟨g, 0, none⟩ w := by simp [asAddr]
  have e' : (asAddr (.pointer (some ⟨k, 0, none⟩))).run Try.prog w = .ok ⟨k, 0, none⟩ w := by simp [asAddr]
  have l : (loadVar 37 ⟨g, 0, none⟩).run Try.prog w = .ok x w := by simp [loadVar, go_sem, hg]
  have l' : (loadVar 22 ⟨k, 0, none⟩).run Try.prog w = .ok y w := by simp [loadVar, go_sem, hk]
  have hp' : tmps[p]?.getD undef = .pointer (some ⟨g, 0, none⟩) := by simpa using hp
  have hq' : tmps[q]?.getD undef = .pointer (some ⟨k, 0, none⟩) := by simpa using hq
  simp [results, h, hp', hq', e, e', l, l', Sem.run_bind, Result.andThen]
/-- Behind the loop: what the two stores of the answer leave. -/
theorem PlI.last {w : World} {d : List Int} {v : Value} {N k D' : Nat} {M : Int → Option Int} {W : World} (h : PlI w d v N k M W) (hD : N + 6 ≤ D') (hK : W.heap[D']? = some (.deferred (some []))) :
    ∃ V, V = ((W.setCell ⟨N + 1, 0, none⟩ (.map (some (N + 3)))).setCell ⟨N + 1 + 1, 0, none⟩ (.slice (some ⟨N + 4, 0, none⟩) d.length d.length)).drew ∧ V.heap[D']? = some (.deferred (some [])) ∧
      (V.putObj D' (.deferred none)).cell? ⟨N + 1, 0, none⟩ = some (.map (some (N + 3))) ∧ (V.putObj D' (.deferred none)).cell? ⟨N + 1 + 1, 0, none⟩ = some (.slice (some ⟨N + 4, 0, none⟩) d.length d.length) ∧ MapAt (V.putObj D' (.deferred none)) (N + 3) k M ∧ Below N w (V.putObj D' (.deferred none)) := by
  have hs := h.size
  obtain ⟨x, hx⟩ : ∃ x, x = Value.map (some (N + 3)) := ⟨_, rfl⟩
  obtain ⟨y, hy⟩ : ∃ y, y = Value.slice (some ⟨N + 4, 0, none⟩) d.length d.length := ⟨_, rfl⟩
  have hb1 := h.b1
  have hb2 := h.b2
  rw [← hx] at hb1
  rw [← hy] at hb2
  rw [← hx, ← hy]
  obtain ⟨V, hV⟩ : ∃ V, V = ((W.setCell ⟨N + 1, 0, none⟩ x).setCell ⟨N + 1 + 1, 0, none⟩ y).drew := ⟨_, rfl⟩
  have e1 : V.heap[N + 1]? = some (.cells #[x] 37 (0, 0)) := by
    have q := heap_setCell_same W (N + 1) 0 _ _ x hb1
    rw [hV]
    show ((W.setCell ⟨N + 1, 0, none⟩ x).setCell ⟨N + 1 + 1, 0, none⟩ y).heap[N + 1]? = _
    rw [heap_setCell_other _ _ _ _ (by show N + 1 ≠ N + 1 + 1; omega), q]
    simp
  have e2 : V.heap[N + 1 + 1]? = some (.cells #[y] 22 (0, 0)) := by
    have q0 : (W.setCell ⟨N + 1, 0, none⟩ x).heap[N + 1 + 1]? = some (.cells #[y] 22 (0, 0)) := by rw [heap_setCell_other _ _ _ _ (by show N + 1 + 1 ≠ N + 1; omega)]; exact hb2
    have q := heap_setCell_same _ (N + 1 + 1) 0 _ _ y q0
    rw [hV]
    show ((W.setCell ⟨N + 1, 0, none⟩ x).setCell ⟨N + 1 + 1, 0, none⟩ y).heap[N + 1 + 1]? = _
    rw [q]
    simp
  have e3 : V.heap[D']? = some (.deferred (some [])) := by
    rw [hV]
    show ((W.setCell ⟨N + 1, 0, none⟩ x).setCell ⟨N + 1 + 1, 0, none⟩ y).heap[D']? = _
    rw [heap_setCell_other _ _ _ _ (by show D' ≠ N + 1 + 1; omega), heap_setCell_other _ _ _ _ (by show D' ≠ N + 1; omega)]
    exact hK
  have m1 : MapAt V (N + 3) k M := by
    rw [hV]
    exact ((h.map.setCell (a := ⟨N + 1, 0, none⟩) (by show N + 3 ≠ N + 1; omega) x).setCell (a := ⟨N + 1 + 1, 0, none⟩) (by show N + 3 ≠ N + 1 + 1; omega) y).keep ((Below.refl _ _).drew)
  have bl : Below N w V := by
    rw [hV]
    exact (below_setCell (below_setCell h.bel (by omega) _ _) (by omega) _ _).drew
  have hg := grownBy_putObj' V D' (.deferred none)
  refine ⟨V, hV, e3, ?_, ?_, m1.kept hg (fun e => by injection e; omega), ?_⟩
  · exact cell_at (by rw [World.putObj_heap_other (by omega)]; exact e1) rfl
  · exact cell_at (by rw [World.putObj_heap_other (by omega)]; exact e2) rfl
  · exact ⟨hg.os.trans bl.os, hg.tape.trans bl.tape, hg.output.trans bl.output, Nat.le_trans bl.size hg.size, fun j hj => (World.putObj_heap_other (by omega)).trans (bl.block j hj)⟩
theorem blocks6 (w : World) (A B C D E F : Obj) :
    ((((((w.alloc A).alloc B).alloc C).alloc D).alloc E).alloc F).heap[w.heap.size]? = some A ∧ ((((((w.alloc A).alloc B).alloc C).alloc D).alloc E).alloc F).heap[w.heap.size + 1]? = some B ∧
    ((((((w.alloc A).alloc B).alloc C).alloc D).alloc E).alloc F).heap[w.heap.size + 2]? = some C ∧ ((((((w.alloc A).alloc B).alloc C).alloc D).alloc E).alloc F).heap[w.heap.size + 4]? = some E ∧
    ((((((w.alloc A).alloc B).alloc C).alloc D).alloc E).alloc F).heap[w.heap.size + 5]? = some F := by
  have s1 : (w.alloc A).heap.size = w.heap.size + 1 := by simp
  have s2 : ((w.alloc A).alloc B).heap.size = w.heap.size + 2 := by simp
  have s4 : ((((w.alloc A).alloc B).alloc C).alloc D).heap.size = w.heap.size + 4 := by simp
  have s5 : (((((w.alloc A).alloc B).alloc C).alloc D).alloc E).heap.size = w.heap.size + 5 := by simp
  refine ⟨?_, ?_, ?_, ?_, ?_⟩
  · exact ((bAlloc (bAlloc (bAlloc (bAlloc (bAlloc (Below.refl _ (w.alloc A)) _) _) _) _) _).block w.heap.size (by omega)).trans (heap_alloc_new w A)
  · have := ((bAlloc (bAlloc (bAlloc (bAlloc (Below.refl _ ((w.alloc A).alloc B)) C) D) E) F).block (w.alloc A).heap.size (by omega)).trans (heap_alloc_new (w.alloc A) B)
    rw [s1] at this; exact this
  · have := ((bAlloc (bAlloc (bAlloc (Below.refl _ (((w.alloc A).alloc B).alloc C)) D) E) F).block ((w.alloc A).alloc B).heap.size (by simp)).trans (heap_alloc_new ((w.alloc A).alloc B) C)
    rw [s2] at this; exact this
  · have := ((bAlloc (Below.refl _ (((((w.alloc A).alloc B).alloc C).alloc D).alloc E)) F).block ((((w.alloc A).alloc B).alloc C).alloc D).heap.size (by simp)).trans (heap_alloc_new ((((w.alloc A).alloc B).alloc C).alloc D) E)
    rw [s4] at this; exact this
  · have := heap_alloc_new (((((w.alloc A).alloc B).alloc C).alloc D).alloc E) F
    rw [s5] at this; exact this
set_option maxRecDepth 100000 in
set_option maxHeartbeats 4000000 in
theorem places_walk {d : List Int} {a : Option Addr} {c b1 o1 : Nat} {w : World} (hi : ∀ j, j < d.length → w.cell? ⟨b1, o1 + j, none⟩ = some (.int .i64 (d.getD j 0))) (ha : 0 < d.length → a = some ⟨b1, o1, none⟩) (hb1 : b1 < w.heap.size) (hc : d.length ≤ 300) (hok : ∀ j, j < d.length → (Lit.int .i64 (d.getD j 0)).wf = true) :
    Calls Try.prog 16 #[.slice a d.length c] w fun r w' => ∃ b g, r = .returned (.tuple #[.map (some b), .slice (some ⟨g, 0, none⟩) d.length d.length]) ∧ MapAt w' b d.length (firstM d d.length) ∧ w.heap.size ≤ b ∧ Below w.heap.size w w' := by
  have hmk : ∀ w, (Instr.makeSlice 22 (.int .i64 (d.length : Int)) (.int .i64 (d.length : Int))).run Try.prog w = .ok (.slice (some ⟨w.heap.size, 0, none⟩) d.length d.length) (w.alloc (.cells (vals (List.replicate d.length 0)) 3)) := fun w => make_ints d.length (by omega) w
  have hmm : ∀ w, (Instr.makeMap 37 (some (.int .i64 (d.length : Int)))).run Try.prog w = .ok (.map (some w.heap.size)) (w.alloc (.map #[] 0)) := fun w => by
    simp [Instr.makeMap, asInt, asIntOf]
  obtain ⟨v, hv⟩ : ∃ v, v = Value.slice a d.length c := ⟨_, rfl⟩
  refine (callsIn_wide (n := 6)).1 ?_
  refine callsIn_of_wp_marks Try.func16 rfl trivial ?_ rfl
  simp only [Try.ntmps16, List.size_toArray, List.length_cons, List.length_nil, Nat.reduceAdd, Nat.reduceSub, Array.replicate_succ, Array.replicate_zero, List.push_toArray, List.append_toArray, List.nil_append, List.cons_append]
  gi_wp2_with fail
  refine ⟨trivial, (backward_in _ _ _ rfl).mono ?_⟩
  rintro rr w2 ⟨rfl, hw⟩
  have hsz : w2.heap.size = w.heap.size + 6 := by rw [hw]; simp
  have P0 : Hid (PlI w d v w.heap.size 0 (firstL d []) w2) := by
    have q := blocks6 w (.cells #[Value.slice a d.length c] 22) (.cells #[Value.map (some (w.heap.size + 1 + 1 + 1))] 37) (.cells #[Value.slice (some ⟨w.heap.size + 1 + 1 + 1 + 1, 0, none⟩) d.length d.length] 22) (.map #[] 0) (.cells (vals (List.replicate d.length 0)) 3) (.cells #[Value.slice a d.length c] 22)
    have m := (mapAt_new (((w.alloc (.cells #[Value.slice a d.length c] 22)).alloc (.cells #[Value.map (some (w.heap.size + 1 + 1 + 1))] 37)).alloc (.cells #[Value.slice (some ⟨w.heap.size + 1 + 1 + 1 + 1, 0, none⟩) d.length d.length] 22))).keep (bAlloc (bAlloc (Below.refl _ _) (.cells (vals (List.replicate d.length 0)) 3)) (.cells #[Value.slice a d.length c] 22))
    rw [show (((w.alloc (.cells #[Value.slice a d.length c] 22)).alloc (.cells #[Value.map (some (w.heap.size + 1 + 1 + 1))] 37)).alloc (.cells #[Value.slice (some ⟨w.heap.size + 1 + 1 + 1 + 1, 0, none⟩) d.length d.length] 22)).heap.size = w.heap.size + 3 by simp] at m
    rw [← hw] at q m
    obtain ⟨q0, q1, q2, q4, q5⟩ := q
    exact ⟨by rw [hv]; exact q0, q1, q2, m, ⟨List.replicate d.length 0, by simp, q4⟩, by rw [hv]; exact q5, by rw [hw]; exact bAlloc (bAlloc (bAlloc (bAlloc (bAlloc (bAlloc (Below.refl _ _) _) _) _) _) _) _, by omega⟩
  have B2 : Hid (Below w.heap.size w w2) := P0.out.bel
  have hqc : w2.cell? ⟨w.heap.size + 5, 0, none⟩ = some (.slice a d.length c) := by rw [← hv]; exact cell_at P0.out.b5 rfl
  have hi2 : ∀ j, j < d.length → w2.cell? ⟨b1, o1 + j, none⟩ = some (.int .i64 (d.getD j 0)) := fun j hj => (B2.out.cell (p := ⟨b1, o1 + j, none⟩) hb1).trans (hi j hj)
  clear hw hmk hmm
  gi_wp2_with fail
  refine wpIn_rangeFunc_ownH rfl (by decide) (gf := 32) (lb := #[.pointer (some ⟨w.heap.size + 1 + 1 + 1 + 1 + 1, 0, none⟩)]) rfl trivial (enters_of Try.func32 (by kernel_rfl) rfl)
    (back_stops 5 (w.heap.size + 5) b1 o1 c a d (by decide) hc ha w2 (by omega) (by omega) hqc hi2) keepsTwo_t (keepsTwo_b (by omega) (by omega)) (Below.refl _ _) (fun _ => rfl)
    (fun pre W => PlI w d v w.heap.size pre.length (firstL d pre) W)
    (fun _ _ _ => False)
    ?hI (fun _ _ _ _ _ hs _ _ => hs)
    P0.out
    (fun x a' W => a' = { tmps := #[.slice a d.length c, .pointer (some ⟨w.heap.size, 0, none⟩), .pointer (some ⟨w.heap.size + 1, 0, none⟩), .pointer (some ⟨w.heap.size + 1 + 1, 0, none⟩), .int .i64 ((d.length - 1 - x.1 : Nat) : Int), .int .i64 (d.getD (d.length - 1 - x.1) 0), .slice a d.length c, .int .i64 (d.length : Int), .map (some (w.heap.size + 1 + 1 + 1)), .slice a d.length c, .int .i64 (d.length : Int), .slice (some ⟨w.heap.size + 1 + 1 + 1 + 1, 0, none⟩) d.length d.length, .slice a d.length c, .func (.func 32) #[] #[.pointer (some ⟨w.heap.size + 1 + 1 + 1 + 1 + 1, 0, none⟩)], .int .i64 ((d.length - 1 - x.1 : Nat) : Int), .int .i64 (d.getD (d.length - 1 - x.1) 0), undef, undef, undef, undef, undef, undef, undef, undef, undef, undef, undef, undef, undef], defers := [] })
    ?hAx ?assign ?body ?done ?stop
  case hI =>
    rintro pre X Y row h hg hrow
    exact h.kept hg (fun r e => by have := (hrow r e).1; omega)
  case hAx =>
    rintro x a' _ X Y row h hg hr'
    exact h
  case assign =>
    rintro l pre x W K h hK
    gi_wp2
    exact hK _ _ ((KeepsOthers.refl _).from _) ⟨rfl, rfl⟩ h rfl
  case body =>
    rintro l pre x a' W hl _ h rfl hlt
    have PI : Hid (PlI w d v w.heap.size pre.length (firstL d pre) W) := h
    obtain ⟨i, hi0⟩ : ∃ i, i = d.length - 1 - x.1 := ⟨_, rfl⟩
    have hil : i < d.length := by have := x.2; omega
    obtain ⟨y, hy⟩ : ∃ y, y = d.getD i 0 := ⟨_, rfl⟩
    have hwf : (Lit.int .i64 y).wf = true := by rw [hy]; exact hok i hil
    obtain ⟨q, hq⟩ : ∃ q, q = (firstL d pre y).getD (d.length : Int) := ⟨_, rfl⟩
    obtain ⟨W', hr, hP, hK, hS⟩ := h.next (y := y) (q := q) (by omega) hil hc hwf
    have ES : Hid (firstL d (pre ++ [x]) = fun z => if z = y then some (i : Int) else firstL d pre z) := by show _ = _; rw [firstL_snoc, ← hi0, ← hy]
    have c0 : W.cell? ⟨w.heap.size, 0, none⟩ = some (.slice a d.length c) := by rw [← hv]; exact cell_at h.b0 rfl
    have c1 : W.cell? ⟨w.heap.size + 1, 0, none⟩ = some (.map (some (w.heap.size + 3))) := cell_at h.b1 rfl
    have c2 : W.cell? ⟨w.heap.size + 1 + 1, 0, none⟩ = some (.slice (some ⟨w.heap.size + 4, 0, none⟩) d.length d.length) := cell_at h.b2 rfl
    have HPO : Hid (Calls Try.prog 26 #[.int .i64 (d.length : Int), .map (some (w.heap.size + 3)), .int .i64 y] W.drew fun r w' => r = .returned (.int .i64 q) ∧ w' = W.drew) := by rw [hq]; exact placeOr_impl (h.map.keep ((Below.refl _ _).drew)) hwf _
    obtain ⟨A, hA, hO⟩ := h.own
    have hcell : ∃ z, W.drew.cell? ⟨w.heap.size + 4, i, none⟩ = some z := by
      have L2 : i < (vals A).size := by simp [vals, hA]; omega
      exact ⟨(vals A)[i], by rw [show W.drew.cell? ⟨w.heap.size + 4, i, none⟩ = W.cell? ⟨w.heap.size + 4, i, none⟩ from rfl]; exact cell_at hO (by simp [L2])⟩
    obtain ⟨z, hz⟩ := hcell
    have hfz : W.drew.frozen? ⟨w.heap.size + 4, i, none⟩ = false := by
      rw [show W.drew.frozen? ⟨w.heap.size + 4, i, none⟩ = W.frozen? ⟨w.heap.size + 4, i, none⟩ from rfl]
      simp [World.frozen?, show W.heap[w.heap.size + 4]? = _ from hO]
    have hii : (i : Int) < (d.length : Int) := by omega
    have HR : Hid ((Instr.mapUpdate 37 (.map (some (w.heap.size + 3))) (.int .i64 y) (.int .i64 (i : Int))).run Try.prog (W.drew.setCell ⟨w.heap.size + 4, i, none⟩ (.int .i64 q)) = .ok () W') := hr
    have HE : Hid (KeepsFrom w2.heap.size W W' ∧ KeepsTwo (w.heap.size + 5) b1 W W' ∧ PlI w d v w.heap.size (pre ++ [x]).length (firstL d (pre ++ [x])) W') := ⟨by rw [hsz]; exact hK, ⟨hS _ (.inr rfl), hS _ (.inl (by omega))⟩, by rw [ES.out]; simpa using hP⟩
    rw [← hi0, ← hy]
    clear hi0 hy hq hP hK hS hr h hA hO ES
    have s0 : (W.drew.setCell ⟨w.heap.size + 4, i, none⟩ (.int .i64 q)).cell? ⟨w.heap.size, 0, none⟩ = some (.slice a d.length c) := by rw [World.cell?_setCell_far _ _ _ _ (by show w.heap.size + 4 ≠ w.heap.size; omega)]; exact c0
    have s1 : (W.drew.setCell ⟨w.heap.size + 4, i, none⟩ (.int .i64 q)).cell? ⟨w.heap.size + 1, 0, none⟩ = some (.map (some (w.heap.size + 3))) := by rw [World.cell?_setCell_far _ _ _ _ (by show w.heap.size + 4 ≠ w.heap.size + 1; omega)]; exact c1
    have s2 : (W.drew.setCell ⟨w.heap.size + 4, i, none⟩ (.int .i64 q)).cell? ⟨w.heap.size + 1 + 1, 0, none⟩ = some (.slice (some ⟨w.heap.size + 4, 0, none⟩) d.length d.length) := by rw [World.cell?_setCell_far _ _ _ _ (by show w.heap.size + 4 ≠ w.heap.size + 1 + 1; omega)]; exact c2
    have hr := HR.out
    have hr2 : (Instr.mapUpdate 37 (.map (some (w.heap.size + 3))) (.int .i64 y) (.int .i64 (i : Int))).run Try.prog (World.drew (W.setCell ⟨w.heap.size + 4, i, none⟩ (.int .i64 q))) = .ok () W' := HR.out
    gi_wp2_with fail
    refine region_in (S := (fun w' => w'.cell? ⟨w.heap.size, 0, none⟩ = some (.slice a d.length c) ∧ w'.cell? ⟨w.heap.size + 1, 0, none⟩ = some (.map (some (w.heap.size + 3))) ∧ w'.cell? ⟨w.heap.size + 1 + 1, 0, none⟩ = some (.slice (some ⟨w.heap.size + 4, 0, none⟩) d.length d.length))) (fun ⟨_, _, h⟩ => h) (noDefer_spec (by kernel_rfl)) (by kernel_rfl) ?_ (fun hHeld0 => ?_)
    · (try dsimp only); (first | exact ⟨s0, s1, s2⟩ | exact ⟨c0, c1, c2⟩)
    refine wpAnyH_take (i := 0) (oi := _) (v := ?_) rfl (by kernel_rfl) (by kernel_rfl) (by kernel_rfl) (fun _ _ _ h => h) (Or.inl ⟨by rfl, ?_⟩) (by assumption) ?_
    rotate_left
    · intro wS hSw; (try dsimp only at hSw); go_simp; (try with_reducible rfl)
    try simp only [Act.put, List.setIfInBounds_toArray, List.set_cons_zero, List.set_cons_succ]
    refine wpAnyH_take (i := 1) (oi := _) (v := ?_) rfl (by kernel_rfl) (by kernel_rfl) (by kernel_rfl) (fun _ _ _ h => h) (Or.inl ⟨by rfl, ?_⟩) (by assumption) ?_
    rotate_left
    · intro wS hSw; (try dsimp only at hSw); go_simp; (try with_reducible rfl)
    try simp only [Act.put, List.setIfInBounds_toArray, List.set_cons_zero, List.set_cons_succ]
    refine wpAnyH_take (i := 2) (oi := _) (v := ?_) rfl (by kernel_rfl) (by kernel_rfl) (by kernel_rfl) (fun _ _ _ h => h) (Or.inl ⟨by rfl, ?_⟩) (by assumption) ?_
    rotate_left
    · intro wS hSw; (try dsimp only at hSw); go_simp; (try with_reducible rfl)
    try simp only [Act.put, List.setIfInBounds_toArray, List.set_cons_zero, List.set_cons_succ]
    refine wpAnyH_take (i := 3) (oi := _) (v := ?_) rfl (by kernel_rfl) (by kernel_rfl) (by kernel_rfl) (fun _ _ _ h => h) (Or.inl ⟨by rfl, ?_⟩) (by assumption) ?_
    rotate_left
    · intro wS hSw; (try dsimp only at hSw); go_simp; (try with_reducible rfl)
    try simp only [Act.put, List.setIfInBounds_toArray, List.set_cons_zero, List.set_cons_succ]
    refine wpAnyH_take (i := 4) (oi := _) (v := ?_) rfl (by kernel_rfl) (by kernel_rfl) (by kernel_rfl) (fun _ _ _ h => h) (Or.inl ⟨by rfl, ?_⟩) (by assumption) ?_
    rotate_left
    · intro wS hSw; (try dsimp only at hSw); go_simp; (try with_reducible rfl)
    try simp only [Act.put, List.setIfInBounds_toArray, List.set_cons_zero, List.set_cons_succ]
    refine wpAnyH_take (i := 5) (oi := _) (v := ?_) rfl (by kernel_rfl) (by kernel_rfl) (by kernel_rfl) (fun _ _ _ h => h) (Or.inl ⟨by rfl, ?_⟩) (by assumption) ?_
    rotate_left
    · intro wS hSw; (try dsimp only at hSw); go_simp; (try with_reducible rfl)
    try simp only [Act.put, List.setIfInBounds_toArray, List.set_cons_zero, List.set_cons_succ]
    refine wpAnyH_ready (rs := [6]) (by kernel_rfl) (by simp) ?_
    refine AllReadyH.cons (o := _) rfl (fun K hK => ?_) AllReadyH.nil
    go_simp
    (go_at_call 26; refine (HPO.out).mono ?_; rintro r w3 ⟨rfl, hw3⟩; subst hw3)
    try go_wp2_with fail
    refine hK.out _ _ ?_ (fun hHeld1 => ?_)
    · (try dsimp only); (first | exact ⟨s0, s1, s2⟩ | exact ⟨c0, c1, c2⟩)
    clear hK K hHeld0
    try simp only [Act.put, List.setIfInBounds_toArray, List.set_cons_zero, List.set_cons_succ]
    refine wpAnyH_take (i := 7) (oi := _) (v := ?_) rfl (by kernel_rfl) (by kernel_rfl) (by kernel_rfl) (fun _ _ _ h => h) (Or.inl ⟨by rfl, ?_⟩) (by assumption) ?_
    rotate_left
    · intro wS hSw; (try dsimp only at hSw); go_simp; (try with_reducible rfl)
    try simp only [Act.put, List.setIfInBounds_toArray, List.set_cons_zero, List.set_cons_succ]
    refine wpAnyH_ready (rs := [8]) (by kernel_rfl) (by simp) ?_
    refine AllReadyH.cons (o := _) rfl (fun K hK => ?_) AllReadyH.nil
    go_simp
    refine hK.out _ _ ?_ (fun hHeld2 => ?_)
    · (try dsimp only); (first | exact ⟨s0, s1, s2⟩ | exact ⟨c0, c1, c2⟩)
    clear hK K hHeld1
    try simp only [Act.put, List.setIfInBounds_toArray, List.set_cons_zero, List.set_cons_succ]
    refine wpAnyH_done (by kernel_rfl) ?_ _
    gi_wp2
    exact HE.out
  case done =>
    rintro D' zs W hD rfl h hK
    have PI : Hid (PlI w d v w.heap.size d.length (firstM d d.length) W) := by
      have q := h
      rw [← upto_all, firstL_upto d _ (Nat.le_refl _), upto_length (Nat.le_refl _)] at q
      exact q
    have c1 : W.cell? ⟨w.heap.size + 1, 0, none⟩ = some (.map (some (w.heap.size + 3))) := cell_at h.b1 rfl
    have c2 : W.cell? ⟨w.heap.size + 1 + 1, 0, none⟩ = some (.slice (some ⟨w.heap.size + 4, 0, none⟩) d.length d.length) := cell_at h.b2 rfl
    have f1 : W.frozen? ⟨w.heap.size + 1, 0, none⟩ = false := by simp [World.frozen?, h.b1]
    have f2 : W.frozen? ⟨w.heap.size + 1 + 1, 0, none⟩ = false := by simp [World.frozen?, show W.heap[w.heap.size + 1 + 1]? = _ from h.b2]
    clear h
    gi_wp2_with fail
    gi_region
    all_goals
      gi_wp2
      obtain ⟨V, hV, k1, k2, k3, k4, k5⟩ := PI.out.last (by omega) hK
      rw [← hV]
      refine ⟨by simp, .inl ⟨_, _, rfl, run_takeDeferred k1, ?_⟩⟩
      exact ⟨_, results_map_ints rfl _ _ (w.heap.size + 1) (w.heap.size + 1 + 1) _ _ rfl rfl k2 k3, _, _, rfl, k4, by omega, k5⟩
  case stop =>
    rintro D' c' pre W _ _ h _
    exact h.elim
end Go.Proofs.Ythjjjnapcbkhjab
