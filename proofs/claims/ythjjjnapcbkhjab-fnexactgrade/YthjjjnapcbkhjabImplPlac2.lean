/-
  Walks: the program's placesOf, its second answer told too: the next place of each number.
-/
import Derived.Test.YthjjjnapcbkhjabImplPlaces
namespace Go.Proofs.Ythjjjnapcbkhjab
open Go.RowKit Go.Shelf
set_option linter.unusedVariables false
set_option linter.unusedSimpArgs false
attribute [local go_sem] Oper.semAt_some
/-- The next places, by the list of those that were told. -/
def agS (d : List Int) (st : (Int → Option Int) × List Int) (x : Fin d.length) : (Int → Option Int) × List Int :=
  ((fun y => if y = d.getD (d.length - 1 - x.1) 0 then some ((d.length - 1 - x.1 : Nat) : Int) else st.1 y), st.2.set (d.length - 1 - x.1) ((st.1 (d.getD (d.length - 1 - x.1) 0)).getD (d.length : Int)))
def agP (d : List Int) (pre : List (Fin d.length)) : (Int → Option Int) × List Int := pre.foldl (agS d) ((fun _ => none), List.replicate d.length 0)
def agL (d : List Int) (pre : List (Fin d.length)) : List Int := (agP d pre).2
theorem agP_snoc (d : List Int) (pre : List (Fin d.length)) (x : Fin d.length) : agP d (pre ++ [x]) = agS d (agP d pre) x := by
  unfold agP
  rw [List.foldl_append]
  rfl
theorem agP_first (d : List Int) : ∀ (n : Nat) (pre : List (Fin d.length)), pre.length = n → (agP d pre).1 = firstL d pre := by
  intro n
  induction n with
  | zero => intro pre h; rw [List.eq_nil_of_length_eq_zero h]; rfl
  | succ n ih =>
    intro pre h
    have hne : pre ≠ [] := fun e => by rw [e] at h; cases h
    rw [← List.dropLast_concat_getLast hne, agP_snoc, firstL_snoc, ← ih pre.dropLast (by rw [List.length_dropLast]; omega)]
    rfl
theorem agL_snoc (d : List Int) (pre : List (Fin d.length)) (x : Fin d.length) : agL d (pre ++ [x]) = (agL d pre).set (d.length - 1 - x.1) ((firstL d pre (d.getD (d.length - 1 - x.1) 0)).getD (d.length : Int)) := by
  unfold agL
  rw [agP_snoc, ← agP_first d _ pre rfl]
  rfl
theorem agL_len (d : List Int) : ∀ pre : List (Fin d.length), (agL d pre).length = d.length := by
  have : ∀ (n : Nat) (pre : List (Fin d.length)), pre.length = n → (agL d pre).length = d.length := by
    intro n
    induction n with
    | zero => intro pre h; rw [List.eq_nil_of_length_eq_zero h]; simp [agL, agP]
    | succ n ih =>
      intro pre h
      have hne : pre ≠ [] := fun e => by rw [e] at h; cases h
      rw [← List.dropLast_concat_getLast hne, agL_snoc, List.length_set, ih pre.dropLast (by rw [List.length_dropLast]; omega)]
  exact fun pre => this _ pre rfl
def agM (d : List Int) : Nat → List Int
  | 0 => List.replicate d.length 0
  | k + 1 => (agM d k).set (d.length - 1 - k) ((firstM d k (d.getD (d.length - 1 - k) 0)).getD (d.length : Int))
def agD (d : List Int) : List Int := agM d d.length
theorem agL_upto (d : List Int) : ∀ k, k ≤ d.length → agL d (upto d.length k) = agM d k := by
  intro k
  induction k with
  | zero => intro _; simp [upto, agL, agP, agM]
  | succ k ih =>
    intro h
    rw [upto_succ (by omega), agL_snoc, ih (by omega), firstL_upto d k (by omega)]
    rfl
/-- Behind a round. -/
theorem PlI.next2 {w : World} {d A : List Int} {v : Value} {N k i : Nat} {M : Int → Option Int} {X : World} {y q : Int} (h : PlI w d v N k M X) (hA : A.length = d.length) (hO : OwnInts X (N + 4) A) (hk : k ≤ 1000) (hi : i < d.length) (hc : d.length ≤ 300) (hwf : (Lit.int .i64 y).wf = true) :
    ∃ W', (Instr.mapUpdate 37 (.map (some (N + 3))) (.int .i64 y) (.int .i64 (i : Int))).run Try.prog (X.drew.setCell ⟨N + 4, i, none⟩ (.int .i64 q)) = .ok () W' ∧ PlI w d v N (k + 1) (fun z => if z = y then some (i : Int) else M z) W' ∧ OwnInts W' (N + 4) (A.set i q) ∧ KeepsFrom (N + 6) X W' ∧ ∀ j, j < N + 3 ∨ j = N + 5 → W'.heap[j]? = X.heap[j]? := by
  have hs := h.size
  have M1 : MapAt (X.drew.setCell ⟨N + 4, i, none⟩ (.int .i64 q)) (N + 3) k M := (h.map.keep ((Below.refl _ _).drew)).setCell (by show N + 3 ≠ N + 4; omega) _
  obtain ⟨W', hr, hm, hg⟩ := M1.store hk hwf (p := (i : Int)) (wf_i64 (by omega) (by omega))
  have hsz : (X.drew.setCell ⟨N + 4, i, none⟩ (.int .i64 q)).heap.size = X.heap.size := by simp only [size_setCell]; rfl
  have hz := hg.size
  have hb : ∀ j, j < X.heap.size → j ≠ N + 3 → j ≠ N + 4 → W'.heap[j]? = X.heap[j]? := fun j h1 h2 h3 => by
    rw [hg.block j (by rw [hsz]; exact h1) (fun e => h2 (by injection e)), heap_setCell_other _ _ _ _ (by show j ≠ N + 4; exact h3)]
    rfl
  have hO' : OwnInts (X.drew.setCell ⟨N + 4, i, none⟩ (.int .i64 q)) (N + 4) (A.set i q) := by
    have e := heap_setCell_same X.drew (N + 4) i _ _ (.int .i64 q) (show X.drew.heap[N + 4]? = some (.cells (vals A) 3 (0, 0)) from hO)
    unfold OwnInts
    rw [e]
    simp [vals, List.map_set]
  have hO2 : OwnInts W' (N + 4) (A.set i q) := by
    show W'.heap[N + 4]? = _
    rw [hg.block (N + 4) (by rw [hsz]; omega) (fun e => by injection e; omega)]
    exact hO'
  refine ⟨W', hr, ?_, hO2, ?_, ?_⟩
  · refine ⟨by rw [hb _ (by omega) (by omega) (by omega)]; exact h.b0, by rw [hb _ (by omega) (by omega) (by omega)]; exact h.b1, by rw [hb _ (by omega) (by omega) (by omega)]; exact h.b2, hm, ⟨A.set i q, by simpa using hA, ?_⟩, by rw [hb _ (by omega) (by omega) (by omega)]; exact h.b5, ?_, by omega⟩
    · show W'.heap[N + 4]? = _
      rw [hg.block (N + 4) (by rw [hsz]; omega) (fun e => by injection e; omega)]
      exact hO'
    · exact ⟨hg.os.trans h.bel.os, hg.tape.trans h.bel.tape, hg.output.trans h.bel.output, by have := h.bel.size; omega, fun j hj => (hb j (by omega) (by omega) (by omega)).trans (h.bel.block j hj)⟩
  · exact ⟨by omega, fun j o h1 h2 _ => by rw [hb j (Array.getElem?_eq_some_iff.1 h2).1 (by omega) (by omega)]; exact h2⟩
  · intro j hj
    exact hb j (by omega) (by omega) (by omega)
/-- Behind the loop: what the two stores of the answer leave. -/
theorem PlI.last2 {w : World} {d A : List Int} {v : Value} {N k D' : Nat} {M : Int → Option Int} {W : World} (h : PlI w d v N k M W) (hD : N + 6 ≤ D') (hK : W.heap[D']? = some (.deferred (some []))) (hO : OwnInts W (N + 4) A) :
    ∃ V, V = ((W.setCell ⟨N + 1, 0, none⟩ (.map (some (N + 3)))).setCell ⟨N + 1 + 1, 0, none⟩ (.slice (some ⟨N + 4, 0, none⟩) d.length d.length)).drew ∧ V.heap[D']? = some (.deferred (some [])) ∧
      (V.putObj D' (.deferred none)).cell? ⟨N + 1, 0, none⟩ = some (.map (some (N + 3))) ∧ (V.putObj D' (.deferred none)).cell? ⟨N + 1 + 1, 0, none⟩ = some (.slice (some ⟨N + 4, 0, none⟩) d.length d.length) ∧ MapAt (V.putObj D' (.deferred none)) (N + 3) k M ∧ OwnInts (V.putObj D' (.deferred none)) (N + 4) A ∧ Below N w (V.putObj D' (.deferred none)) := by
  have hs := h.size
  obtain ⟨x, hx⟩ : ∃ x, x = Value.map (some (N + 3)) := ⟨_, rfl⟩
  obtain ⟨y, hy⟩ : ∃ y, y = Value.slice (some ⟨N + 4, 0, none⟩) d.length d.length := ⟨_, rfl⟩
  have hb1 := h.b1
  have hb2 := h.b2
  rw [← hx] at hb1
  rw [← hy] at hb2
  rw [← hx, ← hy]
  obtain ⟨V, hV⟩ : ∃ V, V = ((W.setCell ⟨N + 1, 0, none⟩ x).setCell ⟨N + 1 + 1, 0, none⟩ y).drew := ⟨_, rfl⟩
  have e1 : V.heap[N + 1]? = some (.cells #[x] 37 (0, 0)) := by
    have q := heap_setCell_same W (N + 1) 0 _ _ x hb1
    rw [hV]
    show ((W.setCell ⟨N + 1, 0, none⟩ x).setCell ⟨N + 1 + 1, 0, none⟩ y).heap[N + 1]? = _
    rw [heap_setCell_other _ _ _ _ (by show N + 1 ≠ N + 1 + 1; omega), q]
    simp
  have e2 : V.heap[N + 1 + 1]? = some (.cells #[y] 22 (0, 0)) := by
    have q0 : (W.setCell ⟨N + 1, 0, none⟩ x).heap[N + 1 + 1]? = some (.cells #[y] 22 (0, 0)) := by rw [heap_setCell_other _ _ _ _ (by show N + 1 + 1 ≠ N + 1; omega)]; exact hb2
    have q := heap_setCell_same _ (N + 1 + 1) 0 _ _ y q0
    rw [hV]
    show ((W.setCell ⟨N + 1, 0, none⟩ x).setCell ⟨N + 1 + 1, 0, none⟩ y).heap[N + 1 + 1]? = _
    rw [q]
    simp
  have e3 : V.heap[D']? = some (.deferred (some [])) := by
    rw [hV]
    show ((W.setCell ⟨N + 1, 0, none⟩ x).setCell ⟨N + 1 + 1, 0, none⟩ y).heap[D']? = _
    rw [heap_setCell_other _ _ _ _ (by show D' ≠ N + 1 + 1; omega), heap_setCell_other _ _ _ _ (by show D' ≠ N + 1; omega)]
    exact hK
  have m1 : MapAt V (N + 3) k M := by
    rw [hV]
    exact ((h.map.setCell (a := ⟨N + 1, 0, none⟩) (by show N + 3 ≠ N + 1; omega) x).setCell (a := ⟨N + 1 + 1, 0, none⟩) (by show N + 3 ≠ N + 1 + 1; omega) y).keep ((Below.refl _ _).drew)
  have bl : Below N w V := by
    rw [hV]
    exact (below_setCell (below_setCell h.bel (by omega) _ _) (by omega) _ _).drew
  have hg := grownBy_putObj' V D' (.deferred none)
  have o1 : OwnInts (V.putObj D' (.deferred none)) (N + 4) A := by
    show (V.putObj D' (.deferred none)).heap[N + 4]? = _
    rw [World.putObj_heap_other (by omega), hV]
    show ((W.setCell ⟨N + 1, 0, none⟩ x).setCell ⟨N + 1 + 1, 0, none⟩ y).heap[N + 4]? = _
    rw [heap_setCell_other _ _ _ _ (by show N + 4 ≠ N + 1 + 1; omega), heap_setCell_other _ _ _ _ (by show N + 4 ≠ N + 1; omega)]
    exact hO
  refine ⟨V, hV, e3, ?_, ?_, m1.kept hg (fun e => by injection e; omega), o1, ?_⟩
  · exact cell_at (by rw [World.putObj_heap_other (by omega)]; exact e1) rfl
  · exact cell_at (by rw [World.putObj_heap_other (by omega)]; exact e2) rfl
  · exact ⟨hg.os.trans bl.os, hg.tape.trans bl.tape, hg.output.trans bl.output, Nat.le_trans bl.size hg.size, fun j hj => (World.putObj_heap_other (by omega)).trans (bl.block j hj)⟩
set_option maxRecDepth 100000 in
set_option maxHeartbeats 4000000 in
theorem places2_walk {d : List Int} {a : Option Addr} {c b1 o1 : Nat} {w : World} (hi : ∀ j, j < d.length → w.cell? ⟨b1, o1 + j, none⟩ = some (.int .i64 (d.getD j 0))) (ha : 0 < d.length → a = some ⟨b1, o1, none⟩) (hb1 : b1 < w.heap.size) (hc : d.length ≤ 300) (hok : ∀ j, j < d.length → (Lit.int .i64 (d.getD j 0)).wf = true) :
    Calls Try.prog 16 #[.slice a d.length c] w fun r w' => ∃ b g, r = .returned (.tuple #[.map (some b), .slice (some ⟨g, 0, none⟩) d.length d.length]) ∧ MapAt w' b d.length (firstM d d.length) ∧ OwnInts w' g (agD d) ∧ w.heap.size ≤ b ∧ w.heap.size ≤ g ∧ b ≠ g ∧ Below w.heap.size w w' := by
  have hmk : ∀ w, (Instr.makeSlice 22 (.int .i64 (d.length : Int)) (.int .i64 (d.length : Int))).run Try.prog w = .ok (.slice (some ⟨w.heap.size, 0, none⟩) d.length d.length) (w.alloc (.cells (vals (List.replicate d.length 0)) 3)) := fun w => make_ints d.length (by omega) w
  have hmm : ∀ w, (Instr.makeMap 37 (some (.int .i64 (d.length : Int)))).run Try.prog w = .ok (.map (some w.heap.size)) (w.alloc (.map #[] 0)) := fun w => by
    simp [Instr.makeMap, asInt, asIntOf]
  obtain ⟨v, hv⟩ : ∃ v, v = Value.slice a d.length c := ⟨_, rfl⟩
  refine (callsIn_wide (n := 6)).1 ?_
  refine callsIn_of_wp_marks Try.func16 rfl trivial ?_ rfl
  simp only [Try.ntmps16, List.size_toArray, List.length_cons, List.length_nil, Nat.reduceAdd, Nat.reduceSub, Array.replicate_succ, Array.replicate_zero, List.push_toArray, List.append_toArray, List.nil_append, List.cons_append]
  gi_wp2_with fail
  refine ⟨trivial, (backward_in _ _ _ rfl).mono ?_⟩
  rintro rr w2 ⟨rfl, hw⟩
  have hsz : w2.heap.size = w.heap.size + 6 := by rw [hw]; simp
  have P00 : PlI w d v w.heap.size 0 (firstL d []) w2 ∧ OwnInts w2 (w.heap.size + 4) (agL d []) := by
    have q := blocks6 w (.cells #[Value.slice a d.length c] 22) (.cells #[Value.map (some (w.heap.size + 1 + 1 + 1))] 37) (.cells #[Value.slice (some ⟨w.heap.size + 1 + 1 + 1 + 1, 0, none⟩) d.length d.length] 22) (.map #[] 0) (.cells (vals (List.replicate d.length 0)) 3) (.cells #[Value.slice a d.length c] 22)
    have m := (mapAt_new (((w.alloc (.cells #[Value.slice a d.length c] 22)).alloc (.cells #[Value.map (some (w.heap.size + 1 + 1 + 1))] 37)).alloc (.cells #[Value.slice (some ⟨w.heap.size + 1 + 1 + 1 + 1, 0, none⟩) d.length d.length] 22))).keep (bAlloc (bAlloc (Below.refl _ _) (.cells (vals (List.replicate d.length 0)) 3)) (.cells #[Value.slice a d.length c] 22))
    rw [show (((w.alloc (.cells #[Value.slice a d.length c] 22)).alloc (.cells #[Value.map (some (w.heap.size + 1 + 1 + 1))] 37)).alloc (.cells #[Value.slice (some ⟨w.heap.size + 1 + 1 + 1 + 1, 0, none⟩) d.length d.length] 22)).heap.size = w.heap.size + 3 by simp] at m
    rw [← hw] at q m
    obtain ⟨q0, q1, q2, q4, q5⟩ := q
    exact ⟨⟨by rw [hv]; exact q0, q1, q2, m, ⟨List.replicate d.length 0, by simp, q4⟩, by rw [hv]; exact q5, by rw [hw]; exact bAlloc (bAlloc (bAlloc (bAlloc (bAlloc (bAlloc (Below.refl _ _) _) _) _) _) _) _, by omega⟩, q4⟩
  have P0 : Hid (PlI w d v w.heap.size 0 (firstL d []) w2) := P00.1
  have PO : Hid (OwnInts w2 (w.heap.size + 4) (agL d [])) := P00.2
  clear P00
  have B2 : Hid (Below w.heap.size w w2) := P0.out.bel
  have hqc : w2.cell? ⟨w.heap.size + 5, 0, none⟩ = some (.slice a d.length c) := by rw [← hv]; exact cell_at P0.out.b5 rfl
  have hi2 : ∀ j, j < d.length → w2.cell? ⟨b1, o1 + j, none⟩ = some (.int .i64 (d.getD j 0)) := fun j hj => (B2.out.cell (p := ⟨b1, o1 + j, none⟩) hb1).trans (hi j hj)
  clear hw hmk hmm
  gi_wp2_with fail
  refine wpIn_rangeFunc_ownH rfl (by decide) (gf := 32) (lb := #[.pointer (some ⟨w.heap.size + 1 + 1 + 1 + 1 + 1, 0, none⟩)]) rfl trivial (enters_of Try.func32 (by kernel_rfl) rfl)
    (back_stops 5 (w.heap.size + 5) b1 o1 c a d (by decide) hc ha w2 (by omega) (by omega) hqc hi2) keepsTwo_t (keepsTwo_b (by omega) (by omega)) (Below.refl _ _) (fun _ => rfl)
    (fun pre W => PlI w d v w.heap.size pre.length (firstL d pre) W ∧ OwnInts W (w.heap.size + 4) (agL d pre))
    (fun _ _ _ => False)
    ?hI (fun _ _ _ _ _ hs _ _ => hs)
    ⟨P0.out, PO.out⟩
    (fun x a' W => a' = { tmps := #[.slice a d.length c, .pointer (some ⟨w.heap.size, 0, none⟩), .pointer (some ⟨w.heap.size + 1, 0, none⟩), .pointer (some ⟨w.heap.size + 1 + 1, 0, none⟩), .int .i64 ((d.length - 1 - x.1 : Nat) : Int), .int .i64 (d.getD (d.length - 1 - x.1) 0), .slice a d.length c, .int .i64 (d.length : Int), .map (some (w.heap.size + 1 + 1 + 1)), .slice a d.length c, .int .i64 (d.length : Int), .slice (some ⟨w.heap.size + 1 + 1 + 1 + 1, 0, none⟩) d.length d.length, .slice a d.length c, .func (.func 32) #[] #[.pointer (some ⟨w.heap.size + 1 + 1 + 1 + 1 + 1, 0, none⟩)], .int .i64 ((d.length - 1 - x.1 : Nat) : Int), .int .i64 (d.getD (d.length - 1 - x.1) 0), undef, undef, undef, undef, undef, undef, undef, undef, undef, undef, undef, undef, undef], defers := [] })
    ?hAx ?assign ?body ?done ?stop
  case hI =>
    rintro pre X Y row h hg hrow
    exact ⟨h.1.kept hg (fun r e => by have := (hrow r e).1; omega), by
      show Y.heap[_]? = _
      rw [hg.block (w.heap.size + 4) (by have := h.1.size; omega) (fun e => by have := (hrow _ e.symm).1; omega)]
      exact h.2⟩
  case hAx =>
    rintro x a' _ X Y row h hg hr'
    exact h
  case assign =>
    rintro l pre x W K h hK
    gi_wp2
    exact hK _ _ ((KeepsOthers.refl _).from _) ⟨rfl, rfl⟩ h rfl
  case body =>
    rintro l pre x a' W hl _ h rfl hlt
    obtain ⟨h, hOA⟩ := h
    have PI : Hid (PlI w d v w.heap.size pre.length (firstL d pre) W) := h
    obtain ⟨i, hi0⟩ : ∃ i, i = d.length - 1 - x.1 := ⟨_, rfl⟩
    have hil : i < d.length := by have := x.2; omega
    obtain ⟨y, hy⟩ : ∃ y, y = d.getD i 0 := ⟨_, rfl⟩
    have hwf : (Lit.int .i64 y).wf = true := by rw [hy]; exact hok i hil
    obtain ⟨q, hq⟩ : ∃ q, q = (firstL d pre y).getD (d.length : Int) := ⟨_, rfl⟩
    obtain ⟨W', hr, hP, hOB, hK, hS⟩ := h.next2 (y := y) (q := q) (agL_len d pre) hOA (by omega) hil hc hwf
    have AS : Hid (agL d (pre ++ [x]) = (agL d pre).set i q) := by show _ = _; rw [agL_snoc, ← hi0, ← hy, ← hq]
    have ES : Hid (firstL d (pre ++ [x]) = fun z => if z = y then some (i : Int) else firstL d pre z) := by show _ = _; rw [firstL_snoc, ← hi0, ← hy]
    have c0 : W.cell? ⟨w.heap.size, 0, none⟩ = some (.slice a d.length c) := by rw [← hv]; exact cell_at h.b0 rfl
    have c1 : W.cell? ⟨w.heap.size + 1, 0, none⟩ = some (.map (some (w.heap.size + 3))) := cell_at h.b1 rfl
    have c2 : W.cell? ⟨w.heap.size + 1 + 1, 0, none⟩ = some (.slice (some ⟨w.heap.size + 4, 0, none⟩) d.length d.length) := cell_at h.b2 rfl
    have HPO : Hid (Calls Try.prog 26 #[.int .i64 (d.length : Int), .map (some (w.heap.size + 3)), .int .i64 y] W.drew fun r w' => r = .returned (.int .i64 q) ∧ w' = W.drew) := by rw [hq]; exact placeOr_impl (h.map.keep ((Below.refl _ _).drew)) hwf _
    obtain ⟨A, hA, hO⟩ := h.own
    have hcell : ∃ z, W.drew.cell? ⟨w.heap.size + 4, i, none⟩ = some z := by
      have L2 : i < (vals A).size := by simp [vals, hA]; omega
      exact ⟨(vals A)[i], by rw [show W.drew.cell? ⟨w.heap.size + 4, i, none⟩ = W.cell? ⟨w.heap.size + 4, i, none⟩ from rfl]; exact cell_at hO (by simp [L2])⟩
    obtain ⟨z, hz⟩ := hcell
    have hfz : W.drew.frozen? ⟨w.heap.size + 4, i, none⟩ = false := by
      rw [show W.drew.frozen? ⟨w.heap.size + 4, i, none⟩ = W.frozen? ⟨w.heap.size + 4, i, none⟩ from rfl]
      simp [World.frozen?, show W.heap[w.heap.size + 4]? = _ from hO]
    have hii : (i : Int) < (d.length : Int) := by omega
    have HR : Hid ((Instr.mapUpdate 37 (.map (some (w.heap.size + 3))) (.int .i64 y) (.int .i64 (i : Int))).run Try.prog (W.drew.setCell ⟨w.heap.size + 4, i, none⟩ (.int .i64 q)) = .ok () W') := hr
    have HE : Hid (KeepsFrom w2.heap.size W W' ∧ KeepsTwo (w.heap.size + 5) b1 W W' ∧ (PlI w d v w.heap.size (pre ++ [x]).length (firstL d (pre ++ [x])) W' ∧ OwnInts W' (w.heap.size + 4) (agL d (pre ++ [x])))) := ⟨by rw [hsz]; exact hK, ⟨hS _ (.inr rfl), hS _ (.inl (by omega))⟩, ⟨by rw [ES.out]; simpa using hP, by rw [AS.out]; exact hOB⟩⟩
    rw [← hi0, ← hy]
    clear hi0 hy hq hP hK hS hr h hA hO ES AS hOA hOB
    have s0 : (W.drew.setCell ⟨w.heap.size + 4, i, none⟩ (.int .i64 q)).cell? ⟨w.heap.size, 0, none⟩ = some (.slice a d.length c) := by rw [World.cell?_setCell_far _ _ _ _ (by show w.heap.size + 4 ≠ w.heap.size; omega)]; exact c0
    have s1 : (W.drew.setCell ⟨w.heap.size + 4, i, none⟩ (.int .i64 q)).cell? ⟨w.heap.size + 1, 0, none⟩ = some (.map (some (w.heap.size + 3))) := by rw [World.cell?_setCell_far _ _ _ _ (by show w.heap.size + 4 ≠ w.heap.size + 1; omega)]; exact c1
    have s2 : (W.drew.setCell ⟨w.heap.size + 4, i, none⟩ (.int .i64 q)).cell? ⟨w.heap.size + 1 + 1, 0, none⟩ = some (.slice (some ⟨w.heap.size + 4, 0, none⟩) d.length d.length) := by rw [World.cell?_setCell_far _ _ _ _ (by show w.heap.size + 4 ≠ w.heap.size + 1 + 1; omega)]; exact c2
    have hr := HR.out
    have hr2 : (Instr.mapUpdate 37 (.map (some (w.heap.size + 3))) (.int .i64 y) (.int .i64 (i : Int))).run Try.prog (World.drew (W.setCell ⟨w.heap.size + 4, i, none⟩ (.int .i64 q))) = .ok () W' := HR.out
    gi_wp2_with fail
    refine region_in (S := (fun w' => w'.cell? ⟨w.heap.size, 0, none⟩ = some (.slice a d.length c) ∧ w'.cell? ⟨w.heap.size + 1, 0, none⟩ = some (.map (some (w.heap.size + 3))) ∧ w'.cell? ⟨w.heap.size + 1 + 1, 0, none⟩ = some (.slice (some ⟨w.heap.size + 4, 0, none⟩) d.length d.length))) (fun ⟨_, _, h⟩ => h) (noDefer_spec (by kernel_rfl)) (by kernel_rfl) ?_ (fun hHeld0 => ?_)
    · (try dsimp only); (first | exact ⟨s0, s1, s2⟩ | exact ⟨c0, c1, c2⟩)
    refine wpAnyH_take (i := 0) (oi := _) (v := ?_) rfl (by kernel_rfl) (by kernel_rfl) (by kernel_rfl) (fun _ _ _ h => h) (Or.inl ⟨by rfl, ?_⟩) (by assumption) ?_
    rotate_left
    · intro wS hSw; (try dsimp only at hSw); go_simp; (try with_reducible rfl)
    try simp only [Act.put, List.setIfInBounds_toArray, List.set_cons_zero, List.set_cons_succ]
    refine wpAnyH_take (i := 1) (oi := _) (v := ?_) rfl (by kernel_rfl) (by kernel_rfl) (by kernel_rfl) (fun _ _ _ h => h) (Or.inl ⟨by rfl, ?_⟩) (by assumption) ?_
    rotate_left
    · intro wS hSw; (try dsimp only at hSw); go_simp; (try with_reducible rfl)
    try simp only [Act.put, List.setIfInBounds_toArray, List.set_cons_zero, List.set_cons_succ]
    refine wpAnyH_take (i := 2) (oi := _) (v := ?_) rfl (by kernel_rfl) (by kernel_rfl) (by kernel_rfl) (fun _ _ _ h => h) (Or.inl ⟨by rfl, ?_⟩) (by assumption) ?_
    rotate_left
    · intro wS hSw; (try dsimp only at hSw); go_simp; (try with_reducible rfl)
    try simp only [Act.put, List.setIfInBounds_toArray, List.set_cons_zero, List.set_cons_succ]
    refine wpAnyH_take (i := 3) (oi := _) (v := ?_) rfl (by kernel_rfl) (by kernel_rfl) (by kernel_rfl) (fun _ _ _ h => h) (Or.inl ⟨by rfl, ?_⟩) (by assumption) ?_
    rotate_left
    · intro wS hSw; (try dsimp only at hSw); go_simp; (try with_reducible rfl)
    try simp only [Act.put, List.setIfInBounds_toArray, List.set_cons_zero, List.set_cons_succ]
    refine wpAnyH_take (i := 4) (oi := _) (v := ?_) rfl (by kernel_rfl) (by kernel_rfl) (by kernel_rfl) (fun _ _ _ h => h) (Or.inl ⟨by rfl, ?_⟩) (by assumption) ?_
    rotate_left
    · intro wS hSw; (try dsimp only at hSw); go_simp; (try with_reducible rfl)
    try simp only [Act.put, List.setIfInBounds_toArray, List.set_cons_zero, List.set_cons_succ]
    refine wpAnyH_take (i := 5) (oi := _) (v := ?_) rfl (by kernel_rfl) (by kernel_rfl) (by kernel_rfl) (fun _ _ _ h => h) (Or.inl ⟨by rfl, ?_⟩) (by assumption) ?_
    rotate_left
    · intro wS hSw; (try dsimp only at hSw); go_simp; (try with_reducible rfl)
    try simp only [Act.put, List.setIfInBounds_toArray, List.set_cons_zero, List.set_cons_succ]
    refine wpAnyH_ready (rs := [6]) (by kernel_rfl) (by simp) ?_
    refine AllReadyH.cons (o := _) rfl (fun K hK => ?_) AllReadyH.nil
    go_simp
    (go_at_call 26; refine (HPO.out).mono ?_; rintro r w3 ⟨rfl, hw3⟩; subst hw3)
    try go_wp2_with fail
    refine hK.out _ _ ?_ (fun hHeld1 => ?_)
    · (try dsimp only); (first | exact ⟨s0, s1, s2⟩ | exact ⟨c0, c1, c2⟩)
    clear hK K hHeld0
    try simp only [Act.put, List.setIfInBounds_toArray, List.set_cons_zero, List.set_cons_succ]
    refine wpAnyH_take (i := 7) (oi := _) (v := ?_) rfl (by kernel_rfl) (by kernel_rfl) (by kernel_rfl) (fun _ _ _ h => h) (Or.inl ⟨by rfl, ?_⟩) (by assumption) ?_
    rotate_left
    · intro wS hSw; (try dsimp only at hSw); go_simp; (try with_reducible rfl)
    try simp only [Act.put, List.setIfInBounds_toArray, List.set_cons_zero, List.set_cons_succ]
    refine wpAnyH_ready (rs := [8]) (by kernel_rfl) (by simp) ?_
    refine AllReadyH.cons (o := _) rfl (fun K hK => ?_) AllReadyH.nil
    go_simp
    refine hK.out _ _ ?_ (fun hHeld2 => ?_)
    · (try dsimp only); (first | exact ⟨s0, s1, s2⟩ | exact ⟨c0, c1, c2⟩)
    clear hK K hHeld1
    try simp only [Act.put, List.setIfInBounds_toArray, List.set_cons_zero, List.set_cons_succ]
    refine wpAnyH_done (by kernel_rfl) ?_ _
    gi_wp2
    exact HE.out
  case done =>
    rintro D' zs W hD rfl ⟨h, hOA⟩ hK
    have POA : Hid (OwnInts W (w.heap.size + 4) (agD d)) := by
      have q := hOA
      rw [← upto_all, agL_upto d _ (Nat.le_refl _)] at q
      exact q
    clear hOA
    have PI : Hid (PlI w d v w.heap.size d.length (firstM d d.length) W) := by
      have q := h
      rw [← upto_all, firstL_upto d _ (Nat.le_refl _), upto_length (Nat.le_refl _)] at q
      exact q
    have c1 : W.cell? ⟨w.heap.size + 1, 0, none⟩ = some (.map (some (w.heap.size + 3))) := cell_at h.b1 rfl
    have c2 : W.cell? ⟨w.heap.size + 1 + 1, 0, none⟩ = some (.slice (some ⟨w.heap.size + 4, 0, none⟩) d.length d.length) := cell_at h.b2 rfl
    have f1 : W.frozen? ⟨w.heap.size + 1, 0, none⟩ = false := by simp [World.frozen?, h.b1]
    have f2 : W.frozen? ⟨w.heap.size + 1 + 1, 0, none⟩ = false := by simp [World.frozen?, show W.heap[w.heap.size + 1 + 1]? = _ from h.b2]
    clear h
    gi_wp2_with fail
    gi_region
    all_goals
      gi_wp2
      obtain ⟨V, hV, k1, k2, k3, k4, k6, k5⟩ := PI.out.last2 (by omega) hK POA.out
      rw [← hV]
      refine ⟨by simp, .inl ⟨_, _, rfl, run_takeDeferred k1, ?_⟩⟩
      exact ⟨_, results_map_ints rfl _ _ (w.heap.size + 1) (w.heap.size + 1 + 1) _ _ rfl rfl k2 k3, _, _, rfl, k4, k6, by omega, by omega, by omega, k5⟩
  case stop =>
    rintro D' c' pre W _ _ h _
    exact h.elim
end Go.Proofs.Ythjjjnapcbkhjab
