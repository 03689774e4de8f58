/-
  Several walks, one behind the other: TreeV, TreeS5, TreeS6.
-/
import Derived.Test.YtpefeloajnopdaaTreeT
import Derived.Test.YtpefeloajnopdaaTreeU
import Derived.Test.YtpefeloajnopdaaTreeF
import Derived.Lib.SmallJoins
import Derived.Test.YtpefeloajnopdaaTreeS4
import Derived.Test.YtpefeloajnopdaaGrow
namespace Go.Proofs.Ytpefeloajnopdaa
open Go.RowKit Go.ChangeShapes Go.WideShapes
set_option linter.unusedVariables false
set_option linter.unusedSimpArgs false
set_option maxRecDepth 20000 in
set_option maxHeartbeats 4000000 in
theorem szTree_at {w : World} {v : Value} {n : Nat} {E : Nat → Nat → Int} {N : Nat → List Int} (h : ExprsI w v n E N) (hl : ∀ i, (N i).length ≤ 9223372036854775807) (hn : n ≤ 9223372036854775807) :
    Calls Try.prog 5 #[.agg #[v], .int .i64 1048576] w fun e w' => ∃ x : Int, e = .returned (.int .i64 x) ∧ (x = -1 ∨ 0 ≤ x) ∧ (0 ≤ x → n ≤ 1048576 ∧ ∀ i, i < n → (N i).length ≤ 1048576) ∧ Below w.heap.size w w' := by
  have CS : Hid (∀ W, Below w.heap.size w W → Calls Try.prog 16 #[v, .int .i64 1048576] W fun e w' => ∃ x : Int, e = .returned (.int .i64 x) ∧ (x = -1 ∨ 0 ≤ x) ∧ (0 ≤ x → n ≤ 1048576 ∧ ∀ i, i < n → (N i).length ≤ 1048576) ∧ Below W.heap.size W w') := fun W hb => szExprS_at (h.keep hb) hl hn
  clear hl hn
  obtain ⟨a, c, rfl, _⟩ := h
  go_enter Try.func5, Try.ntmps5
  go_wp2_with fail
  refine (CS.out _ one_below).mono ?_
  rintro r w2 ⟨x, rfl, hx0, hx, hb⟩
  have B2 : Hid (Below w.heap.size w w2) := bTrans one_below hb
  have HX : Hid (0 ≤ x → n ≤ 1048576 ∧ ∀ i, i < n → (N i).length ≤ 1048576) := hx
  clear hb hx
  rcases hx0 with rfl | hx0
  · go_wp2
    go_ret
    exact ⟨_, rfl, .inl rfl, fun h => absurd h (by simp), B2.out⟩
  · have e1 : ¬ x < 0 := by omega
    go_wp2
    go_ret
    exact ⟨_, rfl, .inr hx0, HX.out, B2.out⟩
theorem tree_loaded {w : World} {g : Nat} {x : Value} (h : w.heap[g]? = some (.cells #[x] 31 (0, 0))) : (loadVar 31 ⟨g, 0, none⟩).run Try.prog w = .ok (.agg #[x]) w := by
  have c0 : w.cell? ⟨g, 0, none⟩ = some x := cell_at h rfl
  simp [loadVar, go_sem, c0]
theorem results_tree {fn : Func} {p : Tmp} (h : fn.results = #[.cell p 31]) (tmps : Array Value) (w : World) (g : Nat) (x : Value) (hp : tmps.getD p undef = .pointer (some ⟨g, 0, none⟩))
    (hg : w.heap[g]? = some (.cells #[x] 31 (0, 0))) : (results fn tmps).run Try.prog w = .ok (.agg #[x]) w := by
  have e : (asAddr (.pointer (some ⟨g, 0, none⟩))).run Try.prog w = .ok ⟨g, 0, none⟩ w := by simp [asAddr]
  have l := tree_loaded hg
  have hp' : tmps[p]?.getD undef = .pointer (some ⟨g, 0, none⟩) := by simpa using hp
  simp [results, h, hp', e, l, Sem.run_bind, Result.andThen]
set_option maxRecDepth 20000 in
set_option maxHeartbeats 4000000 in
theorem toTree_at {w : World} {v : Value} {n : Nat} {E : Nat → Nat → Int} {N : Nat → List Int} (h : ExprsI w v n E N) (hl : ∀ i, (N i).length ≤ 1048576) (hn : n ≤ 1048576) :
    Calls Try.prog 7 #[.agg #[v]] w fun e w' => ∃ (a' : Option Addr) (c' : Nat), e = .returned (.agg #[.slice a' n c']) ∧ ExprsI w' (.slice a' n c') n E N ∧ Below w.heap.size w w' := by
  have CS : Hid (∀ W, Below w.heap.size w W → Calls Try.prog 17 #[v] W fun e w' => ∃ v', e = .returned v' ∧ ExprsI w' v' n E N ∧ Below W.heap.size W w' ∧ ∀ W', Win 0 W.heap.size w' W' → ExprsI W' v' n E N) := fun W hb => toExprS_at (h.keep hb) hl hn
  clear hl hn
  obtain ⟨a, c, rfl, _⟩ := h
  go_enter Try.func7, Try.ntmps7
  go_wp2_with fail
  refine (CS.out _ (bAlloc (bAlloc (bAlloc (Below.refl _ _) _) _) _)).mono ?_
  rintro r w2 ⟨v2, rfl, hv, hb, hwin⟩
  have EX : Hid (∀ W', Win 0 (w.heap.size + 1 + 1 + 1) w2 W' → ExprsI W' v2 n E N) := fun W' hw => hwin W' (by simpa using hw)
  have q := expr_three w (.cells #[.slice a n c] 24) (.cells #[.slice none 0 0] 31) (.cells #[.slice none 0 0] 31)
  have R2 : Hid (w2.heap[w.heap.size + 1]? = some (.cells #[.slice none 0 0] 31 (0, 0))) := by show _ = _; rw [hb.block _ (by simp)]; exact q.2.1
  have O2 : Hid (w2.heap[w.heap.size + 1 + 1]? = some (.cells #[.slice none 0 0] 31 (0, 0))) := by show _ = _; rw [hb.block _ (by simp)]; exact q.2.2
  have B2 : Hid (Below w.heap.size w w2) := bTrans (bAlloc (bAlloc (bAlloc (Below.refl _ _) _) _) _) hb
  obtain ⟨a2, c2, rfl, hw⟩ := hv
  clear hb q hwin
  have r0 : w2.cell? ⟨w.heap.size + 1, 0, none⟩ = some (.slice none 0 0) := cell_at R2.out rfl
  have o0 : w2.cell? ⟨w.heap.size + 1 + 1, 0, none⟩ = some (.slice none 0 0) := cell_at O2.out rfl
  have f0 : w2.frozen? ⟨w.heap.size + 1, 0, none⟩ = false := free_at R2.out 0
  have g0 : w2.frozen? ⟨w.heap.size + 1 + 1, 0, none⟩ = false := free_at O2.out 0
  have HR : Hid (((w2.setCell ⟨w.heap.size + 1 + 1, 0, none⟩ (.slice a2 n c2)).setCell ⟨w.heap.size + 1, 0, none⟩ (.slice a2 n c2)).heap[w.heap.size + 1]? = some (.cells #[.slice a2 n c2] 31 (0, 0))) := by
    have e1 : (w2.setCell ⟨w.heap.size + 1 + 1, 0, none⟩ (.slice a2 n c2)).heap[w.heap.size + 1]? = some (.cells #[.slice none 0 0] 31 (0, 0)) := by
      rw [heap_setCell_other _ _ _ _ (by show w.heap.size + 1 ≠ w.heap.size + 1 + 1; omega)]; exact R2.out
    have e2 := heap_setCell_same _ (w.heap.size + 1) 0 _ _ (.slice a2 n c2) e1
    show _ = _
    simpa using e2
  clear hw
  go_wp2
  refine bodyPost_ret (results_tree Try.results7 _ _ (w.heap.size + 1) _ rfl HR.out) rfl ?_
  refine ⟨_, _, rfl, ?_, below_setCell (below_setCell B2.out (by omega) _ _) (by omega) _ _⟩
  exact EX.out _ (((Win.refl _ _ _).setCell (by omega) (by omega) _ _).setCell (by omega) (by omega) _ _)
set_option maxRecDepth 20000 in
set_option maxHeartbeats 4000000 in
theorem eqTree_same {w : World} {v u : Value} {n : Nat} {E : Nat → Nat → Int} {N : Nat → List Int} (h : ExprsI w v n E N) (k : ExprsI w u n E N) (hl : ∀ i, (N i).length ≤ 1048576) (hn : n ≤ 1048576) :
    Calls Try.prog 10 #[.agg #[v], .agg #[u]] w fun r w' => r = .returned (.bool true) ∧ Below w.heap.size w w' := by
  have CS : Hid (∀ W, Below w.heap.size w W → Calls Try.prog 20 #[v, u] W fun r w' => r = .returned (.bool true) ∧ Below W.heap.size W w') := fun W hb => eqExprS_same (h.keep hb) (k.keep hb) hl hn
  clear hl hn
  obtain ⟨a, c, rfl, _⟩ := h
  obtain ⟨a', c', rfl, _⟩ := k
  go_enter Try.func10, Try.ntmps10
  go_wp2_with fail
  refine (CS.out _ two_below).mono ?_
  rintro r w2 ⟨rfl, hb⟩
  have B2 : Hid (Below w.heap.size w w2) := bTrans two_below hb
  clear hb
  go_wp2
  go_ret
  exact ⟨rfl, B2.out⟩
theorem open_agg1 {H : Type} {enc : TypeId × Value → H} {P : Program} {w : World} {base : Nat} {spare : Nat → Bool} {held : Bool} {r : Reach} {b0 : Nat} {t : TypeId} {f0 : Field} {v : Value} {d : DataW H} {p : List MemPlace} (hs : P.underlying t = some (.struct #[f0])) (hone : Deep.oneCellFields P #[f0] = true) (hC : P.cellsOf t = 1)
    (hv : Value.okWide P w r b0 t v) (h : DataW.Trod enc P w base spare held t v d p) :
    ∃ (v0 : Value) (y0 : DataW H × List MemPlace) (n : Nat), v = .agg #[v0] ∧ d = .agg [y0.1] ∧ p = y0.2 ∧ DataW.trod enc P w base spare held n f0.type [v0] = some y0 := by
  obtain ⟨cs, rfl, hsz⟩ := okWide_struct hs hv
  obtain ⟨c0, rfl⟩ : ∃ c0, cs = #[c0] := by
    have h1 := hsz.trans hC
    obtain ⟨l⟩ := cs
    match l, h1 with
    | [c0], _ => exact ⟨c0, rfl⟩
  obtain ⟨fuel, hf⟩ := h
  obtain ⟨y0, n, hx, _, h0⟩ := trod_struct1 hs hf
  obtain ⟨o0, k0⟩ := Deep.hone_of hone 0 f0 rfl
  simp only [Prod.mk.injEq] at hx
  exact ⟨c0, y0, n, rfl, hx.1, hx.2, by simpa [Value.cells, o0, k0] using h0⟩
end Go.Proofs.Ytpefeloajnopdaa
namespace Go.Proofs.Ytpefeloajnopdaa
open Go.RowKit
set_option linter.unusedVariables false
set_option linter.unusedSimpArgs false
set_option maxRecDepth 20000 in
set_option maxHeartbeats 8000000 in
theorem node0_spec {e0 e1 e2 e3 e4 e5 : Int} {n : Nat} {w : World} {xa oa : Option Addr} {xc oc k : Nat} (h1 : e0 ≠ 1) (h2 : e0 ≠ 2) (h3 : e0 ≠ 3) (h4 : e0 ≠ 4) (h5 : e0 ≠ 5) : Calls Try.prog 25 #[.agg #[.int .i64 e0, .int .i64 e1, .int .i64 e2, .int .i64 e3, .int .i64 e4, .int .i64 e5, .slice xa n xc], .int .i64 (k : Int), .slice oa k oc] w fun r w' => r = .returned (.tuple #[.int .i64 0, .bool false]) ∧ Below w.heap.size w w' := by
  have b1 : (e0 == 1) = false := by simpa using h1
  have b2 : (e0 == 2) = false := by simpa using h2
  have b3 : (e0 == 3) = false := by simpa using h3
  have b4 : (e0 == 4) = false := by simpa using h4
  have b5 : (e0 == 5) = false := by simpa using h5
  clear h1 h2 h3 h4 h5
  go_enter Try.func25, Try.ntmps25
  go_wp2
  go_ret2
  exact ⟨rfl, two_below⟩
/-- What l9Node answers. -/
def NodePost (w : World) (k : Nat) (e : Nat → Int) (o l : List Int) (r : Ending) (w' : World) : Prop :=
  ∃ x : Int, r = .returned (.tuple #[.int .i64 x, .bool (heldB k e o && nodeB e l)]) ∧ ((heldB k e o && nodeB e l) = true → x = ownOf k e o) ∧ Below w.heap.size w w'
theorem NodePost.good {w : World} {k : Nat} {e : Nat → Int} {o l : List Int} {x : Int} {b : Bool} {f : FuncId} {args : Array Value} (hb : (heldB k e o && nodeB e l) = b) (hx : ownOf k e o = x) (h : Calls Try.prog f args w fun r w' => r = .returned (.tuple #[.int .i64 x, .bool b]) ∧ Below w.heap.size w w') : Calls Try.prog f args w fun r w' => NodePost w k e o l r w' := by
  refine h.mono ?_
  rintro r w' ⟨rfl, hbl⟩
  exact ⟨x, by rw [hb], fun _ => hx.symm, hbl⟩
theorem NodePost.bad {w : World} {k : Nat} {e : Nat → Int} {o l : List Int} {x : Int} {f : FuncId} {args : Array Value} (hb : heldB k e o = false) (h : Calls Try.prog f args w fun r w' => r = .returned (.tuple #[.int .i64 x, .bool false]) ∧ Below w.heap.size w w') : Calls Try.prog f args w fun r w' => NodePost w k e o l r w' := by
  have hz : (heldB k e o && nodeB e l) = false := by rw [hb]; rfl
  refine h.mono ?_
  rintro r w' ⟨rfl, hbl⟩
  exact ⟨x, by rw [hz], fun h => absurd h (by rw [hz]; decide), hbl⟩
theorem heldB3 {k : Nat} {e : Nat → Int} {o : List Int} (h : e 0 = 3 ∨ e 0 = 4) : heldB k e o = (decide (1 ≤ k) && decide (e 2 = (k : Int) - 1)) := by unfold heldB; rw [if_pos h]
theorem heldB5 {k : Nat} {e : Nat → Int} {o : List Int} (h : e 0 = 5) : heldB k e o = (decide (2 ≤ k) && decide (e 1 = (k : Int) - 1) && decide (e 2 = (k : Int) - 1 - o.getD (k - 1) 0) && decide (0 ≤ e 2)) := by unfold heldB; rw [if_neg (by omega), if_pos h]
theorem heldB0 {k : Nat} {e : Nat → Int} {o : List Int} (h3 : e 0 ≠ 3) (h4 : e 0 ≠ 4) (h5 : e 0 ≠ 5) : heldB k e o = true := by unfold heldB; rw [if_neg (fun h => h.elim h3 h4), if_neg h5]
set_option maxHeartbeats 2000000 in
/-- The specification's l9Node. -/
theorem node_spec (e : Nat → Int) {l o : List Int} {w : World} {xa oa : Option Addr} {xc oc k : Nat} (h : IntsI w (.slice xa l.length xc) l) (hl : l.length ≤ 1048576) (ho : Ints w oa o) (hk : o.length = k) (h60 : k ≤ 60) (hall : ∀ i, i < k → 1 ≤ o.getD i 0 ∧ o.getD i 0 ≤ 60) :
    Calls Try.prog 25 #[.agg #[.int .i64 (e 0), .int .i64 (e 1), .int .i64 (e 2), .int .i64 (e 3), .int .i64 (e 4), .int .i64 (e 5), .slice xa l.length xc], .int .i64 (k : Int), .slice oa k oc] w fun r w' => NodePost w k e o l r w' := by
  by_cases h1 : e 0 = 1
  · rw [h1]
    refine NodePost.good ?_ ?_ (node1_spec h hl)
    · rw [heldB0 (by omega) (by omega) (by omega), Bool.true_and]; unfold nodeB; rw [if_pos h1]
    · unfold ownOf; rw [if_pos (.inl h1)]
  by_cases h2 : e 0 = 2
  · rw [h2]
    refine NodePost.good ?_ ?_ node2_spec
    · rw [heldB0 (by omega) (by omega) (by omega), Bool.true_and]; unfold nodeB; rw [if_neg h1, if_pos h2]
    · unfold ownOf; rw [if_pos (.inr h2)]
  by_cases h3 : e 0 = 3
  · rw [h3]
    cases k with
    | zero => exact NodePost.bad (by rw [heldB3 (.inl h3)]; rfl) node3_first
    | succ K =>
      rw [show ((K + 1 : Nat) : Int) = (K : Int) + 1 from rfl]
      by_cases hb : e 2 = (K : Int)
      · rw [hb]
        refine NodePost.good ?_ ?_ (node3_good ho hk rfl (hall K (by omega)).1 (hall K (by omega)).2 (by omega))
        · rw [heldB3 (.inl h3), decide_eq_true (by omega : 1 ≤ K + 1), decide_eq_true (by omega : e 2 = ((K + 1 : Nat) : Int) - 1), Bool.true_and, Bool.true_and]; unfold nodeB; rw [if_neg h1, if_neg h2, if_pos h3]
        · unfold ownOf; rw [if_neg (by omega), if_pos (.inl h3), Nat.add_sub_cancel]
      · exact NodePost.bad (by rw [heldB3 (.inl h3), decide_eq_false (by omega : ¬ e 2 = ((K + 1 : Nat) : Int) - 1), Bool.and_false]) (node3_bad (by omega) hb)
  by_cases h4 : e 0 = 4
  · rw [h4]
    cases k with
    | zero => exact NodePost.bad (by rw [heldB3 (.inr h4)]; rfl) node4_first
    | succ K =>
      rw [show ((K + 1 : Nat) : Int) = (K : Int) + 1 from rfl]
      by_cases hb : e 2 = (K : Int)
      · rw [hb]
        refine NodePost.good ?_ ?_ (node4_good ho hk rfl (hall K (by omega)).1 (hall K (by omega)).2 (by omega))
        · rw [heldB3 (.inr h4), decide_eq_true (by omega : 1 ≤ K + 1), decide_eq_true (by omega : e 2 = ((K + 1 : Nat) : Int) - 1), Bool.true_and, Bool.true_and]; unfold nodeB; rw [if_neg h1, if_neg h2, if_neg h3, if_pos h4]
        · unfold ownOf; rw [if_neg (by omega), if_pos (.inr h4), Nat.add_sub_cancel]
      · exact NodePost.bad (by rw [heldB3 (.inr h4), decide_eq_false (by omega : ¬ e 2 = ((K + 1 : Nat) : Int) - 1), Bool.and_false]) (node4_bad (by omega) hb)
  by_cases h5 : e 0 = 5
  · rw [h5]
    by_cases hk2 : 2 ≤ k
    · obtain ⟨K, rfl⟩ : ∃ K, k = K + 1 := ⟨k - 1, by omega⟩
      rw [show ((K + 1 : Nat) : Int) = (K : Int) + 1 from rfl]
      obtain ⟨X, hX⟩ : ∃ X, o.getD K 0 = X := ⟨_, rfl⟩
      have x1 := hX ▸ (hall K (by omega)).1
      have x2 := hX ▸ (hall K (by omega)).2
      have HB : heldB (K + 1) e o = (decide (e 1 = (K : Int)) && decide (e 2 = (K : Int) - X) && decide (0 ≤ e 2)) := by
        rw [heldB5 h5, decide_eq_true hk2, Bool.true_and, Nat.add_sub_cancel, hX, show ((K + 1 : Nat) : Int) - 1 = (K : Int) by omega]
      by_cases ha : e 1 = (K : Int)
      · rw [ha]
        by_cases hb : e 2 = (K : Int) - X
        · by_cases hc : 0 ≤ e 2
          · obtain ⟨Bn, hBn⟩ : ∃ Bn : Nat, e 2 = (Bn : Int) := ⟨(e 2).toNat, by omega⟩
            obtain ⟨Y, hY⟩ : ∃ Y, o.getD Bn 0 = Y := ⟨_, rfl⟩
            have y1 := hY ▸ (hall Bn (by omega)).1
            have y2 := hY ▸ (hall Bn (by omega)).2
            rw [hBn]
            refine NodePost.good ?_ ?_ (node5_good ho hk hX x1 x2 (by omega) (by omega) (by omega) hY y1 y2)
            · rw [HB, decide_eq_true ha, decide_eq_true hb, decide_eq_true hc]; unfold nodeB; rw [if_neg h1, if_neg h2, if_neg h3, if_neg h4, if_pos h5]; rfl
            · unfold ownOf; rw [if_neg (by omega), if_neg (by omega), ha, hBn, Int.toNat_natCast, Int.toNat_natCast, hX, hY]
          · exact NodePost.bad (by rw [HB, decide_eq_false hc, Bool.and_false]) (node5_bad3 ho hk hX x1 x2 (by omega) (by omega) hb (by omega))
        · exact NodePost.bad (by rw [HB, decide_eq_false hb, Bool.and_false, Bool.false_and]) (node5_bad2 ho hk hX x1 x2 (by omega) (by omega) hb)
      · exact NodePost.bad (by rw [HB, decide_eq_false ha, Bool.false_and, Bool.false_and]) (node5_bad1 (by omega) (by omega) ha)
    · have hz : heldB k e o = false := by rw [heldB5 h5, decide_eq_false hk2, Bool.false_and, Bool.false_and, Bool.false_and]
      by_cases hk0 : k = 0
      · subst hk0; exact NodePost.bad hz node5_first0
      · obtain rfl : k = 1 := by omega
        exact NodePost.bad hz node5_first1
  refine (node0_spec h1 h2 h3 h4 h5).mono ?_
  rintro r w' ⟨rfl, hbl⟩
  have hz : (heldB k e o && nodeB e l) = false := by
    have : nodeB e l = false := by unfold nodeB; rw [if_neg h1, if_neg h2, if_neg h3, if_neg h4, if_neg h5]
    rw [this, Bool.and_false]
  exact ⟨0, by rw [hz], fun h => absurd h (by rw [hz]; decide), hbl⟩
end Go.Proofs.Ytpefeloajnopdaa
namespace Go.Proofs.Ytpefeloajnopdaa
open Go.RowKit
set_option linter.unusedVariables false
set_option linter.unusedSimpArgs false
theorem upTo_all {E : Nat → Nat → Int} {N : Nat → List Int} {k : Nat} (h : upTo E N k) (hk : k ≤ 60) : ∀ i, i < k → 1 ≤ (ownS E k).getD i 0 ∧ (ownS E k).getD i 0 ≤ 60 := fun i hi => by
  have ht := upTo_top (k := i + 1) (fun j hj => h j (by omega)) (by omega)
  rw [Nat.add_sub_cancel, ownS_at E (by omega : i < i + 1)] at ht
  rw [ownS_at E hi]
  omega
set_option maxRecDepth 20000 in
set_option maxHeartbeats 8000000 in
/-- The specification's TreeOk. -/
theorem treeOk_spec {w : World} {v : Value} {n : Nat} {E : Nat → Nat → Int} {N : Nat → List Int} (h : ExprsI w v n E N) (hl : ∀ i, (N i).length ≤ 1048576) (hn : n ≤ 1048576) :
    Calls Try.prog 14 #[.agg #[v]] w fun r w' => r = .returned (.bool (treeB n E N)) ∧ Below w.heap.size w w' := by
  have H : Hid (ExprsI w v n E N) := h
  have HL : Hid (∀ i, (N i).length ≤ 1048576) := hl
  clear hl
  obtain ⟨a, c, rfl, _⟩ := h
  by_cases hc : 1 ≤ n ∧ n ≤ 60
  · have hq : (decide ((1 : Int) ≤ (n : Int)) && decide ((n : Int) ≤ 60)) = true := by simp; omega
    have GD : Hid (upTo E N n → treeB n E N = decide ((ownS E n).getD (n - 1) 0 = (n : Int))) := fun h1 => by
      by_cases h3 : (ownS E n).getD (n - 1) 0 = (n : Int)
      · rw [decide_eq_true h3]; exact treeB_true ⟨hc.1, hc.2, h1, (upTo_end h1 hc.1).2 h3⟩
      · rw [decide_eq_false h3]; exact treeB_false fun h => h3 ((upTo_end h1 hc.1).1 h.2.2.2)
    have BD : Hid (∀ k, k < n → upTo E N k → (heldB k (E k) (ownS E k) && nodeB (E k) (N k)) = false → treeB n E N = false) := fun k hk hu h => treeB_false fun g => by
      have g1 := g.2.2.1 k hk
      have g2 := upTo_held hu g1.1
      rw [← g2, g1.1, g1.2] at h
      exact absurd h (by decide)
    generalize treeB n E N = Q at *
    have hc1 := hc.1
    have hc2 := hc.2
    clear hc
    go_enter Try.func14, Try.ntmps14
    go_wp2_with fail
    refine (in_spec _ _ _ _).mono ?_
    rintro r w1 ⟨rfl, hw⟩
    subst w1
    rw [hq]
    go_wp2_with fail
    generalize hW : w.alloc (.cells #[.slice a n c] 31) = W0
    have hb0 := heap_alloc_new w (.cells #[.slice a n c] 31)
    rw [hW] at hb0
    have B0 : Hid (Below w.heap.size w W0) := by rw [← hW]; exact one_below
    have BX : Hid (∀ W, Below W0.heap.size W0 W → W.cell? ⟨w.heap.size, 0, none⟩ = some (.slice a n c)) := fun W hb => (hb.cell (p := ⟨w.heap.size, 0, none⟩) (lt_of_heapA hb0)).trans (cell_at hb0 rfl)
    have SZ : W0.heap.size = w.heap.size + 1 := by rw [← hW]; simp
    clear hW hb0
    generalize hW : W0.alloc (.cells #[] 3) = W1
    have N0 : Hid (NewInts W0.heap.size W1 (.slice (some ⟨w.heap.size + 1, 0, none⟩) 0 0) (ownS E 0)) := by rw [← hW, ← SZ]; exact newInts_alloc W0 [] (Nat.le_refl _) (by simp)
    have B1 : Hid (Below W0.heap.size W0 W1) := by rw [← hW]; exact one_below
    clear hW SZ
    go_loopw [4, 5] (fun u i w' => ∃ (k : Nat) (ad : Option Addr) (cd : Nat), k ≤ n ∧ u = .slice ad k cd ∧ i = .int .i64 (k : Int) ∧ upTo E N k ∧ NewInts W0.heap.size w' (.slice ad k cd) (ownS E k) ∧ Below W0.heap.size W0 w') (fun _ i _ => n - (intOf i).toNat)
    case atStart => exact ⟨0, _, _, by omega, rfl, rfl, fun i hi => absurd hi (by omega), N0.out, B1.out⟩
    case round =>
      obtain ⟨k, ad, cd, hk, rfl, rfl, hA, hN, hB⟩ := hrel
      have HA : Hid (upTo E N k) := hA
      have NK : Hid (NewInts W0.heap.size wr (.slice ad k cd) (ownS E k)) := hN
      have BK : Hid (Below W0.heap.size W0 wr) := hB
      have cb := BX.out _ hB
      clear hA hN hB N0 B1
      by_cases hlt : (k : Int) < (n : Int)
      · have L : k < n := by omega
        obtain ⟨o, off, xa, xc, rfl, ho, ⟨p0, p1, p2, p3, p4, p5, p6⟩, ar⟩ := (H.out.keep (bTrans B0.out BK.out)).at L
        have OI : Hid (Ints wr ad (ownS E k)) := by
          obtain ⟨_, _, ev, _, hi⟩ := NK.out.piece.intsI
          rw [ownS_len] at ev
          cases ev
          exact hi
        have CI : Hid (Calls Try.prog 25 #[.agg #[.int .i64 (E k 0), .int .i64 (E k 1), .int .i64 (E k 2), .int .i64 (E k 3), .int .i64 (E k 4), .int .i64 (E k 5), .slice xa (N k).length xc], .int .i64 (k : Int), .slice ad k cd] wr fun r w' => NodePost wr k (E k) (ownS E k) (N k) r w') := node_spec (E k) ar (HL.out k) OI.out (ownS_len E k) (by omega) (upTo_all HA.out (by omega))
        have NX : Hid ((heldB k (E k) (ownS E k) && nodeB (E k) (N k)) = true → upTo E N (k + 1)) := fun h i hi => by
          by_cases e : i = k
          · subst e
            simp only [Bool.and_eq_true] at h
            exact ⟨h.2, (upTo_held HA.out h.2).trans h.1⟩
          · exact HA.out i (by omega)
        have BY : Hid ((heldB k (E k) (ownS E k) && nodeB (E k) (N k)) = false → Q = false) := BD.out k L HA.out
        have EL : Hid (ownS E (k + 1) = ownS E k ++ [ownOf k (E k) (ownS E k)]) := rfl
        have LL : Hid ((ownS E k).length = k) := ownS_len E k
        clear ho ar OI
        unfold NodePost at CI
        generalize (heldB k (E k) (ownS E k) && nodeB (E k) (N k)) = q at *
        generalize ownOf k (E k) (ownS E k) = x0 at *
        generalize E k 0 = q0 at *
        generalize E k 1 = q1 at *
        generalize E k 2 = q2 at *
        generalize E k 3 = q3 at *
        generalize E k 4 = q4 at *
        generalize E k 5 = q5 at *
        generalize (N k).length = nl at *
        go_wp2_with fail
        refine CI.out.mono ?_
        rintro r w2 ⟨x, rfl, hx, hb⟩
        have HX : Hid (q = true → x = x0) := hx
        have B2 : Hid (Below W0.heap.size W0 w2) := bTrans BK.out hb
        have NK2 : Hid (NewInts W0.heap.size w2 (.slice ad k cd) (ownS E k)) := NK.out.keep hb
        clear hb hx
        cases q
        · have QF : Hid (Q = false) := BY.out rfl
          go_wp2
          go_ret
          exact ⟨by rw [QF.out]; rfl, bTrans B0.out B2.out⟩
        · have NY : Hid (upTo E N (k + 1)) := NX.out rfl
          obtain rfl : x = x0 := HX.out rfl
          clear NX BY HX
          obtain ⟨a5, c5, w5, hr, h5, hb5⟩ := grow1 x NK2.out B2.out.size (by rw [LL.out]; omega)
          rw [LL.out] at hr h5
          rw [← EL.out] at h5
          have R5 : Hid ((Builtin.append_ #[42, 42] 42 #[.slice ad k cd, .slice (some ⟨w2.heap.size, 0, none⟩) 1 1]).run Try.prog (w2.alloc (.cells #[.int .i64 x] 3)) = .ok (.slice a5 (k + 1) c5) w5) := hr
          have N5 : Hid (NewInts W0.heap.size w5 (.slice a5 (k + 1) c5) (ownS E (k + 1))) := h5
          have B5 : Hid (Below W0.heap.size W0 w5) := B2.out.trans hb5
          clear hr h5 hb5
          go_wp2_with (at_builtin; refine wpList_append_ty rfl _ _ 42 42 rfl _ _ _ rfl rfl R5.out ?_)
          go_roundw
          case rel => exact ⟨k + 1, _, _, by omega, rfl, by go_num, NY.out, N5.out, B5.out⟩
          case measure => simp [intOf]; omega
      · obtain rfl : k = n := by omega
        have QT : Hid (Q = decide ((ownS E k).getD (k - 1) 0 = (k : Int))) := GD.out HA.out
        obtain ⟨_, _, ev, _, hi⟩ := NK.out.piece.intsI
        rw [ownS_len] at ev
        cases ev
        obtain ⟨K, rfl⟩ : ∃ K, k = K + 1 := ⟨k - 1, by omega⟩
        obtain ⟨b1, o1, rfl, _, c1⟩ := hi.at (k := K) (by rw [ownS_len]; omega)
        rw [Nat.add_sub_cancel] at QT
        clear hi hlt
        generalize (ownS E (K + 1)).getD K 0 = X at *
        have gz : (0 : Int) ≤ (K : Int) := by omega
        have g4 : (K : Int) < ((K + 1 : Nat) : Int) := by omega
        have gv : IntKind.i64.wrap (K : Int) = (K : Int) := by rw [IntKind.wrap_i64]; omega
        go_wp2
        all_goals
          go_ret
          refine ⟨ret_bool ?_, bTrans B0.out BK.out⟩
          rw [QT.out]
          first | rfl | (simp; done) | (rw [Bool.eq_iff_iff]; simp)
  · have hq : (decide ((1 : Int) ≤ (n : Int)) && decide ((n : Int) ≤ 60)) = false := by
      cases hz : (decide ((1 : Int) ≤ (n : Int)) && decide ((n : Int) ≤ 60))
      · rfl
      · simp at hz; omega
    rw [treeB_false (fun h => hc ⟨h.1, h.2.1⟩)]
    clear hc
    go_enter Try.func14, Try.ntmps14
    go_wp2_with fail
    refine (in_spec _ _ _ _).mono ?_
    rintro r w1 ⟨rfl, hw⟩
    subst w1
    rw [hq]
    go_wp2
    go_ret
    exact ⟨rfl, one_below⟩
end Go.Proofs.Ytpefeloajnopdaa
