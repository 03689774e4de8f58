/-
  Walks: the program's reader: function.
-/
import Derived.Test.YtnebjnglcfebeaaDoorParI1
import Derived.Deep.Cut
import Derived.Deep.RegionHeld3
namespace Go.Proofs.YtnebjnglcfebeaaDoor
open Go.RowKit
set_option linter.unusedVariables false
set_option linter.unusedSimpArgs false
/-- What function works over. -/
def FnQ (a : Option Addr) (n c : Nat) (T : Nat → Spn) (te : TypeId) (pe : Value) (w : World) (ga p q : Nat) (V : World) (gt : Nat) : Prop :=
  V.heap[gt]? = some (.cells #[.int .i64 (tkK n T (p + 1)), .int .i64 (tkN n T (p + 1))] 40 (0, 0)) ∧ Rs a n T te pe V ga q ∧ V.heap[w.heap.size]? = some (.cells #[.slice a n c, .pointer (some ⟨ga, 0, none⟩)] 51 (0, 0)) ∧ V.heap[w.heap.size + 1]? = some (.cells #[.int .i64 0, .int .i64 0, .int .i64 0] 64 (0, 0)) ∧ Chg ga (.slice none 0 0) w V ∧ w.heap.size + 1 < gt
def FnW (a : Option Addr) (n c : Nat) (T : Nat → Spn) (te : TypeId) (pe : Value) (w : World) (ga p : Nat) (V : World) (gt : Nat) : Prop :=
  V.heap[gt]? = some (.cells #[.int .i64 (tkK n T (p + 1)), .int .i64 (tkN n T (p + 1))] 40 (0, 0)) ∧ Rs a n T te pe V ga (p + 1) ∧ V.heap[w.heap.size]? = some (.cells #[.slice a n c, .pointer (some ⟨ga, 0, none⟩)] 51 (0, 0)) ∧ V.heap[w.heap.size + 1]? = some (.cells #[.int .i64 0, .int .i64 0, .int .i64 0] 64 (0, 0)) ∧ Chg ga (.slice none 0 0) w V ∧ w.heap.size + 1 < gt
theorem FnW.go {a : Option Addr} {n c : Nat} {T : Nat → Spn} {te : TypeId} {pe : Value} {w V V' : World} {ga p q gt : Nat} (h : FnQ a n c T te pe w ga p q V gt) (hl : ga < w.heap.size) {q' : Nat} (hR : Rs a n T te pe V' ga q') (hC : Chg ga (.slice none 0 0) V V') : FnQ a n c T te pe w ga p q' V' gt := by
  obtain ⟨h1, h2, h3, h4, h5, h6⟩ := h
  have nn : ∀ j, (Value.slice none 0 0).ownBlock ≠ some j := fun j => by simp [Value.ownBlock]
  exact ⟨by rw [hC.block _ (lt_of_heapA h1) (by omega) (nn _)]; exact h1, hR, by rw [hC.block _ (lt_of_heapA h3) (by omega) (nn _)]; exact h3, by rw [hC.block _ (lt_of_heapA h4) (by omega) (nn _)]; exact h4, h5.trans hC (fun j hj => absurd hj (nn j)), h6⟩
theorem FnW.fin {a : Option Addr} {n c : Nat} {T : Nat → Spn} {te : TypeId} {pe : Value} {w V : World} {ga p q gt : Nat} (h : FnQ a n c T te pe w ga p q V gt) (hl : ga < w.heap.size) (x y z : Value) : Rs a n T te pe (((V.setCell ⟨w.heap.size + 1, 0, none⟩ x).setCell ⟨w.heap.size + 1, 1, none⟩ y).setCell ⟨w.heap.size + 1, 2, none⟩ z) ga q ∧ (((V.setCell ⟨w.heap.size + 1, 0, none⟩ x).setCell ⟨w.heap.size + 1, 1, none⟩ y).setCell ⟨w.heap.size + 1, 2, none⟩ z).heap[w.heap.size + 1]? = some (.cells #[x, y, z] 64 (0, 0)) ∧ Chg ga (.slice none 0 0) w (((V.setCell ⟨w.heap.size + 1, 0, none⟩ x).setCell ⟨w.heap.size + 1, 1, none⟩ y).setCell ⟨w.heap.size + 1, 2, none⟩ z) := by
  obtain ⟨h1, h2, h3, h4, h5, h6⟩ := h
  have ww : Win (w.heap.size + 1) (w.heap.size + 1 + 1) V (((V.setCell ⟨w.heap.size + 1, 0, none⟩ x).setCell ⟨w.heap.size + 1, 1, none⟩ y).setCell ⟨w.heap.size + 1, 2, none⟩ z) := ((win_setCell _ _ _ _).trans (win_setCell _ _ _ _)).trans (win_setCell _ _ _ _)
  have l4 := lt_of_heapA h4
  exact ⟨h2.chg ⟨ww.os, ww.tape, ww.output, ww.size, fun k hk => ww.block k (by omega) (by omega)⟩ (by rw [ww.block _ h2.lts (by omega)]; exact h2.at'), fun_stored h4, ((h5.setNew (by omega) _).setNew (by omega) _).setNew (by omega) _⟩
theorem results_fun {fn : Func} {p : Tmp} (h : fn.results = #[.cell p 64]) (tmps : Array Value) (w : World) (g : Nat) (x y z : Value) (hp : tmps.getD p undef = .pointer (some ⟨g, 0, none⟩))
    (hg : w.heap[g]? = some (.cells #[x, y, z] 64 (0, 0))) : (results fn tmps).run Tryd.prog w = .ok (.agg #[x, y, z]) w := by
  have e : (asAddr (.pointer (some ⟨g, 0, none⟩))).run Tryd.prog w = .ok ⟨g, 0, none⟩ w := by simp [asAddr]
  have l := fun_loaded hg
  have hp' : tmps[p]?.getD undef = .pointer (some ⟨g, 0, none⟩) := by simpa using hp
  simp [results, h, hp', e, l, Sem.run_bind, Result.andThen]
set_option maxRecDepth 20000 in
set_option maxHeartbeats 8000000 in
theorem function_impl {a : Option Addr} {n c : Nat} {T : Nat → Spn} {te : TypeId} {pe : Value} {w : World} {ga p : Nat} (h : Rs a n T te pe w ga p) (h3 : tkK n T p = 3) (hn : n ≤ 1048576) :
    Calls Tryd.prog 64 #[.agg #[.slice a n c, .pointer (some ⟨ga, 0, none⟩)]] w fun e w' => e = .returned (.agg #[.int .i64 (funP n T p).1.1, .int .i64 (funP n T p).1.2.1, .int .i64 (funP n T p).1.2.2]) ∧ Rs a n T te pe w' ga (funP n T p).2 ∧ Chg ga (.slice none 0 0) w w' := by
  have hp := tkK_in (n := n) (T := T) (p := p) (by omega)
  have H : Hid (Rs a n T te pe w ga p) := h
  have TK : Hid (∀ W, Below w.heap.size w W → Calls Tryd.prog 63 #[.agg #[.slice a n c, .pointer (some ⟨ga, 0, none⟩)], .int .i64 3] W fun e w' => e = .returned (.int .i64 (tkN n T p)) ∧ Rs a n T te pe w' ga (p + 1) ∧ Chg ga (.slice none 0 0) W w') := fun W hb => take_impl (h.keep hb) 3 h3 hn (by omega)
  have AH : Hid (∀ W, Rs a n T te pe W ga (p + 1) → Calls Tryd.prog 62 #[.agg #[.slice a n c, .pointer (some ⟨ga, 0, none⟩)], .int .i64 0] W fun e w' => e = .returned (.agg #[.int .i64 (tkK n T (p + 1)), .int .i64 (tkN n T (p + 1))]) ∧ Below W.heap.size W w') := fun W hW => ahead_impl hW 0 hn (by omega) (by decide)
  have LG : Hid (ga < w.heap.size) := h.lts
  go_enter Tryd.func64, Tryd.ntmps64
  go_upto_region 1 with fail
  have q0 := two_blocksR w (.cells #[.slice a n c, .pointer (some ⟨ga, 0, none⟩)] 51) (.cells #[.int .i64 0, .int .i64 0, .int .i64 0] 64)
  have BW : Hid (Below w.heap.size w ((w.alloc (.cells #[.slice a n c, .pointer (some ⟨ga, 0, none⟩)] 51)).alloc (.cells #[.int .i64 0, .int .i64 0, .int .i64 0] 64))) := bAlloc (bAlloc (Below.refl _ _) _) _
  obtain ⟨W0, hW0⟩ : ∃ W0, W0 = (w.alloc (.cells #[.slice a n c, .pointer (some ⟨ga, 0, none⟩)] 51)).alloc (.cells #[.int .i64 0, .int .i64 0, .int .i64 0] 64) := ⟨_, rfl⟩
  rw [← hW0] at q0 BW ⊢
  clear hW0
  have RB : Hid (∀ W w1, Below W0.heap.size W0 W → Chg ga (.slice none 0 0) W w1 → w1.heap[w.heap.size]? = some (.cells #[.slice a n c, .pointer (some ⟨ga, 0, none⟩)] 51 (0, 0)) ∧ w1.heap[w.heap.size + 1]? = some (.cells #[.int .i64 0, .int .i64 0, .int .i64 0] 64 (0, 0)) ∧ Chg ga (.slice none 0 0) w w1) := fun W w1 hb hC => by
    have l0 := lt_of_heapA q0.1
    have l1 := lt_of_heapA q0.2
    have hz := hb.size
    have := LG.out
    exact ⟨by rw [hC.block _ (by omega) (by omega) (by simp [Value.ownBlock]), hb.block _ l0]; exact q0.1, by rw [hC.block _ (by omega) (by omega) (by simp [Value.ownBlock]), hb.block _ l1]; exact q0.2, (Chg.of (v := .slice none 0 0) (bTrans BW.out hb)).trans hC (fun j hj => by simp [Value.ownBlock] at hj)⟩
  have x0 := cell_at (k := 0) q0.1 rfl
  have x1 := cell_at (k := 1) q0.1 rfl
  have RO : Hid (∀ (V : World), V.heap[w.heap.size]? = some (.cells #[.slice a n c, .pointer (some ⟨ga, 0, none⟩)] 51 (0, 0)) → ∀ O : Obj, (V.alloc O).cell? ⟨w.heap.size, 0, none⟩ = some (.slice a n c)) := fun V hV O => cell_at (k := 0) (by rw [(bAlloc (Below.refl V.heap.size V) O).block _ (lt_of_heapA hV)]; exact hV) rfl
  have RP : Hid (∀ (V : World), V.heap[w.heap.size]? = some (.cells #[.slice a n c, .pointer (some ⟨ga, 0, none⟩)] 51 (0, 0)) → ∀ O : Obj, (V.alloc O).cell? ⟨w.heap.size, 1, none⟩ = some (.pointer (some ⟨ga, 0, none⟩))) := fun V hV O => cell_at (k := 1) (by rw [(bAlloc (Below.refl V.heap.size V) O).block _ (lt_of_heapA hV)]; exact hV) rfl
  have xo0 := RO.out W0 q0.1
  have xo1 := RP.out W0 q0.1
  have LW : w.heap.size ≤ W0.heap.size := BW.out.size
  have LW2 : w.heap.size + 1 < W0.heap.size := lt_of_heapA q0.2
  have NGt : ∀ j, w.heap.size ≤ j → ¬ j = ga := fun j hj => by have := LG.out; omega
  have FIN : Hid (∀ w1 V gt, (w1.heap[w.heap.size]? = some (.cells #[.slice a n c, .pointer (some ⟨ga, 0, none⟩)] 51 (0, 0)) ∧ w1.heap[w.heap.size + 1]? = some (.cells #[.int .i64 0, .int .i64 0, .int .i64 0] 64 (0, 0)) ∧ Chg ga (.slice none 0 0) w w1) → Rs a n T te pe w1 ga (p + 1) → Below w1.heap.size w1 V → w1.heap.size ≤ gt → V.heap[gt]? = some (.cells #[.int .i64 (tkK n T (p + 1)), .int .i64 (tkN n T (p + 1))] 40 (0, 0)) → FnW a n c T te pe w ga p V gt) := fun w1 V gt hQ hS hb hg hv => by
    have l1 := lt_of_heapA hQ.2.1
    exact ⟨hv, hS.keep hb, by rw [hb.block _ (by omega)]; exact hQ.1, by rw [hb.block _ l1]; exact hQ.2.1, hQ.2.2.trans (Chg.of (v := .slice none 0 0) hb) (fun j hj => by simp [Value.ownBlock] at hj), by omega⟩
  have FIN3 : Hid (∀ w1 w2 gt, (w1.heap[w.heap.size]? = some (.cells #[.slice a n c, .pointer (some ⟨ga, 0, none⟩)] 51 (0, 0)) ∧ w1.heap[w.heap.size + 1]? = some (.cells #[.int .i64 0, .int .i64 0, .int .i64 0] 64 (0, 0)) ∧ Chg ga (.slice none 0 0) w w1) → Rs a n T te pe w1 ga (p + 1) → Below w1.heap.size w1 w2 → w.heap.size + 1 < gt → w2.heap[gt]? = some (.cells #[.int .i64 0, .int .i64 0] 40 (0, 0)) → FnW a n c T te pe w ga p ((w2.setCell ⟨gt, 0, none⟩ (.int .i64 (tkK n T (p + 1)))).setCell ⟨gt, 1, none⟩ (.int .i64 (tkN n T (p + 1)))) gt) := fun w1 w2 gt hQ hS hb hg hv => by
    have l1 := lt_of_heapA hQ.2.1
    have l2 := hb.size
    have lg := LG.out
    have ww : Win gt (gt + 1) w2 ((w2.setCell ⟨gt, 0, none⟩ (.int .i64 (tkK n T (p + 1)))).setCell ⟨gt, 1, none⟩ (.int .i64 (tkN n T (p + 1)))) := (win_setCell _ _ _ _).trans (win_setCell _ _ _ _)
    have hS2 := hS.keep hb
    refine ⟨arr_stored hv, hS2.chg ⟨ww.os, ww.tape, ww.output, ww.size, fun k hk => ww.block k (by omega) (by omega)⟩ (by rw [ww.block _ hS2.lts (by omega)]; exact hS2.at'), ?_, ?_, ?_, hg⟩
    · rw [ww.block _ (by omega) (by omega), hb.block _ (by omega)]; exact hQ.1
    · rw [ww.block _ (by omega) (by omega), hb.block _ l1]; exact hQ.2.1
    · exact ((hQ.2.2.trans (Chg.of (v := .slice none 0 0) hb) (fun j hj => by simp [Value.ownBlock] at hj)).setNew (by omega) _).setNew (by omega) _
  go_cut [3, 4] from 5 (fun x q w' => x = .int .i64 (tkN n T p) ∧ ∃ gt, q = .pointer (some ⟨gt, 0, none⟩) ∧ FnW a n c T te pe w ga p w' gt)
  case first =>
    go_region_law (first
      | (go_simp; go_at_call 63; refine (TK.out _ (bTrans BW.out (by repeat first | exact Below.refl _ _ | refine bAlloc ?_ _ | refine Below.drew ?_))).mono ?_; rintro r w1 ⟨rfl, hS1, hC1⟩; have hQ1 := RB.out _ _ (by repeat first | exact Below.refl _ _ | refine bAlloc ?_ _ | refine Below.drew ?_) hC1; have y0 := cell_at (k := 0) hQ1.1 rfl; have y1 := cell_at (k := 1) hQ1.1 rfl; have yo0 := RO.out w1 hQ1.1; have yo1 := RP.out w1 hQ1.1; (try have t9 : w1.heap[W0.heap.size]? = some (.cells #[.int .i64 0, .int .i64 0] 40 (0, 0)) := by rw [hC1.block _ (by simp) (NGt _ LW) (by simp [Value.ownBlock])]; exact heap_alloc_new W0 _); go_simp)
      | (go_simp; go_at_call 62; refine (AH.out _ (by first | exact hS1 | exact hS1.keep (by repeat first | exact Below.refl _ _ | refine bAlloc ?_ _ | refine Below.drew ?_))).mono ?_; rintro r w2 ⟨rfl, hb2⟩; (try have z9 : w2.heap[w1.heap.size]? = some (.cells #[.int .i64 0, .int .i64 0] 40 (0, 0)) := by rw [hb2.block _ (by simp)]; exact heap_alloc_new w1 _); (try have z9 : w2.heap[W0.heap.size]? = some (.cells #[.int .i64 0, .int .i64 0] 40 (0, 0)) := by rw [hb2.block _ (lt_of_heapA t9)]; exact t9); (try have z0 := cell_at (k := 0) z9 rfl); (try have z1 := cell_at (k := 1) z9 rfl); (try have zf0 := free_at z9 0); (try have zf1 := free_at z9 1); go_simp))
    all_goals
      go_wp2_with fail
      go_meet
      case rel =>
        refine ⟨rfl, _, rfl, ?_⟩
        first
        | exact FIN.out w1 _ _ hQ1 hS1 (bTrans (by repeat first | exact hb2 | exact Below.refl _ _ | refine bAlloc ?_ _ | refine Below.drew ?_) (bAlloc (Below.refl _ _) _)) hb2.size (heap_alloc_new w2 _)
        | exact FIN.out w1 _ _ hQ1 hS1 (below_setCell (below_setCell (bTrans (by repeat first | exact Below.refl _ _ | refine bAlloc ?_ _ | refine Below.drew ?_) hb2) (Nat.le_refl _) _ _) (Nat.le_refl _) _ _) (Nat.le_refl _) (arr_stored z9)
        | exact FIN3.out w1 _ _ hQ1 hS1 (by first | exact hb2 | exact bTrans (by repeat first | exact Below.refl _ _ | refine bAlloc ?_ _ | refine Below.drew ?_) hb2) LW2 z9
  obtain ⟨w2, hwc⟩ : ∃ x, x = wc := ⟨_, rfl⟩
  subst hwc
  obtain ⟨rfl, gt, rfl, hF⟩ := hcut
  have F2 : Hid (FnQ a n c T te pe w ga p (p + 1) w2 gt) := hF
  clear hF RB FIN FIN3 BW TK AH H x0 x1 q0 RO RP xo0 xo1 NGt LW LW2
  have T1 : Hid (tkK n T (p + 1) = 3 → ∀ W, Rs a n T te pe W ga (p + 1) → Calls Tryd.prog 63 #[.agg #[.slice a n c, .pointer (some ⟨ga, 0, none⟩)], .int .i64 3] W fun e w' => e = .returned (.int .i64 (tkN n T (p + 1))) ∧ Rs a n T te pe w' ga (p + 2) ∧ Chg ga (.slice none 0 0) W w') := fun h W hW => by have := tkK_in (n := n) (T := T) (p := p + 1) (by omega); exact take_impl hW 3 h hn (by omega)
  have T2 : Hid (tkK n T (p + 2) = 3 → ∀ W, Rs a n T te pe W ga (p + 2) → Calls Tryd.prog 63 #[.agg #[.slice a n c, .pointer (some ⟨ga, 0, none⟩)], .int .i64 3] W fun e w' => e = .returned (.int .i64 (tkN n T (p + 2))) ∧ Rs a n T te pe w' ga (p + 3) ∧ Chg ga (.slice none 0 0) W w') := fun h W hW => by have := tkK_in (n := n) (T := T) (p := p + 2) (by omega); exact take_impl hW 3 h hn (by omega)
  have A1 : Hid (tkK n T (p + 1) = 3 → ∀ W, Rs a n T te pe W ga (p + 1) → Calls Tryd.prog 62 #[.agg #[.slice a n c, .pointer (some ⟨ga, 0, none⟩)], .int .i64 1] W fun e w' => e = .returned (.agg #[.int .i64 (tkK n T (p + 2)), .int .i64 (tkN n T (p + 2))]) ∧ Below W.heap.size W w') := fun h W hW => by have := tkK_in (n := n) (T := T) (p := p + 1) (by omega); exact ahead_impl hW 1 hn (by omega) (by decide)
  have fl0 := fld0
  obtain ⟨X, hX⟩ : ∃ X, X = funP n T p := ⟨_, rfl⟩
  have EX : Hid (X = funP n T p) := hX
  unfold funP at hX
  clear h h3
  by_cases k1 : tkK n T (p + 1) = 3
  · rw [if_neg (by simpa using k1)] at hX
    have T1 : Hid _ := T1.out k1
    have A1 : Hid _ := A1.out k1
    by_cases k2 : tkN n T p = 111
    · rw [if_pos k2] at hX
      have HFP : Hid (funP n T p = _) := EX.out.symm.trans hX
      clear hX EX
      have n2 : (tkN n T p == 111) = true := by simp [k2]
      have x0 := cell_at (k := 0) F2.out.2.2.1 rfl
      have x1 := cell_at (k := 1) F2.out.2.2.1 rfl
      have f0 := cell_at (k := 0) F2.out.2.2.2.1 rfl
      have f1 := cell_at (k := 1) F2.out.2.2.2.1 rfl
      have f2 := cell_at (k := 2) F2.out.2.2.2.1 rfl
      have g0 := free_at F2.out.2.2.2.1 0
      have g1 := free_at F2.out.2.2.2.1 1
      have g2 := free_at F2.out.2.2.2.1 2
      have t0 := cell_at (k := 0) F2.out.1 rfl
      have t1 := cell_at (k := 1) F2.out.1 rfl
      rw [k1] at t0
      go_wp2_with fail
      refine (T1.out _ F2.out.2.1).mono ?_
      rintro r w3 ⟨rfl, hS, hC⟩
      have F3 := FnW.go F2.out LG.out hS hC
      have F3 : Hid _ := F3
      clear hS hC
      clear x0 x1 f0 f1 f2 g0 g1 g2 t0 t1
      have x0 := cell_at (k := 0) F3.out.2.2.1 rfl
      have x1 := cell_at (k := 1) F3.out.2.2.1 rfl
      have f0 := cell_at (k := 0) F3.out.2.2.2.1 rfl
      have f1 := cell_at (k := 1) F3.out.2.2.2.1 rfl
      have f2 := cell_at (k := 2) F3.out.2.2.2.1 rfl
      have g0 := free_at F3.out.2.2.2.1 0
      have g1 := free_at F3.out.2.2.2.1 1
      have g2 := free_at F3.out.2.2.2.1 2
      have t0 := cell_at (k := 0) F3.out.1 rfl
      have t1 := cell_at (k := 1) F3.out.1 rfl
      have FF := FnW.fin F3.out LG.out (.int .i64 (tkN n T (p + 1))) (.int .i64 (111)) (.int .i64 (0))
      have FF : Hid _ := FF
      go_wp2
      refine bodyPost_ret (results_fun Tryd.results64 _ _ (w.heap.size + 1) _ _ _ rfl FF.out.2.1) rfl ?_
      rw [HFP.out]
      exact ⟨rfl, FF.out.1, FF.out.2.2⟩
    · rw [if_neg k2] at hX
      have n2 : (tkN n T p == 111) = false := by simpa using k2
      by_cases k3 : tkN n T (p + 1) = 47 ∨ tkN n T (p + 1) = 92
      · rw [if_pos k3] at hX
        have HFP : Hid (funP n T p = _) := EX.out.symm.trans hX
        clear hX EX
        rcases k3 with k3 | k3
        · rw [k3] at T1 HFP
          have x0 := cell_at (k := 0) F2.out.2.2.1 rfl
          have x1 := cell_at (k := 1) F2.out.2.2.1 rfl
          have f0 := cell_at (k := 0) F2.out.2.2.2.1 rfl
          have f1 := cell_at (k := 1) F2.out.2.2.2.1 rfl
          have f2 := cell_at (k := 2) F2.out.2.2.2.1 rfl
          have g0 := free_at F2.out.2.2.2.1 0
          have g1 := free_at F2.out.2.2.2.1 1
          have g2 := free_at F2.out.2.2.2.1 2
          have t0 := cell_at (k := 0) F2.out.1 rfl
          have t1 := cell_at (k := 1) F2.out.1 rfl
          rw [k1] at t0
          rw [k3] at t1
          go_wp2_with fail
          refine (T1.out _ F2.out.2.1).mono ?_
          rintro r w3 ⟨rfl, hS, hC⟩
          have F3 := FnW.go F2.out LG.out hS hC
          have F3 : Hid _ := F3
          clear hS hC
          clear x0 x1 f0 f1 f2 g0 g1 g2 t0 t1
          have x0 := cell_at (k := 0) F3.out.2.2.1 rfl
          have x1 := cell_at (k := 1) F3.out.2.2.1 rfl
          have f0 := cell_at (k := 0) F3.out.2.2.2.1 rfl
          have f1 := cell_at (k := 1) F3.out.2.2.2.1 rfl
          have f2 := cell_at (k := 2) F3.out.2.2.2.1 rfl
          have g0 := free_at F3.out.2.2.2.1 0
          have g1 := free_at F3.out.2.2.2.1 1
          have g2 := free_at F3.out.2.2.2.1 2
          have t0 := cell_at (k := 0) F3.out.1 rfl
          have t1 := cell_at (k := 1) F3.out.1 rfl
          have FF := FnW.fin F3.out LG.out (.int .i64 (tkN n T p)) (.int .i64 (47)) (.int .i64 (0))
          have FF : Hid _ := FF
          go_wp2
          refine bodyPost_ret (results_fun Tryd.results64 _ _ (w.heap.size + 1) _ _ _ rfl FF.out.2.1) rfl ?_
          rw [HFP.out]
          exact ⟨rfl, FF.out.1, FF.out.2.2⟩
        · rw [k3] at T1 HFP
          have x0 := cell_at (k := 0) F2.out.2.2.1 rfl
          have x1 := cell_at (k := 1) F2.out.2.2.1 rfl
          have f0 := cell_at (k := 0) F2.out.2.2.2.1 rfl
          have f1 := cell_at (k := 1) F2.out.2.2.2.1 rfl
          have f2 := cell_at (k := 2) F2.out.2.2.2.1 rfl
          have g0 := free_at F2.out.2.2.2.1 0
          have g1 := free_at F2.out.2.2.2.1 1
          have g2 := free_at F2.out.2.2.2.1 2
          have t0 := cell_at (k := 0) F2.out.1 rfl
          have t1 := cell_at (k := 1) F2.out.1 rfl
          rw [k1] at t0
          rw [k3] at t1
          go_wp2_with fail
          refine (T1.out _ F2.out.2.1).mono ?_
          rintro r w3 ⟨rfl, hS, hC⟩
          have F3 := FnW.go F2.out LG.out hS hC
          have F3 : Hid _ := F3
          clear hS hC
          clear x0 x1 f0 f1 f2 g0 g1 g2 t0 t1
          have x0 := cell_at (k := 0) F3.out.2.2.1 rfl
          have x1 := cell_at (k := 1) F3.out.2.2.1 rfl
          have f0 := cell_at (k := 0) F3.out.2.2.2.1 rfl
          have f1 := cell_at (k := 1) F3.out.2.2.2.1 rfl
          have f2 := cell_at (k := 2) F3.out.2.2.2.1 rfl
          have g0 := free_at F3.out.2.2.2.1 0
          have g1 := free_at F3.out.2.2.2.1 1
          have g2 := free_at F3.out.2.2.2.1 2
          have t0 := cell_at (k := 0) F3.out.1 rfl
          have t1 := cell_at (k := 1) F3.out.1 rfl
          have FF := FnW.fin F3.out LG.out (.int .i64 (tkN n T p)) (.int .i64 (92)) (.int .i64 (0))
          have FF : Hid _ := FF
          go_wp2
          refine bodyPost_ret (results_fun Tryd.results64 _ _ (w.heap.size + 1) _ _ _ rfl FF.out.2.1) rfl ?_
          rw [HFP.out]
          exact ⟨rfl, FF.out.1, FF.out.2.2⟩
      · rw [if_neg k3] at hX
        have n47 : (tkN n T (p + 1) == 47) = false := by simp; omega
        have n92 : (tkN n T (p + 1) == 92) = false := by simp; omega
        by_cases k4 : tkN n T (p + 1) = 46
        · by_cases k5 : tkK n T (p + 2) = 3
          · rw [if_pos ⟨k4, k5⟩] at hX
            have HFP : Hid (funP n T p = _) := EX.out.symm.trans hX
            clear hX EX
            have T2 : Hid _ := T2.out k5
            rw [k4] at T1
            rw [k5] at A1
            have x0 := cell_at (k := 0) F2.out.2.2.1 rfl
            have x1 := cell_at (k := 1) F2.out.2.2.1 rfl
            have f0 := cell_at (k := 0) F2.out.2.2.2.1 rfl
            have f1 := cell_at (k := 1) F2.out.2.2.2.1 rfl
            have f2 := cell_at (k := 2) F2.out.2.2.2.1 rfl
            have g0 := free_at F2.out.2.2.2.1 0
            have g1 := free_at F2.out.2.2.2.1 1
            have g2 := free_at F2.out.2.2.2.1 2
            have t0 := cell_at (k := 0) F2.out.1 rfl
            have t1 := cell_at (k := 1) F2.out.1 rfl
            rw [k1] at t0
            rw [k4] at t1
            go_wp2_with fail
            refine (A1.out _ F2.out.2.1).mono ?_
            rintro r w3 ⟨rfl, hb⟩
            have F3 := FnW.go F2.out LG.out (F2.out.2.1.keep hb) (Chg.of hb)
            have F3 : Hid _ := F3
            clear hb
            clear x0 x1 f0 f1 f2 g0 g1 g2 t0 t1
            have x0 := cell_at (k := 0) F3.out.2.2.1 rfl
            have x1 := cell_at (k := 1) F3.out.2.2.1 rfl
            have f0 := cell_at (k := 0) F3.out.2.2.2.1 rfl
            have f1 := cell_at (k := 1) F3.out.2.2.2.1 rfl
            have f2 := cell_at (k := 2) F3.out.2.2.2.1 rfl
            have g0 := free_at F3.out.2.2.2.1 0
            have g1 := free_at F3.out.2.2.2.1 1
            have g2 := free_at F3.out.2.2.2.1 2
            have t0 := cell_at (k := 0) F3.out.1 rfl
            have t1 := cell_at (k := 1) F3.out.1 rfl
            go_wp2_with fail
            refine (T1.out _ F3.out.2.1).mono ?_
            rintro r w4 ⟨rfl, hS, hC⟩
            have F4 := FnW.go F3.out LG.out hS hC
            have F4 : Hid _ := F4
            clear hS hC
            clear x0 x1 f0 f1 f2 g0 g1 g2 t0 t1
            have x0 := cell_at (k := 0) F4.out.2.2.1 rfl
            have x1 := cell_at (k := 1) F4.out.2.2.1 rfl
            have f0 := cell_at (k := 0) F4.out.2.2.2.1 rfl
            have f1 := cell_at (k := 1) F4.out.2.2.2.1 rfl
            have f2 := cell_at (k := 2) F4.out.2.2.2.1 rfl
            have g0 := free_at F4.out.2.2.2.1 0
            have g1 := free_at F4.out.2.2.2.1 1
            have g2 := free_at F4.out.2.2.2.1 2
            have t0 := cell_at (k := 0) F4.out.1 rfl
            have t1 := cell_at (k := 1) F4.out.1 rfl
            go_wp2_with fail
            refine (T2.out _ F4.out.2.1).mono ?_
            rintro r w5 ⟨rfl, hS, hC⟩
            have F5 := FnW.go F4.out LG.out hS hC
            have F5 : Hid _ := F5
            clear hS hC
            clear x0 x1 f0 f1 f2 g0 g1 g2 t0 t1
            have x0 := cell_at (k := 0) F5.out.2.2.1 rfl
            have x1 := cell_at (k := 1) F5.out.2.2.1 rfl
            have f0 := cell_at (k := 0) F5.out.2.2.2.1 rfl
            have f1 := cell_at (k := 1) F5.out.2.2.2.1 rfl
            have f2 := cell_at (k := 2) F5.out.2.2.2.1 rfl
            have g0 := free_at F5.out.2.2.2.1 0
            have g1 := free_at F5.out.2.2.2.1 1
            have g2 := free_at F5.out.2.2.2.1 2
            have t0 := cell_at (k := 0) F5.out.1 rfl
            have t1 := cell_at (k := 1) F5.out.1 rfl
            have FF := FnW.fin F5.out LG.out (.int .i64 (tkN n T p)) (.int .i64 (46)) (.int .i64 (tkN n T (p + 2)))
            have FF : Hid _ := FF
            go_wp2
            refine bodyPost_ret (results_fun Tryd.results64 _ _ (w.heap.size + 1) _ _ _ rfl FF.out.2.1) rfl ?_
            rw [HFP.out]
            exact ⟨rfl, FF.out.1, FF.out.2.2⟩
          · rw [if_neg (fun q => k5 q.2)] at hX
            have HFP : Hid (funP n T p = _) := EX.out.symm.trans hX
            clear hX EX
            have n5 : (tkK n T (p + 2) == 3) = false := by simpa using k5
            have x0 := cell_at (k := 0) F2.out.2.2.1 rfl
            have x1 := cell_at (k := 1) F2.out.2.2.1 rfl
            have f0 := cell_at (k := 0) F2.out.2.2.2.1 rfl
            have f1 := cell_at (k := 1) F2.out.2.2.2.1 rfl
            have f2 := cell_at (k := 2) F2.out.2.2.2.1 rfl
            have g0 := free_at F2.out.2.2.2.1 0
            have g1 := free_at F2.out.2.2.2.1 1
            have g2 := free_at F2.out.2.2.2.1 2
            have t0 := cell_at (k := 0) F2.out.1 rfl
            have t1 := cell_at (k := 1) F2.out.1 rfl
            rw [k1] at t0
            rw [k4] at t1
            go_wp2_with fail
            refine (A1.out _ F2.out.2.1).mono ?_
            rintro r w3 ⟨rfl, hb⟩
            have F3 := FnW.go F2.out LG.out (F2.out.2.1.keep hb) (Chg.of hb)
            have F3 : Hid _ := F3
            clear hb
            clear x0 x1 f0 f1 f2 g0 g1 g2 t0 t1
            have x0 := cell_at (k := 0) F3.out.2.2.1 rfl
            have x1 := cell_at (k := 1) F3.out.2.2.1 rfl
            have f0 := cell_at (k := 0) F3.out.2.2.2.1 rfl
            have f1 := cell_at (k := 1) F3.out.2.2.2.1 rfl
            have f2 := cell_at (k := 2) F3.out.2.2.2.1 rfl
            have g0 := free_at F3.out.2.2.2.1 0
            have g1 := free_at F3.out.2.2.2.1 1
            have g2 := free_at F3.out.2.2.2.1 2
            have t0 := cell_at (k := 0) F3.out.1 rfl
            have t1 := cell_at (k := 1) F3.out.1 rfl
            have FF := FnW.fin F3.out LG.out (.int .i64 (tkN n T p)) (.int .i64 (0)) (.int .i64 (0))
            have FF : Hid _ := FF
            go_wp2
            refine bodyPost_ret (results_fun Tryd.results64 _ _ (w.heap.size + 1) _ _ _ rfl FF.out.2.1) rfl ?_
            rw [HFP.out]
            exact ⟨rfl, FF.out.1, FF.out.2.2⟩
        · rw [if_neg (fun q => k4 q.1)] at hX
          have HFP : Hid (funP n T p = _) := EX.out.symm.trans hX
          clear hX EX
          have n46 : (tkN n T (p + 1) == 46) = false := by simpa using k4
          have x0 := cell_at (k := 0) F2.out.2.2.1 rfl
          have x1 := cell_at (k := 1) F2.out.2.2.1 rfl
          have f0 := cell_at (k := 0) F2.out.2.2.2.1 rfl
          have f1 := cell_at (k := 1) F2.out.2.2.2.1 rfl
          have f2 := cell_at (k := 2) F2.out.2.2.2.1 rfl
          have g0 := free_at F2.out.2.2.2.1 0
          have g1 := free_at F2.out.2.2.2.1 1
          have g2 := free_at F2.out.2.2.2.1 2
          have t0 := cell_at (k := 0) F2.out.1 rfl
          have t1 := cell_at (k := 1) F2.out.1 rfl
          rw [k1] at t0
          have FF := FnW.fin F2.out LG.out (.int .i64 (tkN n T p)) (.int .i64 (0)) (.int .i64 (0))
          have FF : Hid _ := FF
          go_wp2
          refine bodyPost_ret (results_fun Tryd.results64 _ _ (w.heap.size + 1) _ _ _ rfl FF.out.2.1) rfl ?_
          rw [HFP.out]
          exact ⟨rfl, FF.out.1, FF.out.2.2⟩
  · rw [if_pos k1] at hX
    have HFP : Hid (funP n T p = _) := EX.out.symm.trans hX
    clear hX EX
    have n1 : (tkK n T (p + 1) != 3) = true := by simpa using k1
    have x0 := cell_at (k := 0) F2.out.2.2.1 rfl
    have x1 := cell_at (k := 1) F2.out.2.2.1 rfl
    have f0 := cell_at (k := 0) F2.out.2.2.2.1 rfl
    have f1 := cell_at (k := 1) F2.out.2.2.2.1 rfl
    have f2 := cell_at (k := 2) F2.out.2.2.2.1 rfl
    have g0 := free_at F2.out.2.2.2.1 0
    have g1 := free_at F2.out.2.2.2.1 1
    have g2 := free_at F2.out.2.2.2.1 2
    have t0 := cell_at (k := 0) F2.out.1 rfl
    have t1 := cell_at (k := 1) F2.out.1 rfl
    have FF := FnW.fin F2.out LG.out (.int .i64 (tkN n T p)) (.int .i64 (0)) (.int .i64 (0))
    have FF : Hid _ := FF
    go_wp2
    refine bodyPost_ret (results_fun Tryd.results64 _ _ (w.heap.size + 1) _ _ _ rfl FF.out.2.1) rfl ?_
    rw [HFP.out]
    exact ⟨rfl, FF.out.1, FF.out.2.2⟩
end Go.Proofs.YtnebjnglcfebeaaDoor
