/-
  The draw of one number as an array, right or not.
-/
import Derived.Test.YthjjjnapcbkhjaaDrawTwoA
import Derived.Test.YthjjjnapcbkhjaaSpecArr2
namespace Go.Proofs.Ythjjjnapcbkhjaa
open Go.RowKit
set_option linter.unusedVariables false
set_option linter.unusedSimpArgs false
/-- How an array that a call has left goes into the answer's cell. -/
theorem drawn_end {B g : Nat} {w w1 W : World} {x y : Value} {s d : List Int} (hR : w1.heap[w.heap.size]? = some (.cells #[.slice none 0 0, .slice none 0 0] 26 (0, 0))) (hg : g < w.heap.size) (h1 : But g w w1) (hA : Arr w1.heap.size W.heap.size W (.agg #[x, y]) s d) (hb : But g w1 W) (hd : DrawOk B g W) :
    W.heap[w.heap.size]? = some (.cells #[.slice none 0 0, .slice none 0 0] 26 (0, 0)) ∧
    ((W.setCell ⟨w.heap.size, 0, none⟩ x).setCell ⟨w.heap.size, 1, none⟩ y).heap[w.heap.size]? = some (.cells #[x, y] 26 (0, 0)) ∧
    Arr w.heap.size ((W.setCell ⟨w.heap.size, 0, none⟩ x).setCell ⟨w.heap.size, 1, none⟩ y).heap.size ((W.setCell ⟨w.heap.size, 0, none⟩ x).setCell ⟨w.heap.size, 1, none⟩ y) (.agg #[x, y]) s d ∧
    But g w ((W.setCell ⟨w.heap.size, 0, none⟩ x).setCell ⟨w.heap.size, 1, none⟩ y) ∧ DrawOk B g ((W.setCell ⟨w.heap.size, 0, none⟩ x).setCell ⟨w.heap.size, 1, none⟩ y) := by
  have S1 := lt_of_heapA hR
  have hR2 : W.heap[w.heap.size]? = some (.cells #[.slice none 0 0, .slice none 0 0] 26 (0, 0)) := (hb.block w.heap.size S1 (by omega)).trans hR
  obtain ⟨x', y', e, px, py, ap⟩ := hA
  cases e
  exact ⟨hR2, draw_end hR2 hg (px.mono (by omega) (Nat.le_refl _)) (py.mono (by omega) (Nat.le_refl _)) ap (h1.trans hb) hd⟩
set_option maxRecDepth 20000 in
set_option maxHeartbeats 2000000 in
/-- l5DrawN. -/
theorem drawN_draw {B g : Nat} {w : World} (hd : DrawOk B g w) (n : Int) :
    Calls Try.prog 36 #[.pointer (some ⟨g, 0, none⟩), .int .i64 n] w fun e w' => ∃ v s d, e = .returned v ∧ Arr w.heap.size w'.heap.size w' v s d ∧ s.length ≤ 4 ∧ d.length ≤ 301 ∧ But g w w' ∧ DrawOk B g w' := by
  have hg := hd.lt
  have HD : Hid (DrawOk B g (w.alloc (.cells #[.slice none 0 0, .slice none 0 0] 26))) := hd.alloc _
  have HR0 : Hid ((w.alloc (.cells #[.slice none 0 0, .slice none 0 0] 26)).heap[w.heap.size]? = some (.cells #[.slice none 0 0, .slice none 0 0] 26 (0, 0))) := heap_alloc_new w _
  have HB0 : Hid (But g w (w.alloc (.cells #[.slice none 0 0, .slice none 0 0] 26))) := (But.refl g w).alloc _
  clear hd
  go_enter Try.func36, Try.ntmps36
  go_wp2_with fail
  refine (below_small HD.out 9 (by decide) (by decide)).mono ?_
  rintro e w1 ⟨z, z0, z9, rfl, hb, hd⟩
  have HB1 : Hid (But g w w1) := HB0.out.trans hb
  have HR1 : Hid (w1.heap[w.heap.size]? = some (.cells #[.slice none 0 0, .slice none 0 0] 26 (0, 0))) := (hb.block w.heap.size (by simp) (by omega)).trans HR0.out
  have HD1 : Hid (DrawOk B g w1) := hd
  have S1 : Hid (w.heap.size < w1.heap.size) := lt_of_heapA HR1.out
  clear hb hd HB0 HR0 HD
  have FIN : Hid (∀ (W : World) (x y : Value) (s d : List Int), Arr w1.heap.size W.heap.size W (.agg #[x, y]) s d → But g w1 W → DrawOk B g W → _) := fun W x y s d h1 h2 h3 => drawn_end HR1.out hg HB1.out h1 h2 h3
  by_cases m0 : z = 0
  · subst m0
    go_wp2_with fail
    refine (draw_draw HD1.out).mono ?_
    rintro e w2 ⟨v, s, d, rfl, hA, hls, hld, hb, hd⟩
    obtain ⟨a1, c1, b1, o1, rfl, _, _, _, _⟩ := hA.arrI
    obtain ⟨hR2, q1, q2, q3, q4⟩ := FIN.out w2 _ _ s d hA hb hd
    have Q : Hid (_ ∧ _ ∧ _ ∧ _) := ⟨q1, q2, q3, q4⟩
    have k0 : w2.cell? ⟨w.heap.size, 0, none⟩ = some (.slice none 0 0) := cell_at hR2 rfl
    have k1 : w2.cell? ⟨w.heap.size, 1, none⟩ = some (.slice none 0 0) := cell_at hR2 rfl
    have f0 : w2.frozen? ⟨w.heap.size, 0, none⟩ = false := free_at hR2 0
    have f1 : w2.frozen? ⟨w.heap.size, 1, none⟩ = false := free_at hR2 1
    clear hA hb hd q1 q2 q3 q4 hR2
    go_wp2_with fail
    exact bodyPost_ret (v := .agg #[_, _]) (results_arr rfl _ _ w.heap.size _ _ rfl Q.out.1) rfl ⟨_, s, d, rfl, Q.out.2.1, hls, hld, Q.out.2.2.1, Q.out.2.2.2⟩
  by_cases m1 : z = 1
  · subst m1
    have HV : Hid (∀ (W : World) (p : Nat), OwnInts W p [n] → Calls Try.prog 40 #[.slice (some ⟨p, 0, none⟩) 1 1] W fun e w' => ∃ v, e = .returned v ∧ Arr W.heap.size w'.heap.size w' v [1] [n] ∧ Below W.heap.size W w') := fun W p h => vector_spec (l := [n]) 1 (OwnInts.ints h) (by simp)
    go_wp2_with fail
    refine (HV.out _ _ (heap_alloc_new w1 _)).mono ?_
    rintro e w2 ⟨v, rfl, hA, hb⟩
    obtain ⟨a1, c1, b1, o1, rfl, _, _, _, _⟩ := hA.arrI
    have hb1 : Below w1.heap.size w1 w2 := bTrans (bAlloc (Below.refl _ _) _) hb
    obtain ⟨hR2, q1, q2, q3, q4⟩ := FIN.out w2 _ _ _ _ (hA.mono (by simp) (Nat.le_refl _)) (But.of hb1) (HD1.out.but (But.of (g := w1.heap.size) hb1) (by have := S1.out; omega))
    have Q : Hid (_ ∧ _ ∧ _ ∧ _) := ⟨q1, q2, q3, q4⟩
    have k0 : w2.cell? ⟨w.heap.size, 0, none⟩ = some (.slice none 0 0) := cell_at hR2 rfl
    have k1 : w2.cell? ⟨w.heap.size, 1, none⟩ = some (.slice none 0 0) := cell_at hR2 rfl
    have f0 : w2.frozen? ⟨w.heap.size, 0, none⟩ = false := free_at hR2 0
    have f1 : w2.frozen? ⟨w.heap.size, 1, none⟩ = false := free_at hR2 1
    clear hA hb hb1 q1 q2 q3 q4 hR2
    go_wp2_with fail
    exact bodyPost_ret (v := .agg #[_, _]) (results_arr rfl _ _ w.heap.size _ _ rfl Q.out.1) rfl ⟨_, _, _, rfl, Q.out.2.1, by simp, by simp, Q.out.2.2.1, Q.out.2.2.2⟩
  · go_wp2_with fail
    refine (scalar_spec _ _).mono ?_
    rintro e w2 ⟨v, rfl, hA, hb⟩
    obtain ⟨a1, c1, b1, o1, rfl, _, _, _, _⟩ := hA.arrI
    obtain ⟨hR2, q1, q2, q3, q4⟩ := FIN.out w2 _ _ _ _ hA (But.of hb) (HD1.out.but (But.of (g := w1.heap.size) hb) (by have := S1.out; omega))
    have Q : Hid (_ ∧ _ ∧ _ ∧ _) := ⟨q1, q2, q3, q4⟩
    have k0 : w2.cell? ⟨w.heap.size, 0, none⟩ = some (.slice none 0 0) := cell_at hR2 rfl
    have k1 : w2.cell? ⟨w.heap.size, 1, none⟩ = some (.slice none 0 0) := cell_at hR2 rfl
    have f0 : w2.frozen? ⟨w.heap.size, 0, none⟩ = false := free_at hR2 0
    have f1 : w2.frozen? ⟨w.heap.size, 1, none⟩ = false := free_at hR2 1
    clear hA hb q1 q2 q3 q4 hR2
    go_wp2_with fail
    exact bodyPost_ret (v := .agg #[_, _]) (results_arr rfl _ _ w.heap.size _ _ rfl Q.out.1) rfl ⟨_, _, _, rfl, Q.out.2.1, by simp, by simp, Q.out.2.2.1, Q.out.2.2.2⟩
end Go.Proofs.Ythjjjnapcbkhjaa
