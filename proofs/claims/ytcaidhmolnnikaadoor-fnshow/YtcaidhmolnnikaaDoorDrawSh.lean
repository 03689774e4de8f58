/-
  Walks: the specification's draw of an array to show (DrawShow).
-/
import Derived.Test.YtcaidhmolnnikaaDoorDrawFill3
namespace Go.Proofs.YtcaidhmolnnikaaDoor
open Go.RowKit
set_option linter.unusedVariables false
set_option linter.unusedSimpArgs false
set_option maxRecDepth 20000 in
set_option maxHeartbeats 1000000 in
/-- DrawShow. -/
theorem drawShow_spec {w : World} {a : Option Addr} {len cap : Nat} (hs : Src w.heap.size w a len) (hb20 : len ≤ 1048576) :
    Calls Tryd.prog 14 #[.slice a len cap] w fun e w' => ∃ v s d, e = .returned v ∧ Arr w.heap.size w'.heap.size w' v s d ∧ s.length ≤ 4 ∧ d.length ≤ 301 ∧ Below w.heap.size w w' := by
  have HS : Hid (Src (w.alloc (.cells #[.slice none 0 0, .slice none 0 0] 27)).heap.size (w.alloc (.cells #[.slice none 0 0, .slice none 0 0] 27)) a len) := srcKeep hs (bAlloc (Below.refl _ _) _)
  have HR0 : Hid ((w.alloc (.cells #[.slice none 0 0, .slice none 0 0] 27)).heap[w.heap.size]? = some (.cells #[.slice none 0 0, .slice none 0 0] 27 (0, 0))) := heap_alloc_new w _
  have HB0 : Hid (Below w.heap.size w (w.alloc (.cells #[.slice none 0 0, .slice none 0 0] 27))) := bAlloc (Below.refl _ _) _
  clear hs
  go_enter Tryd.func14, Tryd.ntmps14
  go_wp2_with fail
  refine (new_spec HS.out hb20).mono ?_
  rintro e w1 ⟨g, rfl, hb, hd⟩
  have HB1 : Hid (Below w.heap.size w w1) := HB0.out.trans (hb.mono (by simp))
  have HR1 : Hid (w1.heap[w.heap.size]? = some (.cells #[.slice none 0 0, .slice none 0 0] 27 (0, 0))) := (hb.block w.heap.size (by simp)).trans HR0.out
  have HD1 : Hid (DrawOk (w.alloc (.cells #[.slice none 0 0, .slice none 0 0] 27)).heap.size g w1) := hd
  have hg0 : w.heap.size < g := by have := hd.1; simp at this; omega
  have hg1 := hd.lt
  have S1 := lt_of_heapA HR1.out
  clear hb hd
  go_wp2_with fail
  refine (draw_draw HD1.out).mono ?_
  rintro e w2 ⟨v, s, d, rfl, hA, hls, hld, hb, hd⟩
  obtain ⟨x, y, rfl, px, py, ap⟩ := hA
  obtain ⟨xa, xc, hx, _⟩ := px.ints
  obtain ⟨ya, yc, hy, _⟩ := py.ints
  subst hx hy
  have hR2 : w2.heap[w.heap.size]? = some (.cells #[.slice none 0 0, .slice none 0 0] 27 (0, 0)) := (hb.block w.heap.size S1 (by omega)).trans HR1.out
  have HB2 : Hid (Below w.heap.size w w2) := HB1.out.trans (hb.below (by omega) HB1.out.size)
  have HR : Hid (((w2.setCell ⟨w.heap.size, 0, none⟩ (.slice xa s.length xc)).setCell ⟨w.heap.size, 1, none⟩ (.slice ya d.length yc)).heap[w.heap.size]? = some (.cells #[.slice xa s.length xc, .slice ya d.length yc] 27 (0, 0))) := arr_stored hR2
  have HA : Hid (Arr (w.heap.size + 1) w2.heap.size w2 (.agg #[.slice xa s.length xc, .slice ya d.length yc]) s d) := ⟨_, _, rfl, px.mono (by omega) (Nat.le_refl _), py.mono (by omega) (Nat.le_refl _), ap⟩
  have k0 : w2.cell? ⟨w.heap.size, 0, none⟩ = some (.slice none 0 0) := cell_at hR2 rfl
  have k1 : w2.cell? ⟨w.heap.size, 1, none⟩ = some (.slice none 0 0) := cell_at hR2 rfl
  have f0 : w2.frozen? ⟨w.heap.size, 0, none⟩ = false := free_at hR2 0
  have f1 : w2.frozen? ⟨w.heap.size, 1, none⟩ = false := free_at hR2 1
  clear hb hd px py ap hR2
  go_wp2_with fail
  refine bodyPost_ret (v := .agg #[_, _]) (results_arr rfl _ _ w.heap.size _ _ rfl HR.out) rfl ?_
  refine ⟨_, s, d, rfl, ?_, hls, hld, below_setCell (below_setCell HB2.out (Nat.le_refl _) _ _) (Nat.le_refl _) _ _⟩
  exact ((HA.out.setCell (Nat.lt_succ_self _) _ _).setCell (Nat.lt_succ_self _) _ _).mono (by omega) (by simp [size_setCell])
end Go.Proofs.YtcaidhmolnnikaaDoor
