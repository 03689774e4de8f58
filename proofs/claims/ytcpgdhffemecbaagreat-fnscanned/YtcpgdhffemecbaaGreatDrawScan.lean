/-
  The draws of Reduce's and Scan's laws: a sign and an array, whatever they are.
-/
import Derived.Test.YtcpgdhffemecbaaGreatDrawFill3
namespace Go.Proofs.YtcpgdhffemecbaaGreat
open Go.RowKit
set_option linter.unusedVariables false
set_option linter.unusedSimpArgs false
/-- A result in a slot, and an array in a cell behind it. -/
theorem results_tmp_arrS {fn : Func} {t : Tmp} {p : Tmp} (h : fn.results = #[.tmp t, .cell p 26]) (tmps : Array Value) (w : World) (g : Nat) (x y : Value) (hp : tmps.getD p undef = .pointer (some ⟨g, 0, none⟩))
    (hg : w.heap[g]? = some (.cells #[x, y] 26 (0, 0))) : (results fn tmps).run Tryz.prog w = .ok (.tuple #[tmps.getD t undef, .agg #[x, y]]) w := by
  have e : (asAddr (.pointer (some ⟨g, 0, none⟩))).run Tryz.prog w = .ok ⟨g, 0, none⟩ w := by simp [asAddr]
  have l := arr_loaded hg
  have hp' : tmps[p]?.getD undef = .pointer (some ⟨g, 0, none⟩) := by simpa using hp
  simp [results, h, hp', e, l, Sem.run_bind, Result.andThen]
set_option maxRecDepth 20000 in
set_option maxHeartbeats 2000000 in
/-- DrawScan. -/
theorem drawScan_spec {w : World} {a : Option Addr} {len cap : Nat} (hs : Src w.heap.size w a len) (hb20 : len ≤ 1048576) :
    Calls Tryz.prog 6 #[.slice a len cap] w fun e w' => ∃ sg v s d, e = .returned (.tuple #[.int .i64 sg, v]) ∧ Arr w.heap.size w'.heap.size w' v s d ∧ s.length ≤ 4 ∧ d.length ≤ 301 ∧ Below w.heap.size w w' := by
  have HS : Hid (Src (w.alloc (.cells #[.slice none 0 0, .slice none 0 0] 26)).heap.size (w.alloc (.cells #[.slice none 0 0, .slice none 0 0] 26)) a len) := srcKeep hs (bAlloc (Below.refl _ _) _)
  have HR0 : Hid ((w.alloc (.cells #[.slice none 0 0, .slice none 0 0] 26)).heap[w.heap.size]? = some (.cells #[.slice none 0 0, .slice none 0 0] 26 (0, 0))) := heap_alloc_new w _
  have HB0 : Hid (Below w.heap.size w (w.alloc (.cells #[.slice none 0 0, .slice none 0 0] 26))) := bAlloc (Below.refl _ _) _
  clear hs
  go_enter Tryz.func6, Tryz.ntmps6
  go_wp2_with fail
  refine (new_spec HS.out hb20).mono ?_
  rintro e wa ⟨g, rfl, hb, hd⟩
  have HBa : Hid (Below w.heap.size w wa) := HB0.out.trans (hb.mono (by simp))
  have HRa : Hid (wa.heap[w.heap.size]? = some (.cells #[.slice none 0 0, .slice none 0 0] 26 (0, 0))) := (hb.block w.heap.size (by simp)).trans HR0.out
  have HDa : Hid (DrawOk (w.alloc (.cells #[.slice none 0 0, .slice none 0 0] 26)).heap.size g wa) := hd
  have hg0 : w.heap.size < g := by have := hd.1; simp at this; omega
  have Sa := lt_of_heapA HRa.out
  clear hb hd
  go_wp2_with fail
  refine (sign_spec HDa.out).mono ?_
  rintro e w1 ⟨sg, rfl, hb, hd⟩
  have HB1 : Hid (Below w.heap.size w w1) := HBa.out.trans (hb.below (by omega) HBa.out.size)
  have HR1 : Hid (w1.heap[w.heap.size]? = some (.cells #[.slice none 0 0, .slice none 0 0] 26 (0, 0))) := (hb.block w.heap.size Sa (by omega)).trans HRa.out
  have HD1 : Hid (DrawOk (w.alloc (.cells #[.slice none 0 0, .slice none 0 0] 26)).heap.size g w1) := hd
  have hg1 := hd.lt
  have S1 := lt_of_heapA HR1.out
  clear hb hd
  go_wp2_with fail
  refine (draw_draw HD1.out).mono ?_
  rintro e w2 ⟨v, s, d, rfl, hA, hls, hld, hb, hd⟩
  obtain ⟨x, y, rfl, px, py, ap⟩ := hA
  obtain ⟨xa, xc, hx, _⟩ := px.ints
  obtain ⟨ya, yc, hy, _⟩ := py.ints
  subst hx hy
  have hR2 : w2.heap[w.heap.size]? = some (.cells #[.slice none 0 0, .slice none 0 0] 26 (0, 0)) := (hb.block w.heap.size S1 (by omega)).trans HR1.out
  have HB2 : Hid (Below w.heap.size w w2) := HB1.out.trans (hb.below (by omega) HB1.out.size)
  have HR : Hid (((w2.setCell ⟨w.heap.size, 0, none⟩ (.slice xa s.length xc)).setCell ⟨w.heap.size, 1, none⟩ (.slice ya d.length yc)).heap[w.heap.size]? = some (.cells #[.slice xa s.length xc, .slice ya d.length yc] 26 (0, 0))) := arr_stored hR2
  have HA : Hid (Arr (w.heap.size + 1) w2.heap.size w2 (.agg #[.slice xa s.length xc, .slice ya d.length yc]) s d) := ⟨_, _, rfl, px.mono (by omega) (Nat.le_refl _), py.mono (by omega) (Nat.le_refl _), ap⟩
  have k0 : w2.cell? ⟨w.heap.size, 0, none⟩ = some (.slice none 0 0) := cell_at hR2 rfl
  have k1 : w2.cell? ⟨w.heap.size, 1, none⟩ = some (.slice none 0 0) := cell_at hR2 rfl
  have f0 : w2.frozen? ⟨w.heap.size, 0, none⟩ = false := free_at hR2 0
  have f1 : w2.frozen? ⟨w.heap.size, 1, none⟩ = false := free_at hR2 1
  clear hb hd px py ap hR2
  go_wp2_with fail
  refine bodyPost_ret (results_tmp_arrS rfl _ _ w.heap.size _ _ rfl HR.out) rfl ?_
  refine ⟨_, _, s, d, rfl, ?_, hls, hld, below_setCell (below_setCell HB2.out (Nat.le_refl _) _ _) (Nat.le_refl _) _ _⟩
  exact ((HA.out.setCell (Nat.lt_succ_self _) _ _).setCell (Nat.lt_succ_self _) _ _).mono (by omega) (by simp [size_setCell])
end Go.Proofs.YtcpgdhffemecbaaGreat
