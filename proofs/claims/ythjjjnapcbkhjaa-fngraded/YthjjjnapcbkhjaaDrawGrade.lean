/-
  The draw of Grade's laws.
-/
import Derived.Test.YthjjjnapcbkhjaaDrawFill3
namespace Go.Proofs.Ythjjjnapcbkhjaa
open Go.RowKit
set_option linter.unusedVariables false
set_option linter.unusedSimpArgs false
set_option maxRecDepth 20000 in
set_option maxHeartbeats 1000000 in
/-- DrawGrade. -/
theorem drawGrade_spec {w : World} {a : Option Addr} {len cap : Nat} (hs : Src w.heap.size w a len) (hb20 : len ≤ 1048576) :
    Calls Try.prog 15 #[.slice a len cap] w fun e w' => ∃ v s d, e = .returned v ∧ Arr w.heap.size w'.heap.size w' v s d ∧ s.length ≤ 4 ∧ d.length ≤ 301 ∧ Below w.heap.size w w' := by
  have HS : Hid (Src (w.alloc (.cells #[.slice none 0 0, .slice none 0 0] 26)).heap.size (w.alloc (.cells #[.slice none 0 0, .slice none 0 0] 26)) a len) := srcKeep hs (bAlloc (Below.refl _ _) _)
  have HR0 : Hid ((w.alloc (.cells #[.slice none 0 0, .slice none 0 0] 26)).heap[w.heap.size]? = some (.cells #[.slice none 0 0, .slice none 0 0] 26 (0, 0))) := heap_alloc_new w _
  have HB0 : Hid (Below w.heap.size w (w.alloc (.cells #[.slice none 0 0, .slice none 0 0] 26))) := bAlloc (Below.refl _ _) _
  clear hs
  go_enter Try.func15, Try.ntmps15
  go_wp2_with fail
  refine (new_spec HS.out hb20).mono ?_
  rintro e w1 ⟨g, rfl, hb, hd⟩
  have HB1 : Hid (Below w.heap.size w w1) := HB0.out.trans (hb.mono (by simp))
  have HR1 : Hid (w1.heap[w.heap.size]? = some (.cells #[.slice none 0 0, .slice none 0 0] 26 (0, 0))) := (hb.block w.heap.size (by simp)).trans HR0.out
  have HD1 : Hid (DrawOk (w.alloc (.cells #[.slice none 0 0, .slice none 0 0] 26)).heap.size g w1) := hd
  have hg0 : w.heap.size < g := by have := hd.1; simp at this; omega
  have hg1 := hd.lt
  have S1 := lt_of_heapA HR1.out
  clear hb hd
  go_wp2_with fail
  refine (once_spec HD1.out 6 (by decide) (by decide)).mono ?_
  rintro e w3 ⟨bo, rfl, hb, hd⟩
  have B3 : Hid (But g w1 w3) := hb
  have D3 : Hid (DrawOk (w.alloc (.cells #[.slice none 0 0, .slice none 0 0] 26)).heap.size g w3) := hd
  have S3 := hb.size
  clear hb hd
  cases bo
  · go_wp2_with fail
    refine (below_small D3.out 12 (by decide) (by decide)).mono ?_
    rintro e w5 ⟨z, z0, z12, rfl, hb, hd⟩
    have B5 : Hid (But g w1 w5) := B3.out.trans hb
    have D5 : Hid (DrawOk (w.alloc (.cells #[.slice none 0 0, .slice none 0 0] 26)).heap.size g w5) := hd
    have S5 := B5.out.size
    clear hb hd
    go_wp2_with fail
    generalize hW : w5.alloc (.cells #[.int .i64 z] 3) = W6
    have B6 : Hid (But g w1 W6) := by rw [← hW]; exact B5.out.alloc _
    have D6 : Hid (DrawOk (w.alloc (.cells #[.slice none 0 0, .slice none 0 0] 26)).heap.size g W6) := by rw [← hW]; exact D5.out.alloc _
    have NP : Hid (Piece (g + 1) W6.heap.size W6 (.slice (some ⟨w5.heap.size, 0, none⟩) 1 1) [z]) := by
      rw [← hW]
      exact OwnInts.piece (ownInts_new w5 [z]) (by omega) (by simp) _
    have S6 := B6.out.size
    clear hW
    refine (fill_draw D6.out NP.out (by simp)).mono ?_
    rintro r w2 ⟨x', y', d, M, rfl, ⟨hM1, hM2⟩, hp, hn, hl3, hb6, hd⟩
    obtain ⟨s, hss⟩ : ∃ s, s = [z] := ⟨_, rfl⟩
    rw [← hss] at hp
    have hls : s.length ≤ 4 := by rw [hss]; simp
    have hld : d.length ≤ 301 := by omega
    have hb : But g w1 w2 := B6.out.trans hb6
    have hA : Arr w1.heap.size w2.heap.size w2 (.agg #[x', y']) s d := ⟨_, _, rfl, hp.mono (by omega) hM2, hn.piece.mono (by omega) (Nat.le_refl _), hp.apart hn.piece (.inl (Nat.le_refl _))⟩
    clear hss hp hn
    obtain ⟨x, y, ev, px, py, ap⟩ := hA
    cases ev
    obtain ⟨xa, xc, hx, _⟩ := px.ints
    obtain ⟨ya, yc, hy, _⟩ := py.ints
    subst hx hy
    have hR2 : w2.heap[w.heap.size]? = some (.cells #[.slice none 0 0, .slice none 0 0] 26 (0, 0)) := (hb.block w.heap.size S1 (by omega)).trans HR1.out
    have HB2 : Hid (Below w.heap.size w w2) := HB1.out.trans (hb.below (by omega) HB1.out.size)
    have HR : Hid (((w2.setCell ⟨w.heap.size, 0, none⟩ (.slice xa s.length xc)).setCell ⟨w.heap.size, 1, none⟩ (.slice ya d.length yc)).heap[w.heap.size]? = some (.cells #[.slice xa s.length xc, .slice ya d.length yc] 26 (0, 0))) := arr_stored hR2
    have HA : Hid (Arr (w.heap.size + 1) w2.heap.size w2 (.agg #[.slice xa s.length xc, .slice ya d.length yc]) s d) := ⟨_, _, rfl, px.mono (by omega) (Nat.le_refl _), py.mono (by omega) (Nat.le_refl _), ap⟩
    have k0 : w2.cell? ⟨w.heap.size, 0, none⟩ = some (.slice none 0 0) := cell_at hR2 rfl
    have k1 : w2.cell? ⟨w.heap.size, 1, none⟩ = some (.slice none 0 0) := cell_at hR2 rfl
    have f0 : w2.frozen? ⟨w.heap.size, 0, none⟩ = false := free_at hR2 0
    have f1 : w2.frozen? ⟨w.heap.size, 1, none⟩ = false := free_at hR2 1
    clear hb hd px py ap hR2
    go_wp2_with fail
    refine bodyPost_ret (v := .agg #[_, _]) (results_arr rfl _ _ w.heap.size _ _ rfl HR.out) rfl ?_
    refine ⟨_, s, d, rfl, ?_, hls, hld, below_setCell (below_setCell HB2.out (Nat.le_refl _) _ _) (Nat.le_refl _) _ _⟩
    exact ((HA.out.setCell (Nat.lt_succ_self _) _ _).setCell (Nat.lt_succ_self _) _ _).mono (by omega) (by simp [size_setCell])
  · go_wp2_with fail
    refine (draw_draw D3.out).mono ?_
    rintro e w2 ⟨v, s, d, rfl, hA, hls, hld, hb3, hd⟩
    have hb : But g w1 w2 := B3.out.trans hb3
    obtain ⟨x, y, rfl, px, py, ap⟩ := hA
    obtain ⟨xa, xc, hx, _⟩ := px.ints
    obtain ⟨ya, yc, hy, _⟩ := py.ints
    subst hx hy
    have hR2 : w2.heap[w.heap.size]? = some (.cells #[.slice none 0 0, .slice none 0 0] 26 (0, 0)) := (hb.block w.heap.size S1 (by omega)).trans HR1.out
    have HB2 : Hid (Below w.heap.size w w2) := HB1.out.trans (hb.below (by omega) HB1.out.size)
    have HR : Hid (((w2.setCell ⟨w.heap.size, 0, none⟩ (.slice xa s.length xc)).setCell ⟨w.heap.size, 1, none⟩ (.slice ya d.length yc)).heap[w.heap.size]? = some (.cells #[.slice xa s.length xc, .slice ya d.length yc] 26 (0, 0))) := arr_stored hR2
    have HA : Hid (Arr (w.heap.size + 1) w2.heap.size w2 (.agg #[.slice xa s.length xc, .slice ya d.length yc]) s d) := ⟨_, _, rfl, px.mono (by omega) (Nat.le_refl _), py.mono (by omega) (Nat.le_refl _), ap⟩
    have k0 : w2.cell? ⟨w.heap.size, 0, none⟩ = some (.slice none 0 0) := cell_at hR2 rfl
    have k1 : w2.cell? ⟨w.heap.size, 1, none⟩ = some (.slice none 0 0) := cell_at hR2 rfl
    have f0 : w2.frozen? ⟨w.heap.size, 0, none⟩ = false := free_at hR2 0
    have f1 : w2.frozen? ⟨w.heap.size, 1, none⟩ = false := free_at hR2 1
    clear hb hd px py ap hR2
    go_wp2_with fail
    refine bodyPost_ret (v := .agg #[_, _]) (results_arr rfl _ _ w.heap.size _ _ rfl HR.out) rfl ?_
    refine ⟨_, s, d, rfl, ?_, hls, hld, below_setCell (below_setCell HB2.out (Nat.le_refl _) _ _) (Nat.le_refl _) _ _⟩
    exact ((HA.out.setCell (Nat.lt_succ_self _) _ _).setCell (Nat.lt_succ_self _) _ _).mono (by omega) (by simp [size_setCell])
end Go.Proofs.Ythjjjnapcbkhjaa
