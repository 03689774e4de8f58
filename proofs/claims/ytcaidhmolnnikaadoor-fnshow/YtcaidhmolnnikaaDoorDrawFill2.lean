/-
  Walks: l1Below at any number, l3DrawRight.
-/
import Derived.Test.YtcaidhmolnnikaaDoorDrawFill
import Derived.Test.YtcaidhmolnnikaaDoorDrawShape
namespace Go.Proofs.YtcaidhmolnnikaaDoor
open Go.RowKit
set_option linter.unusedVariables false
set_option linter.unusedSimpArgs false
set_option maxHeartbeats 2000000 in
/-- A number from 0 up to below n is drawn. -/
theorem below_any {B g : Nat} {w : World} (hd : DrawOk B g w) (n : Int) (n0 : 0 < n) :
    Calls Tryd.prog 59 #[.pointer (some ⟨g, 0, none⟩), .int .i64 n] w fun e w' => ∃ x : Int, 0 ≤ x ∧ x < n ∧ e = .returned (.int .i64 x) ∧ But g w w' ∧ DrawOk B g w' := by
  by_cases n1 : n ≤ 256
  · exact below_small hd n n0 n1
  have HD : Hid (DrawOk B g w) := hd
  clear hd
  have hn : ¬ n ≤ 0 := by omega
  go_enter Tryd.func59, Tryd.ntmps59
  go_wp2_with fail
  refine (byte_spec HD.out).mono ?_
  rintro e w1 ⟨x, x1, x2, rfl, hb, hd'⟩
  have HB1 : Hid (But g w w1) := hb
  have HD1 : Hid (DrawOk B g w1) := hd'
  clear hb hd'
  go_wp2_with fail
  refine (byte_spec HD1.out).mono ?_
  rintro e w2 ⟨y, y1, y2, rfl, hb, hd'⟩
  have HB2 : Hid (But g w w2) := HB1.out.trans hb
  have HD2 : Hid (DrawOk B g w2) := hd'
  clear hb hd'
  go_wp2_with fail
  refine (byte_spec HD2.out).mono ?_
  rintro e w3 ⟨z, z1, z2, rfl, hb, hd'⟩
  have HB3 : Hid (But g w w3) := HB2.out.trans hb
  have HD3 : Hid (DrawOk B g w3) := hd'
  clear hb hd'
  go_wp2_with fail
  refine (byte_spec HD3.out).mono ?_
  rintro e w4 ⟨u, u1, u2, rfl, hb, hd'⟩
  have HB4 : Hid (But g w w4) := HB3.out.trans hb
  have HD4 : Hid (DrawOk B g w4) := hd'
  clear hb hd'
  go_wp2
  go_ret
  exact ⟨_, Int.emod_nonneg _ (by omega), Int.emod_lt_of_pos _ n0, rfl, HB4.out, HD4.out⟩
set_option maxRecDepth 20000 in
set_option maxHeartbeats 2000000 in
/-- l3DrawRight. -/
theorem rightA_draw {B g : Nat} {w : World} (hd : DrawOk B g w) :
    Calls Tryd.prog 68 #[.pointer (some ⟨g, 0, none⟩)] w fun e w' => ∃ x y s d M, e = .returned (.agg #[x, y]) ∧ (w.heap.size < M ∧ M ≤ w'.heap.size) ∧ Piece (w.heap.size + 1) M w' x s ∧ NewInts M w' y d ∧ s.length ≤ 4 ∧ d.length ≤ 300 ∧ But g w w' ∧ DrawOk B g w' := by
  have hg := hd.lt
  have HD : Hid (DrawOk B g (w.alloc (.cells #[.slice none 0 0, .slice none 0 0] 27))) := hd.alloc _
  have HR0 : Hid ((w.alloc (.cells #[.slice none 0 0, .slice none 0 0] 27)).heap[w.heap.size]? = some (.cells #[.slice none 0 0, .slice none 0 0] 27 (0, 0))) := heap_alloc_new w _
  have HB0 : Hid (But g w (w.alloc (.cells #[.slice none 0 0, .slice none 0 0] 27))) := (But.refl g w).alloc _
  clear hd
  go_enter Tryd.func68, Tryd.ntmps68
  go_wp2_with fail
  refine (right_spec HD.out).mono ?_
  rintro e w1 ⟨v, s, rfl, ⟨hl, _⟩, hN, hb, hd'⟩
  have hsz := hb.size
  simp at hsz
  have HR1 : Hid (w1.heap[w.heap.size]? = some (.cells #[.slice none 0 0, .slice none 0 0] 27 (0, 0))) := (hb.block w.heap.size (by simp) (by omega)).trans HR0.out
  have HB1 : Hid (But g w w1) := HB0.out.trans hb
  have HD1 : Hid (DrawOk B g w1) := hd'
  have HP : Hid (Piece (g + 1) w1.heap.size w1 v s) := hN.piece.mono (by simp; omega) (Nat.le_refl _)
  clear hb hd' hN
  go_wp2_with fail
  refine (fill_draw HD1.out HP.out (by omega)).mono ?_
  rintro e w2 ⟨x, y, d, M, rfl, ⟨hM, hM2⟩, hP, hN, hdl, hb, hd'⟩
  have hR : w2.heap[w.heap.size]? = some (.cells #[.slice none 0 0, .slice none 0 0] 27 (0, 0)) := (hb.block w.heap.size (by omega) (by omega)).trans HR1.out
  have k0 : w2.cell? ⟨w.heap.size, 0, none⟩ = some (.slice none 0 0) := cell_at hR rfl
  have k1 : w2.cell? ⟨w.heap.size, 1, none⟩ = some (.slice none 0 0) := cell_at hR rfl
  have f0 : w2.frozen? ⟨w.heap.size, 0, none⟩ = false := free_at hR 0
  have f1 : w2.frozen? ⟨w.heap.size, 1, none⟩ = false := free_at hR 1
  have HR : Hid (((w2.setCell ⟨w.heap.size, 0, none⟩ x).setCell ⟨w.heap.size, 1, none⟩ y).heap[w.heap.size]? = some (.cells #[x, y] 27 (0, 0))) := arr_stored hR
  have HP2 : Hid (Piece w1.heap.size M w2 x s) := hP
  have HN2 : Hid (NewInts M w2 y d) := hN
  have HB2 : Hid (But g w w2) := HB1.out.trans hb
  have HD2 : Hid (DrawOk B g w2) := hd'
  obtain ⟨xa, xc, hx, _⟩ := hP.ints
  obtain ⟨ya, yc, hy, _⟩ := hN.ints
  subst hx hy
  clear hR hP hN hb hd'
  go_wp2_with fail
  refine bodyPost_ret (v := .agg #[_, _]) (results_arr rfl _ _ w.heap.size _ _ rfl HR.out) rfl ?_
  have C1 : ∀ x y, But w.heap.size w2 ((w2.setCell ⟨w.heap.size, 0, none⟩ x).setCell ⟨w.heap.size, 1, none⟩ y) := fun x y => ((But.refl _ _).setCell 0 _).setCell 1 _
  refine ⟨_, _, s, d, M, rfl, ⟨by omega, by simp [size_setCell]; omega⟩, ?_, ?_, by omega, by omega, ?_, ?_⟩
  · exact (HP2.out.but (C1 _ _) (.inl (by omega))).mono (by omega) (Nat.le_refl _)
  · exact HN2.out.but (C1 _ _) (by omega)
  · exact (HB2.out.setNew (Nat.le_refl _) 0 _).setNew (Nat.le_refl _) 1 _
  · exact HD2.out.but (C1 _ _) hg
end Go.Proofs.YtcaidhmolnnikaaDoor
