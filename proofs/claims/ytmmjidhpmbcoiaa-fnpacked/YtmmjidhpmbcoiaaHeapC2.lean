/-
  Walks: heaps copied, with the room of their cells.
-/
import Derived.Test.YtmmjidhpmbcoiaaHeapK2
namespace Go.Proofs.Ytmmjidhpmbcoiaa
open Go.RowKit
set_option linter.unusedVariables false
set_option linter.unusedSimpArgs false
set_option maxRecDepth 20000 in
set_option maxHeartbeats 4000000 in
/-- copiedList, of cells. -/
theorem copiedC_impl2 {w : World} {a : Option Addr} {n c : Nat} {E : Nat → Cel} (h : CsA w a n E) (hn : n ≤ 1048576) :
    Calls Try.prog 78 #[.slice a n c] w fun e w' => ∃ a', e = .returned (.slice a' n n) ∧ CPiece w.heap.size w'.heap.size w' (.slice a' n n) n E ∧ Below w.heap.size w w' := by
  obtain ⟨w1, r1, t1, s1, b1⟩ := make_cells n hn w
  obtain ⟨w2, r2, t2, b2⟩ := copy_cells (c := c) (h.keep b1) t1 3
  have F : Hid (CBlk w2 w.heap.size n E ∧ Below w.heap.size w w2) := ⟨t2, b1.trans (b2.below (Nat.le_refl _) (by omega))⟩
  clear h t1 s1 b1 t2 b2
  go_enter Try.func78, Try.ntmps78
  go_wp2
  go_ret
  exact ⟨_, rfl, ⟨_, _, rfl, Nat.le_refl _, .inr ⟨_, rfl, Nat.le_refl _, F.out.1.lt, F.out.1⟩⟩, F.out.2⟩
set_option maxRecDepth 20000 in
set_option maxHeartbeats 8000000 in
/-- l13Copy. -/
theorem heapCopy_spec2 {w : World} {v : Value} {W : List Int} {t : Int} {n : Nat} {E : Nat → Cel} (h : HI w v W t n E) (hW : W.length ≤ 1048576) (hn : n ≤ 1048576) :
    Calls Try.prog 54 #[v] w fun e w' => ∃ v', e = .returned v' ∧ HP w.heap.size w'.heap.size w' v' W t n E ∧ CapH w' v' n ∧ Below w.heap.size w w' := by
  obtain ⟨wa, wc, ca, cc, rfl, h1, h2, h3, h4⟩ := h
  have H1 : Hid (Ints w wa W) := h1
  have H1c : Hid (W.length ≤ wc) := h2
  have H3 : Hid (CsA w ca n E) := h3
  have HN : Hid (n ≤ 1048576) := hn
  have HW : Hid (W.length ≤ 1048576) := hW
  clear h1 h2 h3 h4 hW hn
  go_enter Try.func54, Try.ntmps54
  go_wp2
  generalize hV : (w.alloc (.cells #[.slice wa W.length wc, .int .i64 t, .slice ca n cc] 28)).alloc (.cells #[.slice none 0 0, .int .i64 0, .slice none 0 0] 28) = V
  have HBW : Hid (Below w.heap.size w V) := by rw [← hV]; exact bAlloc (bAlloc (Below.refl _ _) _) _
  have X : Hid (Box3 V w.heap.size (.slice wa W.length wc) (.int .i64 t) (.slice ca n cc) 28) := by rw [← hV]; exact (box3_new _ _ _ _ _).alloc _
  have Y : Hid (Box3 V (w.heap.size + 1) (.slice none 0 0) (.int .i64 0) (.slice none 0 0) 28) := by
    have := box3_new (w.alloc (.cells #[.slice wa W.length wc, .int .i64 t, .slice ca n cc] 28)) (.slice none 0 0) (.int .i64 0) (.slice none 0 0) 28
    show Box3 _ _ _ _ _ _
    rw [← hV]; simpa using this
  have LW : Hid (w.heap.size + 1 < V.heap.size) := Y.out.lt
  clear hV
  have w0 := X.out.c0
  have w1 := X.out.c1
  have w2 := X.out.c2
  have nw0 := World.new_ne V ⟨w.heap.size, 0, none⟩ w0
  have nw1 := World.new_ne V ⟨w.heap.size, 1, none⟩ w1
  have nw2 := World.new_ne V ⟨w.heap.size, 2, none⟩ w2
  go_region_held3 (fun w' => w'.cell? ⟨w.heap.size, 0, none⟩ = some (.slice wa W.length wc) ∧ w'.cell? ⟨w.heap.size, 1, none⟩ = some (.int .i64 t) ∧ w'.cell? ⟨w.heap.size, 2, none⟩ = some (.slice ca n cc))
    (first | exact ⟨y0, y1, y2⟩ | exact ⟨x0, x1, x2⟩ | exact ⟨w0, w1, w2⟩ | go_keep)
    (first
      | (refine step_append_newI (by rfl) (.tmp 3) (.tmp 5) (by rfl) _ _ _ _ W (by rfl) (by rfl) (H1.out.keep (bTrans HBW.out (by repeat first | exact (Below.refl _ _).drew | exact BX.out | exact Below.refl _ _ | refine bAlloc ?_ _ | refine Below.drew ?_))) HW.out ?_; intro ax cx wx hpx hbx; have BX : Hid (Below V.heap.size V wx) := bTrans (by repeat first | exact (Below.refl _ _).drew | exact BX.out | exact Below.refl _ _ | refine bAlloc ?_ _ | refine Below.drew ?_) hbx; have PX : Hid (Piece V.heap.size wx.heap.size wx (.slice ax W.length cx) W) := hpx.mono (sizeBelowH (w := V) (by repeat first | exact (Below.refl _ _).drew | exact BX.out | exact Below.refl _ _ | refine bAlloc ?_ _ | refine Below.drew ?_)) (Nat.le_refl _); have x0 := (X.out.keep BX.out).c0; have x1 := (X.out.keep BX.out).c1; have x2 := (X.out.keep BX.out).c2; have nx0 := World.new_ne wx ⟨w.heap.size, 0, none⟩ x0; have nx1 := World.new_ne wx ⟨w.heap.size, 1, none⟩ x1; have nx2 := World.new_ne wx ⟨w.heap.size, 2, none⟩ x2; clear hpx hbx)
      | (refine step_append_newC2 (by rfl) (.tmp 9) (.tmp 11) (by rfl) _ _ _ _ n E (by rfl) (by rfl) (H3.out.keep (bTrans HBW.out (by repeat first | exact (Below.refl _ _).drew | exact BX.out | exact Below.refl _ _ | refine bAlloc ?_ _ | refine Below.drew ?_))) HN.out ?_; intro ay cy wy hpy hcy hby; have CY : Hid (Cap wy ay n cy) := hcy; have BQ : Hid (Below wx.heap.size wx wy) := bTrans (by repeat first | exact Below.refl _ _ | refine bAlloc ?_ _ | refine Below.drew ?_) hby; have BY : Hid (Below V.heap.size V wy) := bTrans BX.out BQ.out; have PX2 : Hid (Piece V.heap.size wx.heap.size wy (.slice ax W.length cx) W) := PX.out.keep BQ.out; have PY : Hid (CPiece wx.heap.size wy.heap.size wy (.slice ay n cy) n E) := hpy.mono (sizeBelowH (w := wx) (by repeat first | exact Below.refl _ _ | refine bAlloc ?_ _ | refine Below.drew ?_)) (Nat.le_refl _); have S12 : Hid (wx.heap.size ≤ wy.heap.size) := BQ.out.size; have y0 := (X.out.keep BY.out).c0; have y1 := (X.out.keep BY.out).c1; have y2 := (X.out.keep BY.out).c2; have qy0 := (Y.out.keep BY.out).c0; have qy1 := (Y.out.keep BY.out).c1; have qy2 := (Y.out.keep BY.out).c2; have fy0 := (Y.out.keep BY.out).free 0; have fy1 := (Y.out.keep BY.out).free 1; have fy2 := (Y.out.keep BY.out).free 2; clear hpy hby))
  all_goals
    go_wp2
    generalize hZ : (((wy.setCell ⟨w.heap.size + 1, 0, none⟩ (.slice ax W.length cx)).setCell ⟨w.heap.size + 1, 1, none⟩ (.int .i64 t)).setCell ⟨w.heap.size + 1, 2, none⟩ (.slice ay n cy)) = wz
    have YZ : Box3 wz (w.heap.size + 1) (.slice ax W.length cx) (.int .i64 t) (.slice ay n cy) 28 := by rw [← hZ]; exact (((Y.out.keep BY.out).set0 _).set1 _).set2 _
    have WZ : Hid (Win (w.heap.size + 1) (w.heap.size + 1 + 1) wy wz) := by rw [← hZ]; exact (((win_setCell _ _ _ _).trans (win_setCell _ _ _ _)).trans (win_setCell _ _ _ _))
    have BZ : Hid (Below w.heap.size w wz) := by rw [← hZ]; exact below_setCell (below_setCell (below_setCell (bTrans HBW.out BY.out) (by omega) _ _) (by omega) _ _) (by omega) _ _
    have v0 := YZ.c0
    have v1 := YZ.c1
    have v2 := YZ.c2
    have HZ : Hid (_ = wz) := hZ
    clear hZ YZ
    refine bodyPost_ret (v := .agg #[.slice ax W.length cx, .int .i64 t, .slice ay n cy]) (by simp [results, Try.results54, go_sem, v0, v1, v2]) rfl ?_
    have S1 := LW.out
    have S2 := BX.out.size
    have S3 := S12.out
    have S4 := WZ.out.size
    exact ⟨_, rfl, ⟨_, _, wx.heap.size, rfl, by omega, by omega, (PX2.out.win WZ.out (.inr (by omega))).mono (by omega) (Nat.le_refl _), (PY.out.win WZ.out (.inr (by omega))).mono (Nat.le_refl _) S4⟩, ⟨_, _, _, _, rfl, by rw [← HZ.out]; exact ((CY.out.set _ _ _).set _ _ _).set _ _ _⟩, BZ.out⟩
set_option maxRecDepth 20000 in
set_option maxHeartbeats 8000000 in
/-- copied. -/
theorem heapCopy_impl2 {w : World} {v : Value} {W : List Int} {t : Int} {n : Nat} {E : Nat → Cel} (h : HI w v W t n E) (hW : W.length ≤ 1048576) (hn : n ≤ 1048576) :
    Calls Try.prog 45 #[v] w fun e w' => ∃ v', e = .returned v' ∧ HP w.heap.size w'.heap.size w' v' W t n E ∧ CapH w' v' n ∧ Below w.heap.size w w' := by
  obtain ⟨wa, wc, ca, cc, rfl, h1, h2, h3, h4⟩ := h
  have H1 : Hid (Ints w wa W) := h1
  have H1c : Hid (W.length ≤ wc) := h2
  have H3 : Hid (CsA w ca n E) := h3
  have HN : Hid (n ≤ 1048576) := hn
  have HW : Hid (W.length ≤ 1048576) := hW
  clear h1 h2 h3 h4 hW hn
  go_enter Try.func45, Try.ntmps45
  go_wp2
  generalize hV : (w.alloc (.cells #[.slice wa W.length wc, .int .i64 t, .slice ca n cc] 28)).alloc (.cells #[.slice none 0 0, .int .i64 0, .slice none 0 0] 28) = V
  have HBW : Hid (Below w.heap.size w V) := by rw [← hV]; exact bAlloc (bAlloc (Below.refl _ _) _) _
  have X : Hid (Box3 V w.heap.size (.slice wa W.length wc) (.int .i64 t) (.slice ca n cc) 28) := by rw [← hV]; exact (box3_new _ _ _ _ _).alloc _
  have Y : Hid (Box3 V (w.heap.size + 1) (.slice none 0 0) (.int .i64 0) (.slice none 0 0) 28) := by
    have := box3_new (w.alloc (.cells #[.slice wa W.length wc, .int .i64 t, .slice ca n cc] 28)) (.slice none 0 0) (.int .i64 0) (.slice none 0 0) 28
    show Box3 _ _ _ _ _ _
    rw [← hV]; simpa using this
  have LW : Hid (w.heap.size + 1 < V.heap.size) := Y.out.lt
  clear hV
  have w0 := X.out.c0
  have w1 := X.out.c1
  have w2 := X.out.c2
  go_region_held3 (fun w' => w'.cell? ⟨w.heap.size, 0, none⟩ = some (.slice wa W.length wc) ∧ w'.cell? ⟨w.heap.size, 1, none⟩ = some (.int .i64 t) ∧ w'.cell? ⟨w.heap.size, 2, none⟩ = some (.slice ca n cc))
    (first | exact ⟨z0 _ _ _, z1 _ _ _, z2 _ _ _⟩ | exact ⟨y0, y1, y2⟩ | exact ⟨x0, x1, x2⟩ | exact ⟨w0, w1, w2⟩)
    (first
      | (go_at_call 77; refine (copied_new ⟨_, _, rfl, H1c.out, H1.out.keep (bTrans HBW.out ((Below.refl V.heap.size V).drew))⟩ HW.out).mono ?_; rintro r wx ⟨ax, cx, rfl, ha, hb⟩; have PX : Hid (Piece V.heap.size wx.heap.size wx (.slice ax W.length cx) W) := ha; have BX : Hid (Below V.heap.size V wx) := bTrans ((Below.refl V.heap.size V).drew) hb; have x0 := (X.out.keep BX.out).c0; have x1 := (X.out.keep BX.out).c1; have x2 := (X.out.keep BX.out).c2; clear ha hb)
      | (go_at_call 78; refine (copiedC_impl2 (H3.out.keep (bTrans HBW.out BX.out)) HN.out).mono ?_; rintro r wy ⟨ay, rfl, ha, hb⟩; have PY : Hid (CPiece wx.heap.size wy.heap.size wy (.slice ay n n) n E) := ha; have PX2 : Hid (Piece V.heap.size wx.heap.size wy (.slice ax W.length cx) W) := PX.out.keep hb; have S12 : Hid (wx.heap.size ≤ wy.heap.size) := hb.size; have BY : Hid (Below V.heap.size V wy) := bTrans BX.out hb; have y0 := (X.out.keep BY.out).c0; have y1 := (X.out.keep BY.out).c1; have y2 := (X.out.keep BY.out).c2; have z0 : ∀ a b c : Value, (((wy.setCell ⟨w.heap.size + 1, 0, none⟩ a).setCell ⟨w.heap.size + 1, 1, none⟩ b).setCell ⟨w.heap.size + 1, 2, none⟩ c).cell? ⟨w.heap.size, 0, none⟩ = some (.slice wa W.length wc) := fun a b c => (((((X.out.keep BY.out).other (by omega) a).other (by omega) b)).other (by omega) c).c0; have z1 : ∀ a b c : Value, (((wy.setCell ⟨w.heap.size + 1, 0, none⟩ a).setCell ⟨w.heap.size + 1, 1, none⟩ b).setCell ⟨w.heap.size + 1, 2, none⟩ c).cell? ⟨w.heap.size, 1, none⟩ = some (.int .i64 t) := fun a b c => (((((X.out.keep BY.out).other (by omega) a).other (by omega) b)).other (by omega) c).c1; have z2 : ∀ a b c : Value, (((wy.setCell ⟨w.heap.size + 1, 0, none⟩ a).setCell ⟨w.heap.size + 1, 1, none⟩ b).setCell ⟨w.heap.size + 1, 2, none⟩ c).cell? ⟨w.heap.size, 2, none⟩ = some (.slice ca n cc) := fun a b c => (((((X.out.keep BY.out).other (by omega) a).other (by omega) b)).other (by omega) c).c2; have qy0 := (Y.out.keep BY.out).c0; have qy1 := (Y.out.keep BY.out).c1; have qy2 := (Y.out.keep BY.out).c2; have fy0 := (Y.out.keep BY.out).free 0; have fy1 := (Y.out.keep BY.out).free 1; have fy2 := (Y.out.keep BY.out).free 2; clear ha hb))
  all_goals
    go_wp2
    generalize hZ : (((wy.setCell ⟨w.heap.size + 1, 0, none⟩ (.slice ax W.length cx)).setCell ⟨w.heap.size + 1, 1, none⟩ (.int .i64 t)).setCell ⟨w.heap.size + 1, 2, none⟩ (.slice ay n n)) = wz
    have YZ : Box3 wz (w.heap.size + 1) (.slice ax W.length cx) (.int .i64 t) (.slice ay n n) 28 := by rw [← hZ]; exact (((Y.out.keep BY.out).set0 _).set1 _).set2 _
    have WZ : Hid (Win (w.heap.size + 1) (w.heap.size + 1 + 1) wy wz) := by rw [← hZ]; exact (((win_setCell _ _ _ _).trans (win_setCell _ _ _ _)).trans (win_setCell _ _ _ _))
    have BZ : Hid (Below w.heap.size w wz) := by rw [← hZ]; exact below_setCell (below_setCell (below_setCell (bTrans HBW.out BY.out) (by omega) _ _) (by omega) _ _) (by omega) _ _
    have v0 := YZ.c0
    have v1 := YZ.c1
    have v2 := YZ.c2
    clear hZ YZ
    refine bodyPost_ret (v := .agg #[.slice ax W.length cx, .int .i64 t, .slice ay n n]) (by simp [results, Try.results45, go_sem, v0, v1, v2]) rfl ?_
    have S1 := LW.out
    have S2 := BX.out.size
    have S3 := S12.out
    have S4 := WZ.out.size
    exact ⟨_, rfl, ⟨_, _, wx.heap.size, rfl, by omega, by omega, (PX2.out.win WZ.out (.inr (by omega))).mono (by omega) (Nat.le_refl _), (PY.out.win WZ.out (.inr (by omega))).mono (Nat.le_refl _) S4⟩, ⟨_, _, _, _, rfl, Cap.full (PY.out.win WZ.out (.inr (by omega)))⟩, BZ.out⟩
end Go.Proofs.Ytmmjidhpmbcoiaa
