/-
  Walks: the specification's l3Copy.
-/
import Derived.Test.YtmknleholglhbaaAppend
import Derived.Test.YtmknleholglhbaaLaw3
import Derived.Deep.RegionHeld3
namespace Go.Proofs.Ytmknleholglhbaa
open Go.RowKit
set_option linter.unusedVariables false
set_option linter.unusedSimpArgs false
theorem sizeBelowE {w w' : World} (h : Below w.heap.size w w') : w.heap.size ≤ w'.heap.size := h.size
set_option maxRecDepth 20000 in
set_option maxHeartbeats 4000000 in
theorem copy_spec {s d : List Int} {w : World} {v : Value} (h : ArrI w v s d) (hs : s.length ≤ 1048576) (hd : d.length ≤ 1048576) :
    Calls Try.prog 24 #[v] w fun e w' => ∃ v', e = .returned v' ∧ Arr w.heap.size w'.heap.size w' v' s d ∧ Below w.heap.size w w' := by
  obtain ⟨a, c, b, e, rfl, h1, h2, g1, g2⟩ := h
  have H1 : Hid (Ints w a s) := h1
  have H2 : Hid (Ints w b d) := h2
  have HS : Hid (s.length ≤ 1048576) := hs
  have HD : Hid (d.length ≤ 1048576) := hd
  clear h1 h2 g1 g2 hs hd
  go_enter Try.func24, Try.ntmps24
  go_wp2
  generalize hW : (w.alloc (.cells #[.slice a s.length c, .slice b d.length e] 42)).alloc (.cells #[.slice none 0 0, .slice none 0 0] 42) = W
  have HBW : Hid (Below w.heap.size w W) := by rw [← hW]; exact bAlloc (bAlloc (Below.refl _ _) _) _
  have X : Hid (Box W w.heap.size (.slice a s.length c) (.slice b d.length e) 42) := by rw [← hW]; exact heap_alloc2_old w _ _
  have Y : Hid (Box W (w.heap.size + 1) (.slice none 0 0) (.slice none 0 0) 42) := by rw [← hW]; exact heap_alloc2_new w _ _
  have LW : Hid (w.heap.size + 1 < W.heap.size) := Y.out.lt
  clear hW
  have w0 := X.out.c0
  have w1 := X.out.c1
  have nw0 := World.new_ne W ⟨w.heap.size, 0, none⟩ w0
  have nw1 := World.new_ne W ⟨w.heap.size, 1, none⟩ w1
  go_region_held3 (fun w' => w'.cell? ⟨w.heap.size, 0, none⟩ = some (.slice a s.length c) ∧ w'.cell? ⟨w.heap.size, 1, none⟩ = some (.slice b d.length e))
    (first | exact ⟨y0, y1⟩ | exact ⟨x0, x1⟩ | exact ⟨w0, w1⟩ | go_keep)
    (first
      | (refine step_append_newI (by rfl) (.tmp 3) (.tmp 5) (by rfl) _ _ _ _ s (by rfl) (by rfl) (H1.out.keep (bTrans HBW.out (by repeat first | exact (Below.refl _ _).drew | exact BX.out | exact BY.out | exact Below.refl _ _ | refine bAlloc ?_ _ | refine Below.drew ?_))) HS.out ?_; intro ax cx wx hpx hbx; have BX : Hid (Below W.heap.size W wx) := bTrans (by repeat first | exact (Below.refl _ _).drew | exact BX.out | exact BY.out | exact Below.refl _ _ | refine bAlloc ?_ _ | refine Below.drew ?_) hbx; have PX : Hid (Piece W.heap.size wx.heap.size wx (.slice ax s.length cx) s) := hpx.mono (sizeBelowE (w := W) (by repeat first | exact (Below.refl _ _).drew | exact BX.out | exact BY.out | exact Below.refl _ _ | refine bAlloc ?_ _ | refine Below.drew ?_)) (Nat.le_refl _); (try have PY2 : Hid (Piece W.heap.size wx.heap.size wx (.slice ay d.length cy) d) := (PY.out.keep (bTrans (by repeat first | exact Below.refl _ _ | refine bAlloc ?_ _ | refine Below.drew ?_) hbx)).mono (Nat.le_refl _) (Nat.le_trans (sizeBelowE (w := wy) (by repeat first | exact Below.refl _ _ | refine bAlloc ?_ _ | refine Below.drew ?_)) hbx.size)); (try have AP : Hid (Apart (.slice ax s.length cx) (.slice ay d.length cy)) := (PY.out.apart hpx (.inl (sizeBelowE (w := wy) (by repeat first | exact Below.refl _ _ | refine bAlloc ?_ _ | refine Below.drew ?_)))).symm); have x0 := (X.out.keep BX.out).c0; have x1 := (X.out.keep BX.out).c1; have nx0 := World.new_ne wx ⟨w.heap.size, 0, none⟩ x0; have nx1 := World.new_ne wx ⟨w.heap.size, 1, none⟩ x1; have qx0 := (Y.out.keep BX.out).c0; have qx1 := (Y.out.keep BX.out).c1; have fx0 : wx.frozen? ⟨w.heap.size + 1, 0, none⟩ = false := free_at (Y.out.keep BX.out) 0; have fx1 : wx.frozen? ⟨w.heap.size + 1, 1, none⟩ = false := free_at (Y.out.keep BX.out) 1; clear hpx hbx)
      | (refine step_append_newI (by rfl) (.tmp 7) (.tmp 9) (by rfl) _ _ _ _ d (by rfl) (by rfl) (H2.out.keep (bTrans HBW.out (by repeat first | exact (Below.refl _ _).drew | exact BX.out | exact BY.out | exact Below.refl _ _ | refine bAlloc ?_ _ | refine Below.drew ?_))) HD.out ?_; intro ay cy wy hpy hby; have BY : Hid (Below W.heap.size W wy) := bTrans (by repeat first | exact (Below.refl _ _).drew | exact BX.out | exact BY.out | exact Below.refl _ _ | refine bAlloc ?_ _ | refine Below.drew ?_) hby; have PY : Hid (Piece W.heap.size wy.heap.size wy (.slice ay d.length cy) d) := hpy.mono (sizeBelowE (w := W) (by repeat first | exact (Below.refl _ _).drew | exact BX.out | exact BY.out | exact Below.refl _ _ | refine bAlloc ?_ _ | refine Below.drew ?_)) (Nat.le_refl _); (try have PX2 : Hid (Piece W.heap.size wy.heap.size wy (.slice ax s.length cx) s) := (PX.out.keep (bTrans (by repeat first | exact Below.refl _ _ | refine bAlloc ?_ _ | refine Below.drew ?_) hby)).mono (Nat.le_refl _) (Nat.le_trans (sizeBelowE (w := wx) (by repeat first | exact Below.refl _ _ | refine bAlloc ?_ _ | refine Below.drew ?_)) hby.size)); (try have AP : Hid (Apart (.slice ax s.length cx) (.slice ay d.length cy)) := PX.out.apart hpy (.inl (sizeBelowE (w := wx) (by repeat first | exact Below.refl _ _ | refine bAlloc ?_ _ | refine Below.drew ?_)))); have y0 := (X.out.keep BY.out).c0; have y1 := (X.out.keep BY.out).c1; have ny0 := World.new_ne wy ⟨w.heap.size, 0, none⟩ y0; have ny1 := World.new_ne wy ⟨w.heap.size, 1, none⟩ y1; have qy0 := (Y.out.keep BY.out).c0; have qy1 := (Y.out.keep BY.out).c1; have fy0 : wy.frozen? ⟨w.heap.size + 1, 0, none⟩ = false := free_at (Y.out.keep BY.out) 0; have fy1 : wy.frozen? ⟨w.heap.size + 1, 1, none⟩ = false := free_at (Y.out.keep BY.out) 1; clear hpy hby))
  all_goals
    have HR : Hid (((wy.setCell ⟨w.heap.size + 1, 0, none⟩ (.slice ax s.length cx)).setCell ⟨w.heap.size + 1, 1, none⟩ (.slice ay d.length cy)).heap[w.heap.size + 1]? = some (.cells #[.slice ax s.length cx, .slice ay d.length cy] 42 (0, 0))) := arr_stored (Y.out.keep BY.out)
    go_wp2
    refine bodyPost_ret (v := .agg #[.slice ax s.length cx, .slice ay d.length cy]) (results_arr rfl _ _ (w.heap.size + 1) _ _ rfl HR.out) rfl ?_
    refine ⟨_, rfl, ?_, below_setCell (below_setCell (bTrans HBW.out BY.out) (by omega) _ _) (by omega) _ _⟩
    have S3 := LW.out
    have A : Arr W.heap.size wy.heap.size wy (.agg #[.slice ax s.length cx, .slice ay d.length cy]) s d := ⟨_, _, rfl, PX2.out, PY.out, AP.out⟩
    exact ((A.setCell S3 _ _).setCell S3 _ _).mono (by omega) (by simp [size_setCell])
end Go.Proofs.Ytmknleholglhbaa
