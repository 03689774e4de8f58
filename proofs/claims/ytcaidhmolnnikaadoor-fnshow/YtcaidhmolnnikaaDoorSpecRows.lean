/-
  Walks: the specification's Rows.
-/
import Derived.Test.YtcaidhmolnnikaaDoorRowsI
import Derived.Test.YtcaidhmolnnikaaDoorSpecArr
import Derived.Deep.AppendLies
import Derived.Deep.RegionHeld3
namespace Go.Proofs.YtcaidhmolnnikaaDoor
open Go.RowKit
set_option linter.unusedVariables false
set_option linter.unusedSimpArgs false
theorem info_arr : (Tryd.prog.info? 27).map (fun i => (i.zero, i.size, i.bytes)) = some (some (.agg #[.slice none 0 0, .slice none 0 0]), 2, 48) := by kernel_rfl
/-- The tail of a shape, wherever its cut lies. -/
def TailAt (w : World) (b1 o1 c : Nat) (t : List Int) : Prop := Ints w (some ⟨b1, o1 + 1, none⟩) t
theorem ints_cut {w : World} {b off : Nat} {l : List Int} {m n : Nat} (h : Ints w (some ⟨b, off, none⟩) l) (hm : m + n ≤ l.length) : Ints w (some ⟨b, off + m, none⟩) ((l.drop m).take n) := by
  by_cases h0 : n = 0
  · subst h0; exact .inl (by simp)
  · rcases h with rfl | ⟨b', off', e, hb, hc⟩
    · simp at hm; omega
    · cases e
      refine .inr ⟨b, off + m, rfl, hb, fun k hk => ?_⟩
      have hk' : k < n := by simp at hk; omega
      have e : ((l.drop m).take n).getD k 0 = l.getD (m + k) 0 := by
        simp [List.getD, List.getElem?_take_of_lt hk']
      rw [e, Nat.add_assoc]
      exact hc (m + k) (by omega)
theorem slice_tail (W : World) (b o n c : Nat) (hc : 1 < c) : (Instr.slice 22 (.slice (some ⟨b, o, none⟩) (n + 1) c) (some (.int .i64 1)) none none).run Tryd.prog W = .ok (.slice (some ⟨b, o + 1, none⟩) n (c - 1)) W := by
  have hs : (sizeOf 3).run Tryd.prog W = .ok 1 W := by kernel_rfl
  have he : Tryd.prog.elem 22 = 3 := by kernel_rfl
  rw [run_slice_l (P := Tryd.prog) (w := W) 22 (some ⟨b, o, none⟩) (n + 1) c (by rw [he]; exact Tryd.underlying22) .i64 1 (by decide) (by omega), he, hs]
  simp [Result.andThen, sliced, Addr.add, show ¬ c = 1 by omega]
theorem slice_cut (W : World) (b o n e M N : Nat) (h : M + N ≤ e) (hm : M < e) : (Instr.slice 22 (.slice (some ⟨b, o, none⟩) n e) (some (.int .i64 (M : Int))) (some (.int .i64 ((M : Int) + (N : Int)))) none).run Tryd.prog W = .ok (.slice (some ⟨b, o + M, none⟩) N (e - M)) W := by
  have hs : (sizeOf 3).run Tryd.prog W = .ok 1 W := by kernel_rfl
  have he : Tryd.prog.elem 22 = 3 := by kernel_rfl
  rw [run_slice_lh (P := Tryd.prog) (w := W) 22 (some ⟨b, o, none⟩) n e (by rw [he]; exact Tryd.underlying22) .i64 .i64 (M : Int) ((M : Int) + (N : Int)) (by omega) (by omega) (by omega), he, hs]
  have e1 : ((M : Int) + (N : Int)).toNat = M + N := by omega
  simp [Result.andThen, sliced, Addr.add, e1, show ¬ e = M by omega]

theorem wrapI {a : Int} (h0 : 0 ≤ a) (h1 : a ≤ 1099511627776) : IntKind.i64.wrap a = a := by rw [IntKind.wrap_i64]; omega
theorem boxBelow {w w' : World} {g B : Nat} {x y : Value} {t : TypeId} (h : Box w g x y t) (hb : Below B w w') (hg : g < B) : Box w' g x y t := by
  unfold Box at *; rw [hb.block g hg]; exact h
theorem sizeOfBelow {w w' : World} (h : Below w.heap.size w w') : w.heap.size ≤ w'.heap.size := h.size
set_option maxRecDepth 20000 in
set_option maxHeartbeats 4000000 in
theorem l3_walk (n0 : Int) (t d : List Int) (N b1 o1 c e ct : Nat) (tl b : Option Addr) (w : World) (q0 : 0 ≤ n0) (q1 : n0 ≤ 300) (hS : 0 < n0 → sizeV t = N) (hZ : ¬ 0 < n0 → (N : Int) = 0) (hb1 : b1 < w.heap.size)
    (c0 : w.cell? ⟨b1, o1, none⟩ = some (.int .i64 n0)) (ht : Ints w tl t) (htl : t.length ≤ 3) (F : List (List Int))
    (hsl1 : ∀ W, (Instr.slice 22 (.slice (some ⟨b1, o1, none⟩) (t.length + 1) c) (some (.int .i64 1)) none none).run Tryd.prog W = .ok (.slice tl t.length ct) W)
    (hF : ∀ k : Nat, (k : Int) < n0 → F.getD (2 * k) [] = t ∧ ∃ (M R : Nat) (ad : Option Addr) (cd : Nat) (D : List Int), F.getD (2 * k + 1) [] = D ∧ (k : Int) * N = M ∧ (M : Int) + N = R ∧ R ≤ 1048576 ∧ D.length ≤ 1048576 ∧ Ints w ad D ∧ ∀ W, (Instr.slice 22 (.slice b d.length e) (some (.int .i64 (M : Int))) (some (.int .i64 (R : Int))) none).run Tryd.prog W = .ok (.slice ad D.length cd) W) :
    Calls Tryd.prog 62 #[.agg #[.slice (some ⟨b1, o1, none⟩) (t.length + 1) c, .slice b d.length e]] w fun e w' => ∃ v', e = .returned v' ∧ ∃ xs W0, RI (w.heap.size + 1) W0 w' v' n0.toNat xs F ∧ Below w.heap.size w W0 := by
  have hi := info_arr
  obtain ⟨i0, hq, z1, z2, z3⟩ : ∃ i0, Tryd.prog.info? 27 = some i0 ∧ i0.zero = some (.agg #[.slice none 0 0, .slice none 0 0]) ∧ i0.size = 2 ∧ i0.bytes = 48 := by
    cases hq : Tryd.prog.info? 27 with
    | none => rw [hq] at hi; cases hi
    | some i => rw [hq] at hi; simp at hi; exact ⟨i, rfl, hi.1, hi.2.1, hi.2.2⟩
  clear hi
  obtain ⟨Z, hZ1⟩ : ∃ Z : Int, Z = sizeV t := ⟨_, rfl⟩
  have HSZ : Hid (∀ W (x : Nat), Ints W tl t → Calls Tryd.prog 39 #[.slice tl t.length x] W fun e w' => e = .returned (.int .i64 Z) ∧ w' = W) := fun W x h => hZ1 ▸ size_spec x h
  have HZ : Hid (0 < n0 → Z = N) := fun h => by rw [hZ1]; exact hS h
  have H1 : Hid (Ints w tl t) := ht
  have HF : Hid (∀ k : Nat, (k : Int) < n0 → F.getD (2 * k) [] = t ∧ ∃ (M R : Nat) (ad : Option Addr) (cd : Nat) (D : List Int), F.getD (2 * k + 1) [] = D ∧ (k : Int) * N = M ∧ (M : Int) + N = R ∧ R ≤ 1048576 ∧ D.length ≤ 1048576 ∧ Ints w ad D ∧ ∀ W, (Instr.slice 22 (.slice b d.length e) (some (.int .i64 (M : Int))) (some (.int .i64 (R : Int))) none).run Tryd.prog W = .ok (.slice ad D.length cd) W) := hF
  clear ht hF hS hZ hZ1
  go_enter Tryd.func62, Tryd.ntmps62
  go_wp2_with fail
  refine (HSZ.out _ _ ((H1.out.alloc _).alloc _)).mono ?_
  rintro r w' ⟨rfl, hw⟩
  subst w'
  go_wp2_with fail
  generalize hW : World.alloc (World.alloc w (.cells #[.slice (some ⟨b1, o1, none⟩) (t.length + 1) c, .slice b d.length e] 27)) (.cells #[] 27) = W0
  have HB0 : Hid (Below w.heap.size w W0) := by rw [← hW]; exact bAlloc (bAlloc (Below.refl _ _) _) _
  have X0 : Hid (Box W0 w.heap.size (.slice (some ⟨b1, o1, none⟩) (t.length + 1) c) (.slice b d.length e) 27) := by rw [← hW]; exact heap_alloc2_old w _ _
  have R0 : Hid (RI (w.heap.size + 1) W0 W0 (.slice (some ⟨w.heap.size + 1, 0, none⟩) 0 0) 0 [] F) := by
    have hh : W0.heap[w.heap.size + 1]? = some (.cells #[] 27 (0, 0)) := by rw [← hW]; exact heap_alloc2_new w _ _
    exact ⟨⟨rfl, .inr ⟨_, 0, #[], rfl, Nat.le_refl _, hh, Nat.le_refl _, Nat.zero_le _, rfl, rfl⟩⟩, fun j hj => by omega, fun i j _ hj => by omega, fun j hj => by omega, Below.refl _ _, Nat.le_of_lt (lt_of_heapA hh)⟩
  have L0 : Hid (w.heap.size + 1 < W0.heap.size) := by rw [← hW]; show _ < _; simp
  clear hW
  go_loopw [3, 5] (fun v i w' => ∃ (k : Nat) (xs : List Value), (k : Int) ≤ n0 ∧ i = .int .i64 k ∧ RI (w.heap.size + 1) W0 w' v k xs F) (fun _ i _ => n0.toNat - (intOf i).toNat)
  case atStart => exact ⟨0, [], q0, rfl, R0.out⟩
  case round =>
    obtain ⟨k, xs, hk, rfl, hR⟩ := hrel
    have HR : Hid (RI (w.heap.size + 1) W0 wr u3 k xs F) := hR
    have HBr : Hid (Below w.heap.size w wr) := HB0.out.trans (hR.below.mono (by omega))
    have X : Hid (Box wr w.heap.size (.slice (some ⟨b1, o1, none⟩) (t.length + 1) c) (.slice b d.length e) 27) := by
      show Box _ _ _ _ _; unfold Box; rw [hR.below.block w.heap.size (by omega)]; exact X0.out
    have p0 := X.out.c0
    have p1 := X.out.c1
    have n1 : wr.cell? ⟨b1, o1, none⟩ = some (.int .i64 n0) := by rw [HBr.out.cell (p := ⟨b1, o1, none⟩) hb1]; exact c0
    clear hR
    by_cases hlt : (k : Int) < n0
    · obtain ⟨f0, M, R, ad, cd, D, f1, hM', hR', hRl, hDl, hDi, hsl4⟩ := HF.out k hlt
      have F0 : Hid (F.getD (2 * k) [] = t) := f0
      have F1 : Hid (F.getD (2 * k + 1) [] = D) := f1
      have HTL : Hid (t.length ≤ 1048576) := by show _ ≤ _; omega
      have HNL : Hid (D.length ≤ 1048576) := hDl
      have H3 : Hid (Ints w ad D) := hDi
      obtain rfl : Z = N := HZ.out (by omega)
      have kN0 : 0 ≤ (k : Int) * (N : Int) := by omega
      have kN1 : (k : Int) * (N : Int) ≤ 1048576 := by omega
      have hwM : IntKind.i64.wrap (M : Int) = (M : Int) := wrapI (by omega) (by omega)
      have hwR : IntKind.i64.wrap (R : Int) = (R : Int) := wrapI (by omega) (by omega)
      clear f0 f1 hDi hDl
      have H63 : Hid (k + 1 ≤ maxLen) := by show _ ≤ _; unfold maxLen; omega
      have HBYT : Hid ((k + 1) * 48 ≤ 140737488355328) := by show _ ≤ _; omega
      have nw0 := World.new_ne wr ⟨w.heap.size, 0, none⟩ p0
      have nw1 := World.new_ne wr ⟨w.heap.size, 1, none⟩ p1
      go_wp2_with fail
      go_region_held3 (fun w' => w'.cell? ⟨w.heap.size, 0, none⟩ = some (.slice (some ⟨b1, o1, none⟩) (t.length + 1) c) ∧ w'.cell? ⟨w.heap.size, 1, none⟩ = some (.slice b d.length e))
        (first | exact ⟨v0, v1⟩ | exact ⟨p0, p1⟩ | exact ⟨x0, x1⟩ | exact ⟨y0, y1⟩ | go_keep)
        (first
          | (refine step_append_lies _ (by rfl) (.tmp 19) (.tmp 39) 91 (by rfl) (w.heap.size + 1) 27 i0 (.agg #[.slice none 0 0, .slice none 0 0]) 2 48 Tryd.underlying91 hq z1 z2 z3 rfl (by decide) u3 k xs (by rfl) (ownsRow_keep HR.out.own (bAlloc BY.out _)) ⟨wy.heap.size, 0, none⟩ 1 1 [.slice ax t.length cx, .slice ay D.length cy] (by rfl) rfl (World.news_of_block (cs := #[.slice ax t.length cx, .slice ay D.length cy]) (heap_alloc_new wy _)) (by simp [Value.oneCell']) (by decide) H63.out HBYT.out (Nat.le_trans HR.out.size (sizeOfBelow (w := wr) (bAlloc BY.out _))) (wy.heap.size + 1) (by simp) ?_; intro g cap w3 hown hgrow hat hlt; have RS : Hid (RI (w.heap.size + 1) W0 w3 (.slice (some ⟨g, 0, none⟩) (k + 1) cap) (k + 1) (xs ++ [.slice ax t.length cx, .slice ay D.length cy]) F) := HR.out.step (w2 := wy.alloc (.cells #[.slice ax t.length cx, .slice ay D.length cy] 27)) (bAlloc BY.out _) (by rw [F0.out]; exact (PX2.out.keep (bAlloc (Below.refl _ _) _)).mono (Nat.le_refl _) (by simp)) (by rw [F1.out]; exact (PY.out.keep (bAlloc (Below.refl _ _) _)).mono (Nat.le_refl _) (by simp)) AP.out hown hgrow (by simpa using hat); have X3 : Hid (Box w3 w.heap.size (.slice (some ⟨b1, o1, none⟩) (t.length + 1) c) (.slice b d.length e) 27) := boxBelow X0.out RS.out.below (Nat.lt_succ_self _); have v0 := X3.out.c0; have v1 := X3.out.c1; clear hown hgrow hat hlt)
          | (refine step_append_lies _ (by rfl) (.tmp 19) (.tmp 39) 91 (by rfl) (w.heap.size + 1) 27 i0 (.agg #[.slice none 0 0, .slice none 0 0]) 2 48 Tryd.underlying91 hq z1 z2 z3 rfl (by decide) u3 k xs (by rfl) (ownsRow_keep HR.out.own (bAlloc BX.out _)) ⟨wx.heap.size, 0, none⟩ 1 1 [.slice ax t.length cx, .slice ay D.length cy] (by rfl) rfl (World.news_of_block (cs := #[.slice ax t.length cx, .slice ay D.length cy]) (heap_alloc_new wx _)) (by simp [Value.oneCell']) (by decide) H63.out HBYT.out (Nat.le_trans HR.out.size (sizeOfBelow (w := wr) (bAlloc BX.out _))) (wx.heap.size + 1) (by simp) ?_; intro g cap w3 hown hgrow hat hlt; have RS : Hid (RI (w.heap.size + 1) W0 w3 (.slice (some ⟨g, 0, none⟩) (k + 1) cap) (k + 1) (xs ++ [.slice ax t.length cx, .slice ay D.length cy]) F) := HR.out.step (w2 := wx.alloc (.cells #[.slice ax t.length cx, .slice ay D.length cy] 27)) (bAlloc BX.out _) (by rw [F0.out]; exact (PX.out.keep (bAlloc (Below.refl _ _) _)).mono (Nat.le_refl _) (by simp)) (by rw [F1.out]; exact (PY2.out.keep (bAlloc (Below.refl _ _) _)).mono (Nat.le_refl _) (by simp)) AP.out hown hgrow (by simpa using hat); have X3 : Hid (Box w3 w.heap.size (.slice (some ⟨b1, o1, none⟩) (t.length + 1) c) (.slice b d.length e) 27) := boxBelow X0.out RS.out.below (Nat.lt_succ_self _); have v0 := X3.out.c0; have v1 := X3.out.c1; clear hown hgrow hat hlt)
          | (refine step_append_newI (by rfl) (.tmp 20) (.tmp 23) (by rfl) _ _ _ _ t (by rfl) (by rfl) (H1.out.keep (bTrans HBr.out (by repeat first | exact (Below.refl _ _).drew | exact BX.out | exact BY.out | exact Below.refl _ _ | refine bAlloc ?_ _ | refine Below.drew ?_))) HTL.out ?_; intro ax cx wx hpx hbx; have BX : Hid (Below wr.heap.size wr wx) := bTrans (by repeat first | exact (Below.refl _ _).drew | exact BX.out | exact BY.out | exact Below.refl _ _ | refine bAlloc ?_ _ | refine Below.drew ?_) hbx; have PX : Hid (Piece wr.heap.size wx.heap.size wx (.slice ax t.length cx) t) := hpx.mono (sizeOfBelow (w := wr) (by repeat first | exact (Below.refl _ _).drew | exact BX.out | exact BY.out | exact Below.refl _ _ | refine bAlloc ?_ _ | refine Below.drew ?_)) (Nat.le_refl _); (try have PY2 : Hid (Piece wr.heap.size wx.heap.size wx (.slice ay D.length cy) D) := (PY.out.keep (bTrans (by repeat first | exact Below.refl _ _ | refine bAlloc ?_ _ | refine Below.drew ?_) hbx)).mono (Nat.le_refl _) (Nat.le_trans (sizeOfBelow (w := wy) (by repeat first | exact Below.refl _ _ | refine bAlloc ?_ _ | refine Below.drew ?_)) hbx.size)); (try have AP : Hid (Apart (.slice ax t.length cx) (.slice ay D.length cy)) := (PY.out.apart hpx (.inl (sizeOfBelow (w := wy) (by repeat first | exact Below.refl _ _ | refine bAlloc ?_ _ | refine Below.drew ?_)))).symm); have x0 := (X.out.keep BX.out).c0; have x1 := (X.out.keep BX.out).c1; have nx0 := World.new_ne wx ⟨w.heap.size, 0, none⟩ x0; have nx1 := World.new_ne wx ⟨w.heap.size, 1, none⟩ x1; clear hpx hbx)
          | (refine step_append_newI (by rfl) (.tmp 25) (.tmp 36) (by rfl) _ _ _ _ D (by rfl) (by rfl) (H3.out.keep (bTrans HBr.out (by repeat first | exact (Below.refl _ _).drew | exact BX.out | exact BY.out | exact Below.refl _ _ | refine bAlloc ?_ _ | refine Below.drew ?_))) HNL.out ?_; intro ay cy wy hpy hby; have BY : Hid (Below wr.heap.size wr wy) := bTrans (by repeat first | exact (Below.refl _ _).drew | exact BX.out | exact BY.out | exact Below.refl _ _ | refine bAlloc ?_ _ | refine Below.drew ?_) hby; have PY : Hid (Piece wr.heap.size wy.heap.size wy (.slice ay D.length cy) D) := hpy.mono (sizeOfBelow (w := wr) (by repeat first | exact (Below.refl _ _).drew | exact BX.out | exact BY.out | exact Below.refl _ _ | refine bAlloc ?_ _ | refine Below.drew ?_)) (Nat.le_refl _); (try have PX2 : Hid (Piece wr.heap.size wy.heap.size wy (.slice ax t.length cx) t) := (PX.out.keep (bTrans (by repeat first | exact Below.refl _ _ | refine bAlloc ?_ _ | refine Below.drew ?_) hby)).mono (Nat.le_refl _) (Nat.le_trans (sizeOfBelow (w := wx) (by repeat first | exact Below.refl _ _ | refine bAlloc ?_ _ | refine Below.drew ?_)) hby.size)); (try have AP : Hid (Apart (.slice ax t.length cx) (.slice ay D.length cy)) := PX.out.apart hpy (.inl (sizeOfBelow (w := wx) (by repeat first | exact Below.refl _ _ | refine bAlloc ?_ _ | refine Below.drew ?_)))); have y0 := (X.out.keep BY.out).c0; have y1 := (X.out.keep BY.out).c1; have ny0 := World.new_ne wy ⟨w.heap.size, 0, none⟩ y0; have ny1 := World.new_ne wy ⟨w.heap.size, 1, none⟩ y1; clear hpy hby))
      all_goals
        go_wp2
        go_roundw
        case rel => exact ⟨k + 1, _, by omega, by go_num, RS.out⟩
        case measure => simp [intOf]; omega
    · have e : n0.toNat = k := by omega
      have HE : Hid (n0.toNat = k) := e
      clear e
      go_wp2
      go_ret
      exact ⟨_, rfl, xs, W0, by rw [HE.out]; exact HR.out, HB0.out⟩
end Go.Proofs.YtcaidhmolnnikaaDoor
