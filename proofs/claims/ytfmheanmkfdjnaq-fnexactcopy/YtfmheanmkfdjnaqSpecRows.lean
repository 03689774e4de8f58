/-
  Walks: the specification's Rows.
-/
import Derived.Test.YtfmheanmkfdjnaqRowsI
import Derived.Test.YtfmheanmkfdjnaqSpecArr
import Derived.Deep.AppendLies
import Derived.Deep.RegionHeld3
namespace Go.Proofs.Ytfmheanmkfdjnaq
open Go.RowKit
set_option linter.unusedVariables false
set_option linter.unusedSimpArgs false
theorem info_arr : (Try.prog.info? 26).map (fun i => (i.zero, i.size, i.bytes)) = some (some (.agg #[.slice none 0 0, .slice none 0 0]), 2, 48) := by kernel_rfl
/-- The tail of a shape, wherever its cut lies. -/
def TailAt (w : World) (b1 o1 c : Nat) (t : List Int) : Prop := Ints w (some ⟨b1, o1 + 1, none⟩) t
theorem ints_cut {w : World} {b off : Nat} {l : List Int} {m n : Nat} (h : Ints w (some ⟨b, off, none⟩) l) (hm : m + n ≤ l.length) : Ints w (some ⟨b, off + m, none⟩) ((l.drop m).take n) := by
  by_cases h0 : n = 0
  · subst h0; exact .inl (by simp)
  · rcases h with rfl | ⟨b', off', e, hb, hc⟩
    · simp at hm; omega
    · cases e
      refine .inr ⟨b, off + m, rfl, hb, fun k hk => ?_⟩
      have hk' : k < n := by simp at hk; omega
      have e : ((l.drop m).take n).getD k 0 = l.getD (m + k) 0 := by
        simp [List.getD, List.getElem?_take_of_lt hk']
      rw [e, Nat.add_assoc]
      exact hc (m + k) (by omega)
theorem slice_tail (W : World) (b o n c : Nat) (hc : 1 < c) : (Instr.slice 22 (.slice (some ⟨b, o, none⟩) (n + 1) c) (some (.int .i64 1)) none none).run Try.prog W = .ok (.slice (some ⟨b, o + 1, none⟩) n (c - 1)) W := by
  have hs : (sizeOf 3).run Try.prog W = .ok 1 W := by kernel_rfl
  have he : Try.prog.elem 22 = 3 := by kernel_rfl
  rw [run_slice_l (P := Try.prog) (w := W) 22 (some ⟨b, o, none⟩) (n + 1) c (by rw [he]; exact Try.underlying22) .i64 1 (by decide) (by omega), he, hs]
  simp [Result.andThen, sliced, Addr.add, show ¬ c = 1 by omega]
theorem slice_cut (W : World) (b o n e M N : Nat) (h : M + N ≤ e) (hm : M < e) : (Instr.slice 22 (.slice (some ⟨b, o, none⟩) n e) (some (.int .i64 (M : Int))) (some (.int .i64 ((M : Int) + (N : Int)))) none).run Try.prog W = .ok (.slice (some ⟨b, o + M, none⟩) N (e - M)) W := by
  have hs : (sizeOf 3).run Try.prog W = .ok 1 W := by kernel_rfl
  have he : Try.prog.elem 22 = 3 := by kernel_rfl
  rw [run_slice_lh (P := Try.prog) (w := W) 22 (some ⟨b, o, none⟩) n e (by rw [he]; exact Try.underlying22) .i64 .i64 (M : Int) ((M : Int) + (N : Int)) (by omega) (by omega) (by omega), he, hs]
  have e1 : ((M : Int) + (N : Int)).toNat = M + N := by omega
  simp [Result.andThen, sliced, Addr.add, e1, show ¬ e = M by omega]

theorem wrapI {a : Int} (h0 : 0 ≤ a) (h1 : a ≤ 1099511627776) : IntKind.i64.wrap a = a := by rw [IntKind.wrap_i64]; omega
theorem boxBelow {w w' : World} {g B : Nat} {x y : Value} {t : TypeId} (h : Box w g x y t) (hb : Below B w w') (hg : g < B) : Box w' g x y t := by
  unfold Box at *; rw [hb.block g hg]; exact h
theorem sizeOfBelow {w w' : World} (h : Below w.heap.size w w') : w.heap.size ≤ w'.heap.size := h.size
set_option maxRecDepth 20000 in
set_option maxHeartbeats 4000000 in
theorem l3_walk (n0 : Int) (t d : List Int) (N b1 o1 c e ct : Nat) (tl b : Option Addr) (w : World) (q0 : 0 ≤ n0) (q1 : n0 ≤ 300) (hS : 0 < n0 → sizeV t = N) (hZ : ¬ 0 < n0 → (N : Int) = 0) (hb1 : b1 < w.heap.size)
    (c0 : w.cell? ⟨b1, o1, none⟩ = some (.int .i64 n0)) (ht : Ints w tl t) (htl : t.length ≤ 3) (F : List (List Int))
    (hsl1 : ∀ W, (Instr.slice 22 (.slice (some ⟨b1, o1, none⟩) (t.length + 1) c) (some (.int .i64 1)) none none).run Try.prog W = .ok (.slice tl t.length ct) W)
    (hF : ∀ k : Nat, (k : Int) < n0 → F.getD (2 * k) [] = t ∧ ∃ (M R : Nat) (ad : Option Addr) (cd : Nat) (D : List Int), F.getD (2 * k + 1) [] = D ∧ (k : Int) * N = M ∧ (M : Int) + N = R ∧ R ≤ 1048576 ∧ D.length ≤ 1048576 ∧ Ints w ad D ∧ ∀ W, (Instr.slice 22 (.slice b d.length e) (some (.int .i64 (M : Int))) (some (.int .i64 (R : Int))) none).run Try.prog W = .ok (.slice ad D.length cd) W) :
    Calls Try.prog 30 #[.agg #[.slice (some ⟨b1, o1, none⟩) (t.length + 1) c, .slice b d.length e]] w fun e w' => ∃ v', e = .returned v' ∧ ∃ xs W0, RI (w.heap.size + 1) W0 w' v' n0.toNat xs F ∧ Below w.heap.size w W0 := by
  have hi := info_arr
  obtain ⟨i0, hq, z1, z2, z3⟩ : ∃ i0, Try.prog.info? 26 = some i0 ∧ i0.zero = some (.agg #[.slice none 0 0, .slice none 0 0]) ∧ i0.size = 2 ∧ i0.bytes = 48 := by
    cases hq : Try.prog.info? 26 with
    | none => rw [hq] at hi; cases hi
    | some i => rw [hq] at hi; simp at hi; exact ⟨i, rfl, hi.1, hi.2.1, hi.2.2⟩
  clear hi
  obtain ⟨Z, hZ1⟩ : ∃ Z : Int, Z = sizeV t := ⟨_, rfl⟩
  have HSZ : Hid (∀ W (x : Nat), Ints W tl t → Calls Try.prog 66 #[.slice tl t.length x] W fun e w' => e = .returned (.int .i64 Z) ∧ w' = W) := fun W x h => hZ1 ▸ size_spec x h
  have HZ : Hid (0 < n0 → Z = N) := fun h => by rw [hZ1]; exact hS h
  have H1 : Hid (Ints w tl t) := ht
  have HF : Hid (∀ k : Nat, (k : Int) < n0 → F.getD (2 * k) [] = t ∧ ∃ (M R : Nat) (ad : Option Addr) (cd : Nat) (D : List Int), F.getD (2 * k + 1) [] = D ∧ (k : Int) * N = M ∧ (M : Int) + N = R ∧ R ≤ 1048576 ∧ D.length ≤ 1048576 ∧ Ints w ad D ∧ ∀ W, (Instr.slice 22 (.slice b d.length e) (some (.int .i64 (M : Int))) (some (.int .i64 (R : Int))) none).run Try.prog W = .ok (.slice ad D.length cd) W) := hF
  clear ht hF hS hZ hZ1
  go_enter Try.func30, Try.ntmps30
  go_wp2_with fail
  refine (HSZ.out _ _ ((H1.out.alloc _).alloc _)).mono ?_
  rintro r w' ⟨rfl, hw⟩
  subst w'
  go_wp2_with fail
  generalize hW : World.alloc (World.alloc w (.cells #[.slice (some ⟨b1, o1, none⟩) (t.length + 1) c, .slice b d.length e] 26)) (.cells #[] 26) = W0
  have HB0 : Hid (Below w.heap.size w W0) := by rw [← hW]; exact bAlloc (bAlloc (Below.refl _ _) _) _
  have X0 : Hid (Box W0 w.heap.size (.slice (some ⟨b1, o1, none⟩) (t.length + 1) c) (.slice b d.length e) 26) := by rw [← hW]; exact heap_alloc2_old w _ _
  have R0 : Hid (RI (w.heap.size + 1) W0 W0 (.slice (some ⟨w.heap.size + 1, 0, none⟩) 0 0) 0 [] F) := by
    have hh : W0.heap[w.heap.size + 1]? = some (.cells #[] 26 (0, 0)) := by rw [← hW]; exact heap_alloc2_new w _ _
    exact ⟨⟨rfl, .inr ⟨_, 0, #[], rfl, Nat.le_refl _, hh, Nat.le_refl _, Nat.zero_le _, rfl, rfl⟩⟩, fun j hj => by omega, fun i j _ hj => by omega, fun j hj => by omega, Below.refl _ _, Nat.le_of_lt (lt_of_heapA hh)⟩
  have L0 : Hid (w.heap.size + 1 < W0.heap.size) := by rw [← hW]; show _ < _; simp
  clear hW
  go_loopw [3, 5] (fun v i w' => ∃ (k : Nat) (xs : List Value), (k : Int) ≤ n0 ∧ i = .int .i64 k ∧ RI (w.heap.size + 1) W0 w' v k xs F) (fun _ i _ => n0.toNat - (intOf i).toNat)
  case atStart => exact ⟨0, [], q0, rfl, R0.out⟩
  case round =>
    obtain ⟨k, xs, hk, rfl, hR⟩ := hrel
    have HR : Hid (RI (w.heap.size + 1) W0 wr u3 k xs F) := hR
    have HBr : Hid (Below w.heap.size w wr) := HB0.out.trans (hR.below.mono (by omega))
    have X : Hid (Box wr w.heap.size (.slice (some ⟨b1, o1, none⟩) (t.length + 1) c) (.slice b d.length e) 26) := by
      show Box _ _ _ _ _; unfold Box; rw [hR.below.block w.heap.size (by omega)]; exact X0.out
    have p0 := X.out.c0
    have p1 := X.out.c1
    have n1 : wr.cell? ⟨b1, o1, none⟩ = some (.int .i64 n0) := by rw [HBr.out.cell (p := ⟨b1, o1, none⟩) hb1]; exact c0
    clear hR
    by_cases hlt : (k : Int) < n0
    · obtain ⟨f0, M, R, ad, cd, D, f1, hM', hR', hRl, hDl, hDi, hsl4⟩ := HF.out k hlt
      have F0 : Hid (F.getD (2 * k) [] = t) := f0
      have F1 : Hid (F.getD (2 * k + 1) [] = D) := f1
      have HTL : Hid (t.length ≤ 1048576) := by show _ ≤ _; omega
      have HNL : Hid (D.length ≤ 1048576) := hDl
      have H3 : Hid (Ints w ad D) := hDi
      obtain rfl : Z = N := HZ.out (by omega)
      have kN0 : 0 ≤ (k : Int) * (N : Int) := by omega
      have kN1 : (k : Int) * (N : Int) ≤ 1048576 := by omega
      have hwM : IntKind.i64.wrap (M : Int) = (M : Int) := wrapI (by omega) (by omega)
      have hwR : IntKind.i64.wrap (R : Int) = (R : Int) := wrapI (by omega) (by omega)
      clear f0 f1 hDi hDl
      have H63 : Hid (k + 1 ≤ maxLen) := by show _ ≤ _; unfold maxLen; omega
      have HBYT : Hid ((k + 1) * 48 ≤ 140737488355328) := by show _ ≤ _; omega
      have nw0 := World.new_ne wr ⟨w.heap.size, 0, none⟩ p0
      have nw1 := World.new_ne wr ⟨w.heap.size, 1, none⟩ p1
      go_wp2_with fail
      go_region_held3 (fun w' => w'.cell? ⟨w.heap.size, 0, none⟩ = some (.slice (some ⟨b1, o1, none⟩) (t.length + 1) c) ∧ w'.cell? ⟨w.heap.size, 1, none⟩ = some (.slice b d.length e))
        (first | exact ⟨v0, v1⟩ | exact ⟨p0, p1⟩ | exact ⟨x0, x1⟩ | exact ⟨y0, y1⟩ | go_keep)
        (first
          | (refine step_append_lies _ (by rfl) (.tmp 19) (.tmp 39) 43 (by rfl) (w.heap.size + 1) 26 i0 (.agg #[.slice none 0 0, .slice none 0 0]) 2 48 Try.underlying43 hq z1 z2 z3 rfl (by decide) u3 k xs (by rfl) (ownsRow_keep HR.out.own (bAlloc BY.out _)) ⟨wy.heap.size, 0, none⟩ 1 1 [.slice ax t.length cx, .slice ay D.length cy] (by rfl) rfl (World.news_of_block (cs := #[.slice ax t.length cx, .slice ay D.length cy]) (heap_alloc_new wy _)) (by simp [Value.oneCell']) (by decide) H63.out HBYT.out (Nat.le_trans HR.out.size (sizeOfBelow (w := wr) (bAlloc BY.out _))) (wy.heap.size + 1) (by simp) ?_; intro g cap w3 hown hgrow hat hlt; have RS : Hid (RI (w.heap.size + 1) W0 w3 (.slice (some ⟨g, 0, none⟩) (k + 1) cap) (k + 1) (xs ++ [.slice ax t.length cx, .slice ay D.length cy]) F) := HR.out.step (w2 := wy.alloc (.cells #[.slice ax t.length cx, .slice ay D.length cy] 26)) (bAlloc BY.out _) (by rw [F0.out]; exact (PX2.out.keep (bAlloc (Below.refl _ _) _)).mono (Nat.le_refl _) (by simp)) (by rw [F1.out]; exact (PY.out.keep (bAlloc (Below.refl _ _) _)).mono (Nat.le_refl _) (by simp)) AP.out hown hgrow (by simpa using hat); have X3 : Hid (Box w3 w.heap.size (.slice (some ⟨b1, o1, none⟩) (t.length + 1) c) (.slice b d.length e) 26) := boxBelow X0.out RS.out.below (Nat.lt_succ_self _); have v0 := X3.out.c0; have v1 := X3.out.c1; clear hown hgrow hat hlt)
          | (refine step_append_lies _ (by rfl) (.tmp 19) (.tmp 39) 43 (by rfl) (w.heap.size + 1) 26 i0 (.agg #[.slice none 0 0, .slice none 0 0]) 2 48 Try.underlying43 hq z1 z2 z3 rfl (by decide) u3 k xs (by rfl) (ownsRow_keep HR.out.own (bAlloc BX.out _)) ⟨wx.heap.size, 0, none⟩ 1 1 [.slice ax t.length cx, .slice ay D.length cy] (by rfl) rfl (World.news_of_block (cs := #[.slice ax t.length cx, .slice ay D.length cy]) (heap_alloc_new wx _)) (by simp [Value.oneCell']) (by decide) H63.out HBYT.out (Nat.le_trans HR.out.size (sizeOfBelow (w := wr) (bAlloc BX.out _))) (wx.heap.size + 1) (by simp) ?_; intro g cap w3 hown hgrow hat hlt; have RS : Hid (RI (w.heap.size + 1) W0 w3 (.slice (some ⟨g, 0, none⟩) (k + 1) cap) (k + 1) (xs ++ [.slice ax t.length cx, .slice ay D.length cy]) F) := HR.out.step (w2 := wx.alloc (.cells #[.slice ax t.length cx, .slice ay D.length cy] 26)) (bAlloc BX.out _) (by rw [F0.out]; exact (PX.out.keep (bAlloc (Below.refl _ _) _)).mono (Nat.le_refl _) (by simp)) (by rw [F1.out]; exact (PY2.out.keep (bAlloc (Below.refl _ _) _)).mono (Nat.le_refl _) (by simp)) AP.out hown hgrow (by simpa using hat); have X3 : Hid (Box w3 w.heap.size (.slice (some ⟨b1, o1, none⟩) (t.length + 1) c) (.slice b d.length e) 26) := boxBelow X0.out RS.out.below (Nat.lt_succ_self _); have v0 := X3.out.c0; have v1 := X3.out.c1; clear hown hgrow hat hlt)
          | (refine step_append_newI (by rfl) (.tmp 20) (.tmp 23) (by rfl) _ _ _ _ t (by rfl) (by rfl) (H1.out.keep (bTrans HBr.out (by repeat first | exact (Below.refl _ _).drew | exact BX.out | exact BY.out | exact Below.refl _ _ | refine bAlloc ?_ _ | refine Below.drew ?_))) HTL.out ?_; intro ax cx wx hpx hbx; have BX : Hid (Below wr.heap.size wr wx) := bTrans (by repeat first | exact (Below.refl _ _).drew | exact BX.out | exact BY.out | exact Below.refl _ _ | refine bAlloc ?_ _ | refine Below.drew ?_) hbx; have PX : Hid (Piece wr.heap.size wx.heap.size wx (.slice ax t.length cx) t) := hpx.mono (sizeOfBelow (w := wr) (by repeat first | exact (Below.refl _ _).drew | exact BX.out | exact BY.out | exact Below.refl _ _ | refine bAlloc ?_ _ | refine Below.drew ?_)) (Nat.le_refl _); (try have PY2 : Hid (Piece wr.heap.size wx.heap.size wx (.slice ay D.length cy) D) := (PY.out.keep (bTrans (by repeat first | exact Below.refl _ _ | refine bAlloc ?_ _ | refine Below.drew ?_) hbx)).mono (Nat.le_refl _) (Nat.le_trans (sizeOfBelow (w := wy) (by repeat first | exact Below.refl _ _ | refine bAlloc ?_ _ | refine Below.drew ?_)) hbx.size)); (try have AP : Hid (Apart (.slice ax t.length cx) (.slice ay D.length cy)) := (PY.out.apart hpx (.inl (sizeOfBelow (w := wy) (by repeat first | exact Below.refl _ _ | refine bAlloc ?_ _ | refine Below.drew ?_)))).symm); have x0 := (X.out.keep BX.out).c0; have x1 := (X.out.keep BX.out).c1; have nx0 := World.new_ne wx ⟨w.heap.size, 0, none⟩ x0; have nx1 := World.new_ne wx ⟨w.heap.size, 1, none⟩ x1; clear hpx hbx)
          | (refine step_append_newI (by rfl) (.tmp 25) (.tmp 36) (by rfl) _ _ _ _ D (by rfl) (by rfl) (H3.out.keep (bTrans HBr.out (by repeat first | exact (Below.refl _ _).drew | exact BX.out | exact BY.out | exact Below.refl _ _ | refine bAlloc ?_ _ | refine Below.drew ?_))) HNL.out ?_; intro ay cy wy hpy hby; have BY : Hid (Below wr.heap.size wr wy) := bTrans (by repeat first | exact (Below.refl _ _).drew | exact BX.out | exact BY.out | exact Below.refl _ _ | refine bAlloc ?_ _ | refine Below.drew ?_) hby; have PY : Hid (Piece wr.heap.size wy.heap.size wy (.slice ay D.length cy) D) := hpy.mono (sizeOfBelow (w := wr) (by repeat first | exact (Below.refl _ _).drew | exact BX.out | exact BY.out | exact Below.refl _ _ | refine bAlloc ?_ _ | refine Below.drew ?_)) (Nat.le_refl _); (try have PX2 : Hid (Piece wr.heap.size wy.heap.size wy (.slice ax t.length cx) t) := (PX.out.keep (bTrans (by repeat first | exact Below.refl _ _ | refine bAlloc ?_ _ | refine Below.drew ?_) hby)).mono (Nat.le_refl _) (Nat.le_trans (sizeOfBelow (w := wx) (by repeat first | exact Below.refl _ _ | refine bAlloc ?_ _ | refine Below.drew ?_)) hby.size)); (try have AP : Hid (Apart (.slice ax t.length cx) (.slice ay D.length cy)) := PX.out.apart hpy (.inl (sizeOfBelow (w := wx) (by repeat first | exact Below.refl _ _ | refine bAlloc ?_ _ | refine Below.drew ?_)))); have y0 := (X.out.keep BY.out).c0; have y1 := (X.out.keep BY.out).c1; have ny0 := World.new_ne wy ⟨w.heap.size, 0, none⟩ y0; have ny1 := World.new_ne wy ⟨w.heap.size, 1, none⟩ y1; clear hpy hby))
      all_goals
        go_wp2
        go_roundw
        case rel => exact ⟨k + 1, _, by omega, by go_num, RS.out⟩
        case measure => simp [intOf]; omega
    · have e : n0.toNat = k := by omega
      have HE : Hid (n0.toNat = k) := e
      clear e
      go_wp2
      go_ret
      exact ⟨_, rfl, xs, W0, by rw [HE.out]; exact HR.out, HB0.out⟩
end Go.Proofs.Ytfmheanmkfdjnaq
namespace Go.Proofs.Ytfmheanmkfdjnaq
open Go.RowKit
set_option linter.unusedVariables false
set_option linter.unusedSimpArgs false
theorem foldl_mul (l : List Int) (a : Int) : l.foldl (· * ·) a = a * l.foldl (· * ·) 1 := by
  induction l generalizing a with
  | nil => simp
  | cons x l ih => rw [List.foldl_cons, List.foldl_cons, ih (a * x), ih (1 * x), Int.one_mul, Int.mul_assoc]
theorem prodV_cons (x : Int) (l : List Int) : prodV (x :: l) = x * prodV l := by
  unfold prodV
  rw [List.foldl_cons, foldl_mul, Int.one_mul]
theorem tail_size {n0 : Int} {t d : List Int} (h : arrOk (n0 :: t) d = true) (hp : 0 < n0) : 0 ≤ sizeV t ∧ n0 * sizeV t = d.length ∧ sizeV t ≤ 300 := by
  obtain ⟨k1, k2, k3, k4⟩ := sizeV_ok (arrOk_shape h)
  have hz := arrOk_size h
  rw [prodV_cons] at k3 k4
  simp only [List.all_cons, Bool.and_eq_true] at k2
  have p0 := (prodV_bd t k2.2).1
  have p1 : 1 * prodV t ≤ n0 * prodV t := Int.mul_le_mul_of_nonneg_right (by omega) p0
  rw [Int.one_mul] at p1
  have e : sizeV t = prodV t := by
    unfold sizeV
    rw [if_neg (by simp at k1; omega), if_pos k2.2, if_neg (by omega)]
  rw [e]
  exact ⟨p0, by rw [← k4, hz], by omega⟩
theorem flat2_at (n k : Nat) (f g : Nat → List Int) (hk : k < n) : ((List.range n).flatMap (fun i => [f i, g i])).getD (2 * k) [] = f k ∧ ((List.range n).flatMap (fun i => [f i, g i])).getD (2 * k + 1) [] = g k := by
  induction n with
  | zero => omega
  | succ n ih =>
    rw [List.range_succ, List.flatMap_append]
    have hl := flat2_length n (fun i => [f i, g i]) (fun i => rfl)
    rw [getD_app, getD_app, hl]
    by_cases e : k < n
    · rw [if_pos (by omega), if_pos (by omega)]
      exact ih e
    · obtain rfl : k = n := by omega
      rw [if_neg (by omega), if_neg (by omega)]
      rw [show 2 * k - 2 * k = 0 by omega, show 2 * k + 1 - 2 * k = 1 by omega]
      simp
theorem slice_none (W : World) (b : Option Addr) (n e : Nat) : (Instr.slice 22 (.slice b n e) (some (.int .i64 ((0 : Nat) : Int))) (some (.int .i64 ((0 : Nat) : Int))) none).run Try.prog W = .ok (.slice b 0 e) W := by
  have hs : (sizeOf 3).run Try.prog W = .ok 1 W := by kernel_rfl
  have he : Try.prog.elem 22 = 3 := by kernel_rfl
  rw [run_slice_lh (P := Try.prog) (w := W) 22 b n e (by rw [he]; exact Try.underlying22) .i64 .i64 ((0 : Nat) : Int) ((0 : Nat) : Int) (by omega) (by omega) (by omega), he, hs]
  cases b <;> simp [Result.andThen, sliced, Addr.add]
theorem slice_one (W : World) (b o : Nat) : (Instr.slice 22 (.slice (some ⟨b, o, none⟩) (0 + 1) 1) (some (.int .i64 1)) none none).run Try.prog W = .ok (.slice (some ⟨b, o, none⟩) 0 0) W := by
  have hs : (sizeOf 3).run Try.prog W = .ok 1 W := by kernel_rfl
  have he : Try.prog.elem 22 = 3 := by kernel_rfl
  rw [run_slice_l (P := Try.prog) (w := W) 22 (some ⟨b, o, none⟩) (0 + 1) 1 (by rw [he]; exact Try.underlying22) .i64 1 (by decide) (by omega), he, hs]
  simp [Result.andThen, sliced]
/-- A list's length is no more than its room. -/
def CapOk (v : Value) : Prop := ∀ a n c, v = .slice a n c → n ≤ c
theorem capOk_own {w : World} {B : Nat} {e : TypeId} {sz : Nat} {v : Value} {n : Nat} {xs : List Value} (h : w.ownsRow B e sz v n xs) : CapOk v := by
  intro a n' c hv
  rcases h.2 with ⟨e, h0⟩ | ⟨g, cap, cur, e, _, _, hle, _⟩
  · rw [e] at hv; cases hv; exact Nat.le_refl _
  · rw [e] at hv; cases hv; exact hle
/-- l3Rows, of an array that is right and of rank 1 and above. -/
theorem l3rows_cap {n0 : Int} {t d : List Int} {w : World} {v : Value} (h : ArrI w v (n0 :: t) d) (ho : arrOk (n0 :: t) d = true) :
    Calls Try.prog 30 #[v] w fun e w' => ∃ v', e = .returned v' ∧ Arrs w.heap.size w'.heap.size w' v' (rowsF (n0 :: t) d) ∧ Below w.heap.size w w' ∧ CapOk v' := by
  obtain ⟨a, c, b, e, rfl, h1, h2, g1, g2⟩ := h
  obtain ⟨b1, o1, rfl, hb1, c0⟩ := h1.at (k := 0) (by simp)
  have hh := head_bd ho
  simp only [List.getD_cons_zero] at hh c0
  rw [Nat.add_zero] at c0
  have k1 := (sizeV_ok (arrOk_shape ho)).1
  simp at k1
  have hL : (rowsF (n0 :: t) d).length = 2 * n0.toNat := by rw [rowsF_length, if_pos ⟨ho, by simp⟩]; simp
  have ht : Ints w (some ⟨b1, o1 + 1, none⟩) t := by
    rcases h1 with h1 | ⟨b', off', e', hb', hc'⟩
    · cases h1
    · cases e'
      refine .inr ⟨b1, o1 + 1, rfl, hb', fun k hk => ?_⟩
      have q := hc' (k + 1) (by simp; omega)
      rw [show o1 + (k + 1) = o1 + 1 + k by omega] at q
      simpa using q
  have key : ∀ (tl : Option Addr) (ct : Nat), Ints w tl t → (∀ W, (Instr.slice 22 (.slice (some ⟨b1, o1, none⟩) (t.length + 1) c) (some (.int .i64 1)) none none).run Try.prog W = .ok (.slice tl t.length ct) W) →
      Calls Try.prog 30 #[.agg #[.slice (some ⟨b1, o1, none⟩) (t.length + 1) c, .slice b d.length e]] w fun e w' => ∃ v', e = .returned v' ∧ Arrs w.heap.size w'.heap.size w' v' (rowsF (n0 :: t) d) ∧ Below w.heap.size w w' ∧ CapOk v' := by
    intro tl ct hi hsl
    refine (l3_walk n0 t d (if 0 < n0 then (sizeV t).toNat else 0) b1 o1 c e ct tl b w hh.1 hh.2 (fun hp => ?_) (fun hp => by rw [if_neg hp]; rfl) hb1 c0 hi (by omega) (rowsF (n0 :: t) d) hsl (fun k hk => ?_)).mono ?_
    · have := tail_size ho hp
      rw [if_pos hp]; omega
    · have hp : 0 < n0 := by omega
      obtain ⟨p0, p1, p2⟩ := tail_size ho hp
      rw [if_pos hp]
      obtain ⟨N, hN⟩ : ∃ N : Nat, sizeV t = N := ⟨(sizeV t).toNat, by omega⟩
      rw [hN] at p1 ⊢
      rw [Int.toNat_natCast]
      have hM : k * N + N ≤ d.length := by
        have q1 : ((k : Int) + 1) * N ≤ n0 * N := Int.mul_le_mul_of_nonneg_right (by omega) (by omega)
        rw [p1, Int.add_mul, Int.one_mul] at q1
        have q2 : ((k * N : Nat) : Int) = (k : Int) * N := by simp
        omega
      have hdl := arrOk_len ho
      have hat := flat2_at n0.toNat k (fun _ => t) (fun i => (d.drop (i * N)).take N) (by omega)
      have hR : rowsF (n0 :: t) d = (List.range n0.toNat).flatMap (fun i => [t, (d.drop (i * N)).take N]) := by
        unfold rowsF
        rw [if_pos ⟨ho, by simp⟩]
        simp [hN]
      rw [hR]
      refine ⟨hat.1, k * N, k * N + N, ?_⟩
      by_cases h0 : N = 0
      · subst h0
        refine ⟨b, e, [], by rw [hat.2]; simp, by simp, by simp, by omega, by simp, .inl rfl, fun W => ?_⟩
        simpa using slice_none W b d.length e
      · have hd0 : 0 < d.length := by omega
        obtain ⟨b2, o2, rfl, hb2, _⟩ := h2.at hd0
        have hlen : ((d.drop (k * N)).take N).length = N := by simp; omega
        refine ⟨some ⟨b2, o2 + k * N, none⟩, e - k * N, (d.drop (k * N)).take N, hat.2, by simp, by simp, by omega, by omega, ints_cut h2 hM, fun W => ?_⟩
        rw [hlen]
        have q := slice_cut W b2 o2 d.length e (k * N) N (by omega) (by omega)
        simpa using q
    · rintro r w' ⟨v', rfl, xs, W0, hR, hB⟩
      refine ⟨v', rfl, (hR.done hL).mono (by omega) (Nat.le_refl _), hB.trans (hR.below.mono (by omega)), capOk_own hR.own⟩
  by_cases hc : c = 1
  · subst hc
    obtain rfl : t = [] := List.eq_nil_of_length_eq_zero (by have q : t.length + 1 ≤ 1 := g1; omega)
    exact key (some ⟨b1, o1, none⟩) 0 (.inl rfl) (fun W => slice_one W b1 o1)
  · exact key (some ⟨b1, o1 + 1, none⟩) (c - 1) ht (fun W => slice_tail W b1 o1 t.length c (by have q : t.length + 1 ≤ c := g1; omega))
theorem l3rows_spec {n0 : Int} {t d : List Int} {w : World} {v : Value} (h : ArrI w v (n0 :: t) d) (ho : arrOk (n0 :: t) d = true) :
    Calls Try.prog 30 #[v] w fun e w' => ∃ v', e = .returned v' ∧ Arrs w.heap.size w'.heap.size w' v' (rowsF (n0 :: t) d) ∧ Below w.heap.size w w' := by
  refine (l3rows_cap h ho).mono ?_
  rintro e w' ⟨v', rfl, h1, h2, _⟩
  exact ⟨v', rfl, h1, h2⟩
theorem arrs_none (B C : Nat) (w : World) (a : Option Addr) (c : Nat) : Arrs B C w (.slice a 0 c) [] := ⟨a, 0, c, rfl, rfl, .inl rfl⟩
end Go.Proofs.Ytfmheanmkfdjnaq
