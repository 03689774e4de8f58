/-
  Walks: Inner's closure.
-/
import Derived.Test.YtbmkfmppcojcgaaImplMeet
import Derived.Test.YtbmkfmppcojcgaaArrs
namespace Go.Proofs.Ytbmkfmppcojcgaa
open Go.RowKit Go.Shelf
set_option linter.unusedVariables false
set_option linter.unusedSimpArgs false
set_option maxRecDepth 20000 in
set_option maxHeartbeats 8000000 in
/-- One number of an inner product: of row i and column j. -/
theorem inner1_impl {f g n : Int} {x y : List Int} {FX FY : List (List Int)} {w : World} {xa ya : Option Addr} {nR nC xc yc p q o p1 p2 p3 k : Nat} (hx : ArrsI w (.slice xa nR xc) FX) (hy : ArrsI w (.slice ya nC yc) FY)
    (h1 : w.cell? ⟨p1, 0, none⟩ = some (.func (.func 75) #[] #[.pointer (some ⟨p, 0, none⟩), .pointer (some ⟨q, 0, none⟩)])) (h2 : w.cell? ⟨p2, 0, none⟩ = some (.slice xa nR xc)) (h3 : w.cell? ⟨p3, 0, none⟩ = some (.slice ya nC yc)) (l1 : p1 < w.heap.size) (l2 : p2 < w.heap.size) (l3 : p3 < w.heap.size)
    (hm : MetAt w f g p q o) (hg : sign2 g = true) (hf : ok (neu f).1 = true) (hC : 0 < nC) (hk : k / nC < nR) (hk9 : k ≤ 90000) (ex : FX.getD (2 * (k / nC)) [] = [n] ∧ FX.getD (2 * (k / nC) + 1) [] = x) (ey : FY.getD (2 * (k % nC)) [] = [n] ∧ FY.getD (2 * (k % nC) + 1) [] = y) (ox : arrOk [n] x = true) (oy : arrOk [n] y = true) (hn : nC ≤ 90000) :
    Calls Try.prog 43 #[.int .i64 (k : Int), .pointer (some ⟨p1, 0, none⟩), .pointer (some ⟨p2, 0, none⟩), .pointer (some ⟨p3, 0, none⟩)] w fun r w' => ∃ v', r = .returned (.tuple #[v', .int .i64 (cellR f g x y n.toNat).2]) ∧ Arr w.heap.size w'.heap.size w' v' [] (cellL f g x y n.toNat) ∧ Below w.heap.size w w' := by
  obtain ⟨i, hi⟩ : ∃ i, i = k / nC := ⟨_, rfl⟩
  obtain ⟨j, hj⟩ : ∃ j, j = k % nC := ⟨_, rfl⟩
  have hjn : j < nC := by rw [hj]; exact Nat.mod_lt _ hC
  have ei : (k : Int).tdiv (nC : Int) = (i : Int) := by rw [Int.tdiv_eq_ediv_of_nonneg (by omega), hi]; simp
  have ei2 : (k : Int) / (nC : Int) = (i : Int) := by rw [hi]; simp
  have ej : (k : Int).tmod (nC : Int) = (j : Int) := by rw [Int.tmod_eq_emod_of_nonneg (by omega), hj]; simp
  have ej2 : (k : Int) % (nC : Int) = (j : Int) := by rw [hj]; simp
  rw [← hi] at hk ex
  rw [← hj] at ey
  have hib : i ≤ 90000 := by rw [hi]; exact Nat.le_trans (Nat.div_le_self _ _) hk9
  obtain ⟨o1, f1, s1, d1, rfl, ho1, c0, c1, i0, i1⟩ := hx.at (k := i) hk
  obtain ⟨o2, f2, s2, d2, rfl, ho2, e0, e1, j0, j1⟩ := hy.at (k := j) hjn
  rw [ex.1] at i0
  rw [ex.2] at i1
  rw [ey.1] at j0
  rw [ey.2] at j1
  obtain ⟨a1, b1, rfl, g0, i0⟩ := i0
  obtain ⟨a2, b2, rfl, g1, i1⟩ := i1
  obtain ⟨a3, b3, rfl, g2, j0⟩ := j0
  obtain ⟨a4, b4, rfl, g3, j1⟩ := j1
  have AX : Hid (ArrI w (.agg #[.slice a1 1 b1, .slice a2 x.length b2]) [n] x) := ⟨_, _, _, _, rfl, i0, i1, g0, g1⟩
  have AY : Hid (ArrI w (.agg #[.slice a3 1 b3, .slice a4 y.length b4]) [n] y) := ⟨_, _, _, _, rfl, j0, j1, g2, g3⟩
  have HMT : Hid (∀ W, Below w.heap.size w W → Calls Try.prog 75 #[.agg #[.slice a1 1 b1, .slice a2 x.length b2], .agg #[.slice a3 1 b3, .slice a4 y.length b4], .pointer (some ⟨p, 0, none⟩), .pointer (some ⟨q, 0, none⟩)] W fun r w' => ∃ v', r = .returned (.tuple #[v', .int .i64 (cellR f g x y n.toNat).2]) ∧ Arr W.heap.size w'.heap.size w' v' [] (cellL f g x y n.toNat) ∧ Below W.heap.size W w') := fun W hb => met_impl (AX.out.keep hb) (AY.out.keep hb) ox oy (hm.keep hb) hg hf
  generalize (cellR f g x y n.toNat).2 = QC at *
  generalize cellL f g x y n.toNat = QD at *
  simp only [List.length_cons, List.length_nil, Nat.zero_add] at c0 e0
  have hiR : (i : Int) < (nR : Int) := by omega
  have hjC : (j : Int) < (nC : Int) := by omega
  have hi0 : (0 : Int) ≤ (i : Int) := by omega
  have hj0 : (0 : Int) ≤ (j : Int) := by omega
  have hw1 : IntKind.i64.wrap (i : Int) = (i : Int) := wrapI (by omega) (by omega)
  have hw2 : IntKind.i64.wrap (j : Int) = (j : Int) := wrapI (by omega) (by omega)
  have hz : ((nC : Int) == 0) = false := by simp; omega
  have hz2 : (nC : Int) ≠ 0 := by omega
  have hz3 : nC ≠ 0 := by omega
  have hz4 : (nC == 0) = false := by simp; omega
  have hi' : k / nC = i := hi.symm
  have hj' : k % nC = j := hj.symm
  have hE := enters_of Try.func75 (by kernel_rfl) rfl
  clear i0 i1 j0 j1 g0 g1 g2 g3 hx hy ex ey ox oy hm hg hf hi hj
  have BA : Hid (∀ O : Obj, Below w.heap.size w (w.alloc O)) := fun O => bAlloc (Below.refl _ _) O
  go_enter Try.func43, Try.ntmps43
  go_wp2_with fail
  generalize hW : w.alloc (.cells #[.slice none 0 0, .slice none 0 0] 26) = wa
  have BW : Hid (Below w.heap.size w wa) := by rw [← hW]; exact bAlloc (Below.refl _ _) _
  have RB : Hid (Box wa w.heap.size (.slice none 0 0) (.slice none 0 0) 26) := by rw [← hW]; exact box_new w _ _ _
  clear hW
  have LT : Hid (w.heap.size < wa.heap.size) := RB.out.lt
  have KEEP : Hid (∀ W, Below w.heap.size w W → W.cell? ⟨p1, 0, none⟩ = some (.func (.func 75) #[] #[.pointer (some ⟨p, 0, none⟩), .pointer (some ⟨q, 0, none⟩)]) ∧ W.cell? ⟨p2, 0, none⟩ = some (.slice (some ⟨o1, f1, none⟩) nR xc) ∧ W.cell? ⟨p3, 0, none⟩ = some (.slice (some ⟨o2, f2, none⟩) nC yc) ∧ W.cell? ⟨o1, f1 + i * 2, none⟩ = some (.slice a1 1 b1) ∧ W.cell? ⟨o1, f1 + i * 2 + 1, none⟩ = some (.slice a2 x.length b2) ∧ W.cell? ⟨o2, f2 + j * 2, none⟩ = some (.slice a3 1 b3) ∧ W.cell? ⟨o2, f2 + j * 2 + 1, none⟩ = some (.slice a4 y.length b4)) := fun W hb =>
    ⟨(hb.cell (p := ⟨p1, 0, none⟩) l1).trans h1, (hb.cell (p := ⟨p2, 0, none⟩) l2).trans h2, (hb.cell (p := ⟨p3, 0, none⟩) l3).trans h3, (hb.cell (p := ⟨o1, f1 + i * 2, none⟩) ho1).trans c0, (hb.cell (p := ⟨o1, f1 + i * 2 + 1, none⟩) ho1).trans c1, (hb.cell (p := ⟨o2, f2 + j * 2, none⟩) ho2).trans e0, (hb.cell (p := ⟨o2, f2 + j * 2 + 1, none⟩) ho2).trans e1⟩
  clear h1 h2 h3 c0 c1 e0 e1
  have m0 := KEEP.out wa BW.out
  go_region_held3 (fun W => W.cell? ⟨p1, 0, none⟩ = some (.func (.func 75) #[] #[.pointer (some ⟨p, 0, none⟩), .pointer (some ⟨q, 0, none⟩)]) ∧ W.cell? ⟨p2, 0, none⟩ = some (.slice (some ⟨o1, f1, none⟩) nR xc) ∧ W.cell? ⟨p3, 0, none⟩ = some (.slice (some ⟨o2, f2, none⟩) nC yc) ∧ W.cell? ⟨o1, f1 + i * 2, none⟩ = some (.slice a1 1 b1) ∧ W.cell? ⟨o1, f1 + i * 2 + 1, none⟩ = some (.slice a2 x.length b2) ∧ W.cell? ⟨o2, f2 + j * 2, none⟩ = some (.slice a3 1 b3) ∧ W.cell? ⟨o2, f2 + j * 2 + 1, none⟩ = some (.slice a4 y.length b4))
    (first | exact m0 | with_reducible exact m9 | (exact KEEP.out _ (below_setCell (below_setCell B9.out (by omega) _ _) (by omega) _ _)))
    ((go_at_call 75; refine (HMT.out _ (BW.out.drew)).mono ?_; rintro r w9 ⟨v9, rfl, ha, hb⟩; obtain ⟨s9, t9, d9, f9, rfl, _, _, _, _⟩ := ha.arrI; have A9 : Hid (Arr wa.heap.size w9.heap.size w9 (.agg #[.slice s9 0 t9, .slice d9 QD.length f9]) [] QD) := ha; have B9 : Hid (Below w.heap.size w w9) := bTrans (BW.out.drew) hb; have R9 : Hid (Box w9 w.heap.size (.slice none 0 0) (.slice none 0 0) 26) := Box.keep (w := wa.drew) (RB.out.keep ((Below.refl _ _).drew)) hb; have m9 := KEEP.out w9 B9.out; have y0 := R9.out.c0; have y1 := R9.out.c1; have k0 := free_at R9.out 0; have k1 := free_at R9.out 1; have HRR : Hid (_ = _) := arr_stored (x' := .slice s9 0 t9) (y' := .slice d9 QD.length f9) R9.out; clear ha hb))
  all_goals
    go_wp2
    refine bodyPost_ret (results_arr_tmp Try.results43 _ _ w.heap.size _ _ rfl HRR.out) rfl ?_
    refine ⟨_, rfl, ?_, below_setCell (below_setCell B9.out (by omega) _ _) (by omega) _ _⟩
    have L1 := LT.out
    exact ((A9.out.setCell (by omega) _ _).setCell (by omega) _ _).mono (by omega) (by simp only [size_setCell]; omega)
end Go.Proofs.Ytbmkfmppcojcgaa
