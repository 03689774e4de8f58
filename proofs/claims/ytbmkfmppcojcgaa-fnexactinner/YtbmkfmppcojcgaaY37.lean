/-
  Several texts, one behind the other: ImplMeet, ImplInn1, RowsF.
-/
import Derived.Test.YtbmkfmppcojcgaaY23
import Derived.Test.YtbmkfmppcojcgaaY35
import Derived.Test.YtbmkfmppcojcgaaY36
import Derived.Test.YtbmkfmppcojcgaaY3
import Derived.Test.YtbmkfmppcojcgaaY11
import Derived.Test.YtbmkfmppcojcgaaY4
namespace Go.Proofs.Ytbmkfmppcojcgaa
open Go.RowKit Go.Shelf
set_option linter.unusedVariables false
set_option linter.unusedSimpArgs false
/-- The number of a cell, as a list; none where there is a code. -/
def cellL (f g : Int) (x y : List Int) (n : Nat) : List Int := if (cellR f g x y n).2 = 0 then [(cellR f g x y n).1] else []
theorem redN_nil (f : Int) (h : ok (neu f).1 = true) : redN f [] = (0, [], [(neu f).1]) := by
  have h1 : arrOk [(([] : List Int).length : Int)] [] = true := by simp [arrOk, sizeV_1]
  have h2 : arrOk [] [(neu f).1] = true := one_ok h
  unfold redN reshapeR
  rw [show reshapeC [(([] : List Int).length : Int)] [] [] [(neu f).1] = 0 from by unfold reshapeC; rw [if_pos ⟨h1, h2⟩]; simp [sizeV_0']]
  rw [mkR_good]
  simp [sizeV_0', againD]
/-- The pairs, reduced. -/
theorem red_cell {f g n : Int} {x y : List Int} {w : World} {v : Value} {o : Nat} (h : ArrI w v [n] (pairD g x y n.toNat)) (h1 : arrOk [n] x = true) (h0 : pairC g x y n.toNat = 0) (hf : w.cell? ⟨o, 0, none⟩ = some (.int .i64 f)) (ho : o < w.heap.size) (hk : ok (neu f).1 = true) :
    Calls Try.prog 89 #[v, .pointer (some ⟨o, 0, none⟩)] w fun r w' => ∃ v', r = .returned (.tuple #[v', .int .i64 (cellR f g x y n.toNat).2]) ∧ Arr w.heap.size w'.heap.size w' v' [] (cellL f g x y n.toNat) ∧ Below w.heap.size w w' := by
  obtain ⟨a1, a2, _, _⟩ := vecN h1
  have hp := pair_arr h1 h0
  unfold cellL
  by_cases hn : n = 0
  · subst hn
    have q := reduce0_impl h hp hf ho
    rw [redN_nil f hk] at q
    rw [show (0 : Int).toNat = 0 from rfl, cellR_none, if_pos rfl]
    exact q
  · have q := reduce1_impl h hp (by omega) hf ho
    rw [rows_pair, ite_self] at q
    by_cases hc : (redL f [] (pairR g x y n.toNat)).1 = 0
    · obtain ⟨z, e1, e2⟩ := cellR_good h0 (by omega) hc
      rw [e1, hc] at q
      rw [e2, if_pos rfl]
      exact q
    · rw [redL_none hc] at q
      rw [cellR_bad h0 (by omega) hc, if_neg hc]
      exact q
set_option maxRecDepth 20000 in
set_option maxHeartbeats 4000000 in
/-- What meeting makes. -/
theorem met_impl {f g n : Int} {x y : List Int} {w : World} {u v : Value} {p q o : Nat} (h : ArrI w u [n] x) (k : ArrI w v [n] y) (hx : arrOk [n] x = true) (hy : arrOk [n] y = true) (hm : MetAt w f g p q o) (hg : sign2 g = true) (hk : ok (neu f).1 = true) :
    Calls Try.prog 75 #[u, v, .pointer (some ⟨p, 0, none⟩), .pointer (some ⟨q, 0, none⟩)] w fun r w' => ∃ v', r = .returned (.tuple #[v', .int .i64 (cellR f g x y n.toNat).2]) ∧ Arr w.heap.size w'.heap.size w' v' [] (cellL f g x y n.toNat) ∧ Below w.heap.size w w' := by
  obtain ⟨e1, e2⟩ := each_pair hx hy hg
  obtain ⟨a1, a2, lx, _⟩ := vecN hx
  obtain ⟨_, _, ly, _⟩ := vecN hy
  have H : Hid (ArrI w u [n] x) := h
  have K : Hid (ArrI w v [n] y) := k
  have HM : Hid (MetAt w f g p q o) := hm
  obtain ⟨a, c, b, e, rfl, _, _, _, _⟩ := h
  obtain ⟨a', c', b', e', rfl, _, _, _, _⟩ := k
  have HE : Hid (∀ W, Below w.heap.size w W → Calls Try.prog 67 #[.int .i64 g, .agg #[.slice a 1 c, .slice b x.length e], .agg #[.slice a' 1 c', .slice b' y.length e']] W fun r w' => ∃ v', r = .returned (.tuple #[v', .int .i64 (eachTwoC g [n] x [n] y)]) ∧ Arr W.heap.size w'.heap.size w' v' (eachTwoS g [n] x [n] y) (eachTwoD g [n] x [n] y) ∧ Below W.heap.size W w') := fun W hb => eachTwo_impl (H.out.keep hb) (K.out.keep hb) (by simp) (by omega) (by simp) (by omega)
  have HR : Hid (∀ W v, Below w.heap.size w W → pairC g x y n.toNat = 0 → ArrI W v (eachTwoS g [n] x [n] y) (eachTwoD g [n] x [n] y) → Calls Try.prog 89 #[v, .pointer (some ⟨o, 0, none⟩)] W fun r w' => ∃ v', r = .returned (.tuple #[v', .int .i64 (cellR f g x y n.toNat).2]) ∧ Arr W.heap.size w'.heap.size w' v' [] (cellL f g x y n.toNat) ∧ Below W.heap.size W w') := fun W v hb h0 hv => by
    rw [(e2 h0).1, (e2 h0).2] at hv
    exact red_cell hv hx h0 (HM.out.keep hb).f (HM.out.keep hb).lo hk
  have EB : Hid (pairC g x y n.toNat ≠ 0 → (cellR f g x y n.toNat).2 = pairC g x y n.toNat ∧ cellL f g x y n.toNat = []) := fun h0 => by
    have q : cellR f g x y n.toNat = (0, pairC g x y n.toNat) := by unfold cellR; rw [if_neg h0]
    unfold cellL
    rw [q]
    exact ⟨rfl, if_neg h0⟩
  rw [e1] at HE
  simp only [List.length_cons, List.length_nil, Nat.zero_add]
  generalize pairC g x y n.toNat = C at *
  generalize eachTwoS g [n] x [n] y = S1 at *
  generalize eachTwoD g [n] x [n] y = D1 at *
  generalize (cellR f g x y n.toNat).2 = QC at *
  generalize cellL f g x y n.toNat = QD at *
  have hE := enters_of Try.func89 (by kernel_rfl) rfl
  have XP : ∀ A B D : Obj, (((w.alloc A).alloc B).alloc D).cell? ⟨p, 0, none⟩ = some (.int .i64 g) := fun A B D => (HM.out.keep (bAlloc (bAlloc (bAlloc (Below.refl _ _) A) B) D)).g
  clear e1 e2 hx hy hm hg hk lx ly
  go_enter Try.func75, Try.ntmps75
  go_wp2_with fail
  refine (HE.out _ (bAlloc (bAlloc (bAlloc (Below.refl _ _) _) _) _)).mono ?_
  rintro r w1 ⟨v1, rfl, ha, hb⟩
  obtain ⟨s1, t1, d1, f1, rfl, _, _, _, _⟩ := ha.arrI
  have HB1 : Hid (Below w.heap.size w w1) := bTrans (bAlloc (bAlloc (bAlloc (Below.refl _ _) _) _) _) hb
  have A1 : Hid (ArrI w1 (.agg #[.slice s1 S1.length t1, .slice d1 D1.length f1]) S1 D1) := ha.arrI
  have R1 : Hid (Box w1 (w.heap.size + 1 + 1) (.slice none 0 0) (.slice none 0 0) 26) := by
    have q := box_new ((w.alloc (.cells #[.slice a 1 c, .slice b x.length e] 26)).alloc (.cells #[.slice a' 1 c', .slice b' y.length e'] 26)) (.slice none 0 0) (.slice none 0 0) 26
    simp only [World.size_alloc] at q
    exact q.keep hb
  clear ha hb XP
  have R2 : Hid (Box (w1.alloc (.cells #[.slice s1 S1.length t1, .slice d1 D1.length f1] 26)) (w.heap.size + 1 + 1) (.slice none 0 0) (.slice none 0 0) 26) := R1.out.keep (bAlloc (Below.refl _ _) _)
  have BW2 : Hid (Below w.heap.size w (w1.alloc (.cells #[.slice s1 S1.length t1, .slice d1 D1.length f1] 26))) := bAlloc HB1.out _
  by_cases hc : C = 0
  · subst hc
    have XQ : ∀ A : Obj, (w1.alloc A).cell? ⟨q, 0, none⟩ = some (.func (.func 89) #[] #[.pointer (some ⟨o, 0, none⟩)]) := fun A => (HM.out.keep (bAlloc HB1.out A)).r
    have LT : Hid (w.heap.size + 1 + 1 < w1.heap.size) := R1.out.lt
    go_wp2_with fail
    refine (HR.out _ _ BW2.out (by trivial) (A1.out.keep (bAlloc (Below.refl _ _) _))).mono ?_
    rintro r w3 ⟨v3, rfl, ha, hb⟩
    obtain ⟨s3, t3, d3, f3, rfl, _, _, _, _⟩ := ha.arrI
    have A3 : Hid (Arr (w1.heap.size + 1) w3.heap.size w3 (.agg #[.slice s3 0 t3, .slice d3 QD.length f3]) [] QD) := ha.mono (by simp) (Nat.le_refl _)
    have R3 : Hid (Box w3 (w.heap.size + 1 + 1) (.slice none 0 0) (.slice none 0 0) 26) := R2.out.keep hb
    have B3 : Hid (Below w.heap.size w w3) := bTrans BW2.out hb
    clear ha hb XQ
    have y0 := R3.out.c0
    have y1 := R3.out.c1
    have k0 := free_at R3.out 0
    have k1 := free_at R3.out 1
    have HRR : Hid (_ = _) := arr_stored (x' := .slice s3 0 t3) (y' := .slice d3 QD.length f3) R3.out
    simp only [List.length_nil]
    go_wp2
    refine bodyPost_ret (results_arr_tmp Try.results75 _ _ (w.heap.size + 1 + 1) _ _ rfl HRR.out) rfl ?_
    refine ⟨_, rfl, ?_, below_setCell (below_setCell B3.out (by omega) _ _) (by omega) _ _⟩
    have L1 := LT.out
    exact ((A3.out.setCell (by omega) _ _).setCell (by omega) _ _).mono (by omega) (by simp only [size_setCell]; omega)
  · obtain ⟨rfl, rfl⟩ := EB.out hc
    have y0 := R2.out.c0
    have y1 := R2.out.c1
    have k0 := free_at R2.out 0
    have k1 := free_at R2.out 1
    have HRR : Hid (_ = _) := arr_stored (x' := .slice none 0 0) (y' := .slice none 0 0) R2.out
    have hxx : (QC != 0) = true := by simpa using hc
    go_wp2
    refine bodyPost_ret (results_arr_tmp Try.results75 _ _ (w.heap.size + 1 + 1) _ _ rfl HRR.out) rfl ?_
    exact ⟨_, rfl, arr_zero _ _ _, below_setCell (below_setCell BW2.out (by omega) _ _) (by omega) _ _⟩
end Go.Proofs.Ytbmkfmppcojcgaa
namespace Go.Proofs.Ytbmkfmppcojcgaa
open Go.RowKit Go.Shelf
set_option linter.unusedVariables false
set_option linter.unusedSimpArgs false
set_option maxRecDepth 20000 in
set_option maxHeartbeats 8000000 in
/-- One number of an inner product: of row i and column j. -/
theorem inner1_impl {f g n : Int} {x y : List Int} {FX FY : List (List Int)} {w : World} {xa ya : Option Addr} {nR nC xc yc p q o p1 p2 p3 k : Nat} (hx : ArrsI w (.slice xa nR xc) FX) (hy : ArrsI w (.slice ya nC yc) FY)
    (h1 : w.cell? ⟨p1, 0, none⟩ = some (.func (.func 75) #[] #[.pointer (some ⟨p, 0, none⟩), .pointer (some ⟨q, 0, none⟩)])) (h2 : w.cell? ⟨p2, 0, none⟩ = some (.slice xa nR xc)) (h3 : w.cell? ⟨p3, 0, none⟩ = some (.slice ya nC yc)) (l1 : p1 < w.heap.size) (l2 : p2 < w.heap.size) (l3 : p3 < w.heap.size)
    (hm : MetAt w f g p q o) (hg : sign2 g = true) (hf : ok (neu f).1 = true) (hC : 0 < nC) (hk : k / nC < nR) (hk9 : k ≤ 90000) (ex : FX.getD (2 * (k / nC)) [] = [n] ∧ FX.getD (2 * (k / nC) + 1) [] = x) (ey : FY.getD (2 * (k % nC)) [] = [n] ∧ FY.getD (2 * (k % nC) + 1) [] = y) (ox : arrOk [n] x = true) (oy : arrOk [n] y = true) (hn : nC ≤ 90000) :
    Calls Try.prog 43 #[.int .i64 (k : Int), .pointer (some ⟨p1, 0, none⟩), .pointer (some ⟨p2, 0, none⟩), .pointer (some ⟨p3, 0, none⟩)] w fun r w' => ∃ v', r = .returned (.tuple #[v', .int .i64 (cellR f g x y n.toNat).2]) ∧ Arr w.heap.size w'.heap.size w' v' [] (cellL f g x y n.toNat) ∧ Below w.heap.size w w' := by
  obtain ⟨i, hi⟩ : ∃ i, i = k / nC := ⟨_, rfl⟩
  obtain ⟨j, hj⟩ : ∃ j, j = k % nC := ⟨_, rfl⟩
  have hjn : j < nC := by rw [hj]; exact Nat.mod_lt _ hC
  have ei : (k : Int).tdiv (nC : Int) = (i : Int) := by rw [Int.tdiv_eq_ediv_of_nonneg (by omega), hi]; simp
  have ei2 : (k : Int) / (nC : Int) = (i : Int) := by rw [hi]; simp
  have ej : (k : Int).tmod (nC : Int) = (j : Int) := by rw [Int.tmod_eq_emod_of_nonneg (by omega), hj]; simp
  have ej2 : (k : Int) % (nC : Int) = (j : Int) := by rw [hj]; simp
  rw [← hi] at hk ex
  rw [← hj] at ey
  have hib : i ≤ 90000 := by rw [hi]; exact Nat.le_trans (Nat.div_le_self _ _) hk9
  obtain ⟨o1, f1, s1, d1, rfl, ho1, c0, c1, i0, i1⟩ := hx.at (k := i) hk
  obtain ⟨o2, f2, s2, d2, rfl, ho2, e0, e1, j0, j1⟩ := hy.at (k := j) hjn
  rw [ex.1] at i0
  rw [ex.2] at i1
  rw [ey.1] at j0
  rw [ey.2] at j1
  obtain ⟨a1, b1, rfl, g0, i0⟩ := i0
  obtain ⟨a2, b2, rfl, g1, i1⟩ := i1
  obtain ⟨a3, b3, rfl, g2, j0⟩ := j0
  obtain ⟨a4, b4, rfl, g3, j1⟩ := j1
  have AX : Hid (ArrI w (.agg #[.slice a1 1 b1, .slice a2 x.length b2]) [n] x) := ⟨_, _, _, _, rfl, i0, i1, g0, g1⟩
  have AY : Hid (ArrI w (.agg #[.slice a3 1 b3, .slice a4 y.length b4]) [n] y) := ⟨_, _, _, _, rfl, j0, j1, g2, g3⟩
  have HMT : Hid (∀ W, Below w.heap.size w W → Calls Try.prog 75 #[.agg #[.slice a1 1 b1, .slice a2 x.length b2], .agg #[.slice a3 1 b3, .slice a4 y.length b4], .pointer (some ⟨p, 0, none⟩), .pointer (some ⟨q, 0, none⟩)] W fun r w' => ∃ v', r = .returned (.tuple #[v', .int .i64 (cellR f g x y n.toNat).2]) ∧ Arr W.heap.size w'.heap.size w' v' [] (cellL f g x y n.toNat) ∧ Below W.heap.size W w') := fun W hb => met_impl (AX.out.keep hb) (AY.out.keep hb) ox oy (hm.keep hb) hg hf
  generalize (cellR f g x y n.toNat).2 = QC at *
  generalize cellL f g x y n.toNat = QD at *
  simp only [List.length_cons, List.length_nil, Nat.zero_add] at c0 e0
  have hiR : (i : Int) < (nR : Int) := by omega
  have hjC : (j : Int) < (nC : Int) := by omega
  have hi0 : (0 : Int) ≤ (i : Int) := by omega
  have hj0 : (0 : Int) ≤ (j : Int) := by omega
  have hw1 : IntKind.i64.wrap (i : Int) = (i : Int) := wrapI (by omega) (by omega)
  have hw2 : IntKind.i64.wrap (j : Int) = (j : Int) := wrapI (by omega) (by omega)
  have hz : ((nC : Int) == 0) = false := by simp; omega
  have hz2 : (nC : Int) ≠ 0 := by omega
  have hz3 : nC ≠ 0 := by omega
  have hz4 : (nC == 0) = false := by simp; omega
  have hi' : k / nC = i := hi.symm
  have hj' : k % nC = j := hj.symm
  have hE := enters_of Try.func75 (by kernel_rfl) rfl
  clear i0 i1 j0 j1 g0 g1 g2 g3 hx hy ex ey ox oy hm hg hf hi hj
  have BA : Hid (∀ O : Obj, Below w.heap.size w (w.alloc O)) := fun O => bAlloc (Below.refl _ _) O
  go_enter Try.func43, Try.ntmps43
  go_wp2_with fail
  generalize hW : w.alloc (.cells #[.slice none 0 0, .slice none 0 0] 26) = wa
  have BW : Hid (Below w.heap.size w wa) := by rw [← hW]; exact bAlloc (Below.refl _ _) _
  have RB : Hid (Box wa w.heap.size (.slice none 0 0) (.slice none 0 0) 26) := by rw [← hW]; exact box_new w _ _ _
  clear hW
  have LT : Hid (w.heap.size < wa.heap.size) := RB.out.lt
  have KEEP : Hid (∀ W, Below w.heap.size w W → W.cell? ⟨p1, 0, none⟩ = some (.func (.func 75) #[] #[.pointer (some ⟨p, 0, none⟩), .pointer (some ⟨q, 0, none⟩)]) ∧ W.cell? ⟨p2, 0, none⟩ = some (.slice (some ⟨o1, f1, none⟩) nR xc) ∧ W.cell? ⟨p3, 0, none⟩ = some (.slice (some ⟨o2, f2, none⟩) nC yc) ∧ W.cell? ⟨o1, f1 + i * 2, none⟩ = some (.slice a1 1 b1) ∧ W.cell? ⟨o1, f1 + i * 2 + 1, none⟩ = some (.slice a2 x.length b2) ∧ W.cell? ⟨o2, f2 + j * 2, none⟩ = some (.slice a3 1 b3) ∧ W.cell? ⟨o2, f2 + j * 2 + 1, none⟩ = some (.slice a4 y.length b4)) := fun W hb =>
    ⟨(hb.cell (p := ⟨p1, 0, none⟩) l1).trans h1, (hb.cell (p := ⟨p2, 0, none⟩) l2).trans h2, (hb.cell (p := ⟨p3, 0, none⟩) l3).trans h3, (hb.cell (p := ⟨o1, f1 + i * 2, none⟩) ho1).trans c0, (hb.cell (p := ⟨o1, f1 + i * 2 + 1, none⟩) ho1).trans c1, (hb.cell (p := ⟨o2, f2 + j * 2, none⟩) ho2).trans e0, (hb.cell (p := ⟨o2, f2 + j * 2 + 1, none⟩) ho2).trans e1⟩
  clear h1 h2 h3 c0 c1 e0 e1
  have m0 := KEEP.out wa BW.out
  go_region_held3 (fun W => W.cell? ⟨p1, 0, none⟩ = some (.func (.func 75) #[] #[.pointer (some ⟨p, 0, none⟩), .pointer (some ⟨q, 0, none⟩)]) ∧ W.cell? ⟨p2, 0, none⟩ = some (.slice (some ⟨o1, f1, none⟩) nR xc) ∧ W.cell? ⟨p3, 0, none⟩ = some (.slice (some ⟨o2, f2, none⟩) nC yc) ∧ W.cell? ⟨o1, f1 + i * 2, none⟩ = some (.slice a1 1 b1) ∧ W.cell? ⟨o1, f1 + i * 2 + 1, none⟩ = some (.slice a2 x.length b2) ∧ W.cell? ⟨o2, f2 + j * 2, none⟩ = some (.slice a3 1 b3) ∧ W.cell? ⟨o2, f2 + j * 2 + 1, none⟩ = some (.slice a4 y.length b4))
    (first | exact m0 | with_reducible exact m9 | (exact KEEP.out _ (below_setCell (below_setCell B9.out (by omega) _ _) (by omega) _ _)))
    ((go_at_call 75; refine (HMT.out _ (BW.out.drew)).mono ?_; rintro r w9 ⟨v9, rfl, ha, hb⟩; obtain ⟨s9, t9, d9, f9, rfl, _, _, _, _⟩ := ha.arrI; have A9 : Hid (Arr wa.heap.size w9.heap.size w9 (.agg #[.slice s9 0 t9, .slice d9 QD.length f9]) [] QD) := ha; have B9 : Hid (Below w.heap.size w w9) := bTrans (BW.out.drew) hb; have R9 : Hid (Box w9 w.heap.size (.slice none 0 0) (.slice none 0 0) 26) := Box.keep (w := wa.drew) (RB.out.keep ((Below.refl _ _).drew)) hb; have m9 := KEEP.out w9 B9.out; have y0 := R9.out.c0; have y1 := R9.out.c1; have k0 := free_at R9.out 0; have k1 := free_at R9.out 1; have HRR : Hid (_ = _) := arr_stored (x' := .slice s9 0 t9) (y' := .slice d9 QD.length f9) R9.out; clear ha hb))
  all_goals
    go_wp2
    refine bodyPost_ret (results_arr_tmp Try.results43 _ _ w.heap.size _ _ rfl HRR.out) rfl ?_
    refine ⟨_, rfl, ?_, below_setCell (below_setCell B9.out (by omega) _ _) (by omega) _ _⟩
    have L1 := LT.out
    exact ((A9.out.setCell (by omega) _ _).setCell (by omega) _ _).mono (by omega) (by simp only [size_setCell]; omega)
end Go.Proofs.Ytbmkfmppcojcgaa
namespace Go.Proofs.Ytbmkfmppcojcgaa
set_option linter.unusedVariables false
theorem rows_facts {n0 : Int} {t d : List Int} (ho : arrOk (n0 :: t) d = true) :
    ∃ cnt N : Nat, n0 = (cnt : Int) ∧ cnt ≤ 300 ∧ N ≤ 300 ∧ cnt * N = d.length ∧ (rowsF (n0 :: t) d).length = 2 * cnt ∧
      ∀ k, k < cnt → (rowsF (n0 :: t) d).getD (2 * k) [] = t ∧ ∃ D, (rowsF (n0 :: t) d).getD (2 * k + 1) [] = D ∧ D.length = N ∧ arrOk t D = true ∧ ∀ j, j < N → D.getD j 0 = d.getD (k * N + j) 0 := by
  have hh := head_bd ho
  simp only [List.getD_cons_zero] at hh
  obtain ⟨cnt, rfl⟩ : ∃ cnt : Nat, n0 = (cnt : Int) := ⟨n0.toNat, by omega⟩
  have hL : (rowsF ((cnt : Int) :: t) d).length = 2 * cnt := by rw [rowsF_length, if_pos ⟨ho, by simp⟩]; simp
  by_cases hp : 0 < cnt
  · obtain ⟨p0, p1, p2⟩ := tail_size ho (by omega)
    obtain ⟨N, hN⟩ : ∃ N : Nat, sizeV t = N := ⟨(sizeV t).toNat, by omega⟩
    rw [hN] at p1
    have hmul : cnt * N = d.length := by
      have : ((cnt * N : Nat) : Int) = (d.length : Int) := by simpa using p1
      omega
    refine ⟨cnt, N, rfl, by omega, by omega, hmul, hL, fun k hk => ?_⟩
    have hat := flat2_at cnt k (fun _ => t) (fun i => (d.drop (i * N)).take N) hk
    have hR : rowsF ((cnt : Int) :: t) d = (List.range cnt).flatMap (fun i => [t, (d.drop (i * N)).take N]) := by
      unfold rowsF
      rw [if_pos ⟨ho, by simp⟩]
      simp [hN]
    have hle : k * N + N ≤ d.length := by
      have q : (k + 1) * N ≤ cnt * N := Nat.mul_le_mul_right N (by omega)
      rw [hmul, Nat.add_mul, Nat.one_mul] at q
      exact q
    have hlen : ((d.drop (k * N)).take N).length = N := by simp; omega
    rw [hR]
    refine ⟨hat.1, _, hat.2, hlen, ?_, fun j hj => ?_⟩
    · have hd : d.all ok = true := by simp only [arrOk, Bool.and_eq_true] at ho; exact ho.2
      simp only [arrOk, Bool.and_eq_true, decide_eq_true_eq, hlen, hN, true_and]
      rw [List.all_eq_true] at hd ⊢
      exact fun x hx => hd x (List.mem_of_mem_drop (List.mem_of_mem_take hx))
    · simp [List.getD, List.getElem?_take_of_lt hj]
  · obtain rfl : cnt = 0 := by omega
    have hz := arrOk_size ho
    have k4 := (sizeV_ok (arrOk_shape ho)).2.2.2
    rw [prodV_cons] at k4
    rw [show ((0 : Nat) : Int) = 0 from rfl, Int.zero_mul] at k4
    rw [show ((0 : Nat) : Int) = 0 from rfl] at hz
    have hd : d.length = 0 := by omega
    exact ⟨0, 0, rfl, by omega, by omega, by omega, hL, fun k hk => by omega⟩
theorem numAt_index {s d : List Int} (ho : arrOk s d = true) {k : Nat} (hk : k < d.length) : numAtOk s d (indexV s (k : Int)) = true ∧ numAtV s d (indexV s (k : Int)) = d.getD k 0 := by
  have hz := arrOk_size ho
  have q := (place_of_index (s := s) (p := (k : Int)) (by omega) (by omega) (by omega)).2
  have h1 : numAtOk s d (indexV s (k : Int)) = true := by simp [numAtOk, ho, q]
  refine ⟨h1, ?_⟩
  rw [numAt_good h1, q, Int.toNat_natCast]
end Go.Proofs.Ytbmkfmppcojcgaa
