/-
  Walks: what meeting makes of two signs: two vectors of one length, element by element, then reduced.
-/
import Derived.Test.YtbmkfmppcojcgaaGreatInnerN
import Derived.Test.YtbmkfmppcojcgaaGreatImplVecs
import Derived.Test.YtbmkfmppcojcgaaGreatImplRed5
namespace Go.Proofs.YtbmkfmppcojcgaaGreat
open Go.RowKit Go.Shelf
set_option linter.unusedVariables false
set_option linter.unusedSimpArgs false
/-- The number of a cell, as a list; none where there is a code. -/
def cellL (f g : Int) (x y : List Int) (n : Nat) : List Int := if (cellR f g x y n).2 = 0 then [(cellR f g x y n).1] else []
theorem redN_nil (f : Int) (h : ok (neu f).1 = true) : redN f [] = (0, [], [(neu f).1]) := by
  have h1 : arrOk [(([] : List Int).length : Int)] [] = true := by simp [arrOk, sizeV_1]
  have h2 : arrOk [] [(neu f).1] = true := one_ok h
  unfold redN reshapeR
  rw [show reshapeC [(([] : List Int).length : Int)] [] [] [(neu f).1] = 0 from by unfold reshapeC; rw [if_pos ⟨h1, h2⟩]; simp [sizeV_0']]
  rw [mkR_good]
  simp [sizeV_0', againD]
/-- The pairs, reduced. -/
theorem red_cell {f g n : Int} {x y : List Int} {w : World} {v : Value} {o : Nat} (h : ArrI w v [n] (pairD g x y n.toNat)) (h1 : arrOk [n] x = true) (h0 : pairC g x y n.toNat = 0) (hf : w.cell? ⟨o, 0, none⟩ = some (.int .i64 f)) (ho : o < w.heap.size) (hk : ok (neu f).1 = true) :
    Calls Tryz.prog 68 #[v, .pointer (some ⟨o, 0, none⟩)] w fun r w' => ∃ v', r = .returned (.tuple #[v', .int .i64 (cellR f g x y n.toNat).2]) ∧ Arr w.heap.size w'.heap.size w' v' [] (cellL f g x y n.toNat) ∧ Below w.heap.size w w' := by
  obtain ⟨a1, a2, _, _⟩ := vecN h1
  have hp := pair_arr h1 h0
  unfold cellL
  by_cases hn : n = 0
  · subst hn
    have q := reduce0_impl h hp hf ho
    rw [redN_nil f hk] at q
    rw [show (0 : Int).toNat = 0 from rfl, cellR_none, if_pos rfl]
    exact q
  · have q := reduce1_impl h hp (by omega) hf ho
    rw [rows_pair, ite_self] at q
    by_cases hc : (redL f [] (pairR g x y n.toNat)).1 = 0
    · obtain ⟨z, e1, e2⟩ := cellR_good h0 (by omega) hc
      rw [e1, hc] at q
      rw [e2, if_pos rfl]
      exact q
    · rw [redL_none hc] at q
      rw [cellR_bad h0 (by omega) hc, if_neg hc]
      exact q
set_option maxRecDepth 20000 in
set_option maxHeartbeats 4000000 in
/-- What meeting makes. -/
theorem met_impl {f g n : Int} {x y : List Int} {w : World} {u v : Value} {p q o : Nat} (h : ArrI w u [n] x) (k : ArrI w v [n] y) (hx : arrOk [n] x = true) (hy : arrOk [n] y = true) (hm : MetAt w f g p q o) (hg : sign2 g = true) (hk : ok (neu f).1 = true) :
    Calls Tryz.prog 57 #[u, v, .pointer (some ⟨p, 0, none⟩), .pointer (some ⟨q, 0, none⟩)] w fun r w' => ∃ v', r = .returned (.tuple #[v', .int .i64 (cellR f g x y n.toNat).2]) ∧ Arr w.heap.size w'.heap.size w' v' [] (cellL f g x y n.toNat) ∧ Below w.heap.size w w' := by
  obtain ⟨e1, e2⟩ := each_pair hx hy hg
  obtain ⟨a1, a2, lx, _⟩ := vecN hx
  obtain ⟨_, _, ly, _⟩ := vecN hy
  have H : Hid (ArrI w u [n] x) := h
  have K : Hid (ArrI w v [n] y) := k
  have HM : Hid (MetAt w f g p q o) := hm
  obtain ⟨a, c, b, e, rfl, _, _, _, _⟩ := h
  obtain ⟨a', c', b', e', rfl, _, _, _, _⟩ := k
  have HE : Hid (∀ W, Below w.heap.size w W → Calls Tryz.prog 9 #[.int .i64 g, .agg #[.slice a 1 c, .slice b x.length e], .agg #[.slice a' 1 c', .slice b' y.length e']] W fun r w' => ∃ v', r = .returned (.tuple #[v', .int .i64 (eachTwoC g [n] x [n] y)]) ∧ Arr W.heap.size w'.heap.size w' v' (eachTwoS g [n] x [n] y) (eachTwoD g [n] x [n] y) ∧ Below W.heap.size W w') := fun W hb => eachTwo_impl (H.out.keep hb) (K.out.keep hb) (by simp) (by omega) (by simp) (by omega)
  have HR : Hid (∀ W v, Below w.heap.size w W → pairC g x y n.toNat = 0 → ArrI W v (eachTwoS g [n] x [n] y) (eachTwoD g [n] x [n] y) → Calls Tryz.prog 68 #[v, .pointer (some ⟨o, 0, none⟩)] W fun r w' => ∃ v', r = .returned (.tuple #[v', .int .i64 (cellR f g x y n.toNat).2]) ∧ Arr W.heap.size w'.heap.size w' v' [] (cellL f g x y n.toNat) ∧ Below W.heap.size W w') := fun W v hb h0 hv => by
    rw [(e2 h0).1, (e2 h0).2] at hv
    exact red_cell hv hx h0 (HM.out.keep hb).f (HM.out.keep hb).lo hk
  have EB : Hid (pairC g x y n.toNat ≠ 0 → (cellR f g x y n.toNat).2 = pairC g x y n.toNat ∧ cellL f g x y n.toNat = []) := fun h0 => by
    have q : cellR f g x y n.toNat = (0, pairC g x y n.toNat) := by unfold cellR; rw [if_neg h0]
    unfold cellL
    rw [q]
    exact ⟨rfl, if_neg h0⟩
  rw [e1] at HE
  simp only [List.length_cons, List.length_nil, Nat.zero_add]
  generalize pairC g x y n.toNat = C at *
  generalize eachTwoS g [n] x [n] y = S1 at *
  generalize eachTwoD g [n] x [n] y = D1 at *
  generalize (cellR f g x y n.toNat).2 = QC at *
  generalize cellL f g x y n.toNat = QD at *
  have hE := enters_of Tryz.func68 (by kernel_rfl) rfl
  have XP : ∀ A B D : Obj, (((w.alloc A).alloc B).alloc D).cell? ⟨p, 0, none⟩ = some (.int .i64 g) := fun A B D => (HM.out.keep (bAlloc (bAlloc (bAlloc (Below.refl _ _) A) B) D)).g
  clear e1 e2 hx hy hm hg hk lx ly
  go_enter Tryz.func57, Tryz.ntmps57
  go_wp2_with fail
  refine (HE.out _ (bAlloc (bAlloc (bAlloc (Below.refl _ _) _) _) _)).mono ?_
  rintro r w1 ⟨v1, rfl, ha, hb⟩
  obtain ⟨s1, t1, d1, f1, rfl, _, _, _, _⟩ := ha.arrI
  have HB1 : Hid (Below w.heap.size w w1) := bTrans (bAlloc (bAlloc (bAlloc (Below.refl _ _) _) _) _) hb
  have A1 : Hid (ArrI w1 (.agg #[.slice s1 S1.length t1, .slice d1 D1.length f1]) S1 D1) := ha.arrI
  have R1 : Hid (Box w1 (w.heap.size + 1 + 1) (.slice none 0 0) (.slice none 0 0) 26) := by
    have q := box_new ((w.alloc (.cells #[.slice a 1 c, .slice b x.length e] 26)).alloc (.cells #[.slice a' 1 c', .slice b' y.length e'] 26)) (.slice none 0 0) (.slice none 0 0) 26
    simp only [World.size_alloc] at q
    exact q.keep hb
  clear ha hb XP
  have R2 : Hid (Box (w1.alloc (.cells #[.slice s1 S1.length t1, .slice d1 D1.length f1] 26)) (w.heap.size + 1 + 1) (.slice none 0 0) (.slice none 0 0) 26) := R1.out.keep (bAlloc (Below.refl _ _) _)
  have BW2 : Hid (Below w.heap.size w (w1.alloc (.cells #[.slice s1 S1.length t1, .slice d1 D1.length f1] 26))) := bAlloc HB1.out _
  by_cases hc : C = 0
  · subst hc
    have XQ : ∀ A : Obj, (w1.alloc A).cell? ⟨q, 0, none⟩ = some (.func (.func 68) #[] #[.pointer (some ⟨o, 0, none⟩)]) := fun A => (HM.out.keep (bAlloc HB1.out A)).r
    have LT : Hid (w.heap.size + 1 + 1 < w1.heap.size) := R1.out.lt
    go_wp2_with fail
    refine (HR.out _ _ BW2.out (by trivial) (A1.out.keep (bAlloc (Below.refl _ _) _))).mono ?_
    rintro r w3 ⟨v3, rfl, ha, hb⟩
    obtain ⟨s3, t3, d3, f3, rfl, _, _, _, _⟩ := ha.arrI
    have A3 : Hid (Arr (w1.heap.size + 1) w3.heap.size w3 (.agg #[.slice s3 0 t3, .slice d3 QD.length f3]) [] QD) := ha.mono (by simp) (Nat.le_refl _)
    have R3 : Hid (Box w3 (w.heap.size + 1 + 1) (.slice none 0 0) (.slice none 0 0) 26) := R2.out.keep hb
    have B3 : Hid (Below w.heap.size w w3) := bTrans BW2.out hb
    clear ha hb XQ
    have y0 := R3.out.c0
    have y1 := R3.out.c1
    have k0 := free_at R3.out 0
    have k1 := free_at R3.out 1
    have HRR : Hid (_ = _) := arr_stored (x' := .slice s3 0 t3) (y' := .slice d3 QD.length f3) R3.out
    simp only [List.length_nil]
    go_wp2
    refine bodyPost_ret (results_arr_tmp Tryz.results57 _ _ (w.heap.size + 1 + 1) _ _ rfl HRR.out) rfl ?_
    refine ⟨_, rfl, ?_, below_setCell (below_setCell B3.out (by omega) _ _) (by omega) _ _⟩
    have L1 := LT.out
    exact ((A3.out.setCell (by omega) _ _).setCell (by omega) _ _).mono (by omega) (by simp only [size_setCell]; omega)
  · obtain ⟨rfl, rfl⟩ := EB.out hc
    have y0 := R2.out.c0
    have y1 := R2.out.c1
    have k0 := free_at R2.out 0
    have k1 := free_at R2.out 1
    have HRR : Hid (_ = _) := arr_stored (x' := .slice none 0 0) (y' := .slice none 0 0) R2.out
    have hxx : (QC != 0) = true := by simpa using hc
    go_wp2
    refine bodyPost_ret (results_arr_tmp Tryz.results57 _ _ (w.heap.size + 1 + 1) _ _ rfl HRR.out) rfl ?_
    exact ⟨_, rfl, arr_zero _ _ _, below_setCell (below_setCell BW2.out (by omega) _ _) (by omega) _ _⟩
end Go.Proofs.YtbmkfmppcojcgaaGreat
