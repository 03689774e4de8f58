/-
  Several texts, one behind the other: ImplMake9, SpecRed, SpecMake1.
-/
import Derived.Test.YtnkacfgbkfkhdaaGreatY19
import Derived.Test.YtnkacfgbkfkhdaaGreatY28
import Derived.Test.YtnkacfgbkfkhdaaGreatY12
import Derived.Test.YtnkacfgbkfkhdaaGreatY26
import Derived.Test.YtnkacfgbkfkhdaaGreatY9
import Derived.Deep.Cut
import Derived.Deep.CutRange
import Derived.Deep.LoopGhost
import Derived.Deep.RegionHeld3
import Derived.Test.YtnkacfgbkfkhdaaGreatY5
import Derived.Test.YtnkacfgbkfkhdaaGreatY17
import Derived.Test.YtnkacfgbkfkhdaaGreatY3
namespace Go.Proofs.YtnkacfgbkfkhdaaGreat
open Go.RowKit
set_option linter.unusedVariables false
set_option linter.unusedSimpArgs false
theorem cell_keep6 {w w' : World} {o : Nat} {x : Value} (h : w.cell? ⟨o, 0, none⟩ = some x) (ho : o < w.heap.size) (hb : Below w.heap.size w w') : w'.cell? ⟨o, 0, none⟩ = some x := by rw [hb.cell (p := ⟨o, 0, none⟩) ho]; exact h
theorem three5 (w : World) (A B C : Obj) :
    (((w.alloc A).alloc B).alloc C).heap[w.heap.size]? = some A ∧ (((w.alloc A).alloc B).alloc C).heap[w.heap.size + 1]? = some B ∧ (((w.alloc A).alloc B).alloc C).heap[w.heap.size + 1 + 1]? = some C := by
  have e1 := heap_alloc_new w A
  have e2 := heap_alloc_new (w.alloc A) B
  have e3 := heap_alloc_new ((w.alloc A).alloc B) C
  simp only [World.size_alloc] at e2 e3
  refine ⟨?_, ?_, e3⟩
  · rw [heap_alloc_old _ _ (by simp only [World.size_alloc]; omega), heap_alloc_old _ _ (by simp only [World.size_alloc]; omega)]; exact e1
  · rw [heap_alloc_old _ _ (by simp only [World.size_alloc]; omega)]; exact e2
end Go.Proofs.YtnkacfgbkfkhdaaGreat
namespace Go.Proofs.YtnkacfgbkfkhdaaGreat
open Go.RowKit
set_option linter.unusedVariables false
set_option linter.unusedSimpArgs false
/-- What the loop keeps: the answer's box as it was laid, what was reckoned so far in a box of its own. -/
structure RedSt (w W : World) (q : Nat) (x y : Value) (t D : List Int) : Prop where
  r : Box W w.heap.size (.slice none 0 0) (.slice none 0 0) 26
  z : Box W q x y 26
  a : ∃ B C, Arr B C W (.agg #[x, y]) t D ∧ w.heap.size + 1 ≤ B ∧ C ≤ W.heap.size ∧ (C ≤ q ∨ q < B)
  hq : w.heap.size < q
  bl : Below w.heap.size w W
theorem RedSt.arrI {w W : World} {q : Nat} {x y : Value} {t D : List Int} (h : RedSt w W q x y t D) : ArrI W (.agg #[x, y]) t D := by
  obtain ⟨B, C, ha, _⟩ := h.a
  exact ha.arrI
theorem RedSt.put {w W W' : World} {q : Nat} {x y x' y' : Value} {t D D' : List Int} (h : RedSt w W q x y t D) (hb : Below W.heap.size W W') (ha : Arr W.heap.size W'.heap.size W' (.agg #[x', y']) t D') : RedSt w ((W'.setCell ⟨q, 0, none⟩ x').setCell ⟨q, 1, none⟩ y') q x' y' t D' := by
  have h1 := h.hq
  have h2 := h.z.lt
  have h3 := hb.size
  have h4 := h.bl.size
  have ww : Win q (q + 1) W' ((W'.setCell ⟨q, 0, none⟩ x').setCell ⟨q, 1, none⟩ y') := (win_setCell _ _ _ _).trans (win_setCell _ _ _ _)
  refine ⟨(h.r.keep hb).win ww (.inl (by omega)), arr_stored (h.z.keep hb), ⟨W.heap.size, W'.heap.size, ha.win ww (.inr (by omega)), by omega, by simp [size_setCell], .inr h2⟩, h1, (bTrans h.bl hb).trans (ww.below (by omega) (by omega))⟩
set_option maxRecDepth 20000 in
set_option maxHeartbeats 8000000 in
/-- l7Reduce, of one row at least. -/
theorem l7red_spec {g : Int} {t : List Int} {R : List (List Int)} {w : World} {v u : Value} (h : ArrsI w v (flatR t R)) (hR : R ≠ []) (hok : ∀ i, i < R.length → arrOk t (R.getD i []) = true) (hn : R.length ≤ 300) :
    Calls Tryz.prog 61 #[.int .i64 g, v, u] w fun r w' => ∃ v', r = .returned (.tuple #[v', .int .i64 (redL g t R).1]) ∧ Arr w.heap.size w'.heap.size w' v' (if (redL g t R).1 = 0 then t else []) (redL g t R).2 ∧ Below w.heap.size w w' := by
  have AR : Hid (ArrsI w v (flatR t R)) := h
  have HOK : Hid (∀ i, i < R.length → arrOk t (R.getD i []) = true) := hok
  obtain ⟨ra, rn, rc, rfl, e5, _⟩ := h
  obtain ⟨M, hM⟩ : ∃ M, R.length = M + 1 := ⟨R.length - 1, by have := List.length_pos_iff.2 hR; omega⟩
  obtain rfl : rn = M + 1 := by rw [flatR_len] at e5; omega
  have HM : Hid (R.length = M + 1) := hM
  have hM3 : M ≤ 299 := by omega
  have HTL : Hid (t.length ≤ 1048576) := by
    have := (sizeV_ok (arrOk_shape (hok 0 (by omega)))).1
    show _ ≤ _; omega
  have hRD : ∀ i, i < M + 1 → (R.getD i []).length ≤ 1048576 := fun i hi => by have := arrOk_len (hok i (by omega)); omega
  obtain ⟨o, off, sx, sy, rfl, ho, p0, p1, i0, i1⟩ := AR.out.at (k := M) (by omega)
  rw [(flatR_at t R (i := M) (by omega)).1] at i0
  rw [(flatR_at t R (i := M) (by omega)).2] at i1
  have E0 : Hid (redL g t (R.drop M) = (0, R.getD M [])) := by
    show _ = _
    rw [drop_at (by omega), List.drop_eq_nil_of_le (by omega), redL_one]
  have hl0 := hRD M (by omega)
  generalize R.getD M [] = r0 at *
  obtain ⟨ax, cx, rfl, gx, ix⟩ := i0
  obtain ⟨ay, cy, rfl, gy, iy⟩ := i1
  have A0 : Hid (ArrI w (.agg #[.slice ax t.length cx, .slice ay r0.length cy]) t r0) := ⟨_, _, _, _, rfl, ix, iy, gx, gy⟩
  have u0 : ∀ O : Obj, (w.alloc O).cell? ⟨o, off + M * 2, none⟩ = some (.slice ax t.length cx) := fun O => ((bAlloc (Below.refl _ _) O).cell (p := ⟨o, off + M * 2, none⟩) ho).trans p0
  have u1 : ∀ O : Obj, (w.alloc O).cell? ⟨o, off + M * 2 + 1, none⟩ = some (.slice ay r0.length cy) := fun O => ((bAlloc (Below.refl _ _) O).cell (p := ⟨o, off + M * 2 + 1, none⟩) ho).trans p1
  have hne : ((M : Int) + 1 == 0) = false := by simp; omega
  have HL0 : Hid (r0.length ≤ 1048576) := hl0
  obtain ⟨QC, hQC⟩ : ∃ QC, QC = (redL g t R).1 := ⟨_, rfl⟩
  obtain ⟨QS, hQS⟩ : ∃ QS, QS = (if (redL g t R).1 = 0 then t else []) := ⟨_, rfl⟩
  obtain ⟨QD, hQD⟩ : ∃ QD, QD = (redL g t R).2 := ⟨_, rfl⟩
  rw [← hQS, ← hQC, ← hQD]
  have EG : Hid (∀ d, redL g t R = (0, d) → QC = 0 ∧ QS = t ∧ QD = d) := fun d e => by rw [hQC, hQS, hQD, e]; exact ⟨rfl, if_pos rfl, rfl⟩
  have EB : Hid (∀ c, c ≠ 0 → redL g t R = (c, []) → QC = c ∧ QS = [] ∧ QD = []) := fun c hc e => by rw [hQC, hQS, hQD, e]; exact ⟨rfl, if_neg hc, rfl⟩
  clear hQC hQS hQD
  clear hR hok hM e5 p0 p1 ix iy gx gy hl0
  go_enter Tryz.func61, Tryz.ntmps61
  go_wp2_with fail
  refine (copy_spec (A0.out.keep (bAlloc (Below.refl _ _) _)) HTL.out HL0.out).mono ?_
  rintro r w1 ⟨v1, rfl, ha, hb⟩
  obtain ⟨xa, xc, ya, yc, rfl, _, _, _, _⟩ := ha.arrI
  have HA1 : Hid (Arr (w.heap.size + 1) w1.heap.size w1 (.agg #[.slice xa t.length xc, .slice ya r0.length yc]) t r0) := ha.mono (by simp) (Nat.le_refl _)
  have HB1 : Hid (Below w.heap.size w w1) := bTrans (bAlloc (Below.refl _ _) _) hb
  have R1 : Hid (Box w1 w.heap.size (.slice none 0 0) (.slice none 0 0) 26) := (box_new w _ _ _).keep hb
  clear ha hb u0 u1
  go_wp2
  generalize hW : w1.alloc (.cells #[.slice xa t.length xc, .slice ya r0.length yc] 26) = W2
  have ST : Hid (RedSt w W2 w1.heap.size (.slice xa t.length xc) (.slice ya r0.length yc) t r0) := by
    have BW : Below w1.heap.size w1 W2 := by rw [← hW]; exact bAlloc (Below.refl _ _) _
    have z := BW.size
    exact ⟨R1.out.keep BW, by rw [← hW]; exact box_new w1 _ _ _, ⟨_, _, HA1.out.keep BW, Nat.le_refl _, z, .inl (Nat.le_refl _)⟩, R1.out.lt, bTrans HB1.out BW⟩
  clear hW HA1 HB1 R1
  go_loopg [14] (M + 1) (fun gk i w' => ∃ (j : Nat) (z : Int) (xa ya : Option Addr) (xc yc : Nat) (D : List Int), gk = j + 1 ∧ j ≤ M ∧ z = (j : Int) - 1 ∧ i = .int .i64 z ∧ redL g t (R.drop j) = (0, D) ∧ RedSt w w' w1.heap.size (.slice xa t.length xc) (.slice ya D.length yc) t D)
  case atStart => exact ⟨M, _, _, _, _, _, _, rfl, Nat.le_refl _, rfl, by go_num, E0.out, ST.out⟩
  case round =>
    obtain ⟨j, z, xa, ya, xc, yc, D, rfl, hj, hz, rfl, hD, hst⟩ := hrel
    have HD : Hid (redL g t (R.drop j) = (0, D)) := hD
    have HST : Hid (RedSt w wr w1.heap.size (.slice xa t.length xc) (.slice ya D.length yc) t D) := hst
    clear hD hst ST E0
    by_cases hp : 0 ≤ z
    · obtain ⟨J, rfl⟩ : ∃ J : Nat, z = (J : Int) := ⟨z.toNat, by omega⟩
      obtain rfl : j = J + 1 := by omega
      clear hz
      have hJM : (J : Int) < (M : Int) + 1 := by omega
      have HDA : Hid (arrOk t D = true) := by
        have q := redL_ok (g := g) (t := t) (R := R.drop (J + 1)) (by intro e; have h1 := congrArg List.length e; have h2 := HM.out; rw [List.length_drop, List.length_nil] at h1; omega) (fun i hi => by
          have e : (R.drop (J + 1)).getD i [] = R.getD (J + 1 + i) [] := by simp [List.getD]
          rw [e]
          exact HOK.out _ (by rw [List.length_drop] at hi; omega)) (by rw [HD.out])
        rw [HD.out] at q
        exact q
      obtain ⟨o, off, sx, sy, ee, ho, p0, p1, i0, i1⟩ := AR.out.at (k := J) (by omega)
      cases ee
      rw [(flatR_at t R (i := J) (by have := HM.out; omega)).1] at i0
      rw [(flatR_at t R (i := J) (by have := HM.out; omega)).2] at i1
      have ER : redL g t (R.drop J) = (eachTwoC g t (R.getD J []) t D, eachTwoD g t (R.getD J []) t D) := by
        have q := HD.out
        rw [drop_at (by have := HM.out; omega), redL_cons (by intro e; have h1 := congrArg List.length e; have h2 := HM.out; rw [List.length_drop, List.length_nil] at h1; omega) (by rw [q]), q]
      have HRL : Hid ((R.getD J []).length ≤ 1048576) := hRD J (by omega)
      generalize R.getD J [] = rj at *
      obtain ⟨ax, cx, rfl, gx, ix⟩ := i0
      obtain ⟨ay, cy, rfl, gy, iy⟩ := i1
      have AJ : Hid (ArrI wr (.agg #[.slice ax t.length cx, .slice ay rj.length cy]) t rj) := ArrI.keep ⟨_, _, _, _, rfl, ix, iy, gx, gy⟩ HST.out.bl
      have c0 : wr.cell? ⟨o, off + J * 2, none⟩ = some (.slice ax t.length cx) := (HST.out.bl.cell (p := ⟨o, off + J * 2, none⟩) ho).trans p0
      have c1 : wr.cell? ⟨o, off + J * 2 + 1, none⟩ = some (.slice ay rj.length cy) := (HST.out.bl.cell (p := ⟨o, off + J * 2 + 1, none⟩) ho).trans p1
      have HLO : Hid (o < wr.heap.size) := Nat.lt_of_lt_of_le ho HST.out.bl.size
      have HDL : Hid (D.length ≤ 1048576) := by have := arrOk_len HDA.out; show _ ≤ _; omega
      have HE : Hid (∀ W, Below wr.heap.size wr W → Calls Tryz.prog 84 #[.int .i64 g, .agg #[.slice ax t.length cx, .slice ay rj.length cy], .agg #[.slice xa t.length xc, .slice ya D.length yc]] W fun r w' => ∃ v', r = .returned (.tuple #[v', .int .i64 (eachTwoC g t rj t D)]) ∧ Arr W.heap.size w'.heap.size w' v' (eachTwoS g t rj t D) (eachTwoD g t rj t D) ∧ Below W.heap.size W w') := fun W hb => eachTwo_spec (AJ.out.keep hb) (HST.out.arrI.keep hb) HTL.out HRL.out HTL.out HDL.out
      have HSH : Hid (eachTwoC g t rj t D = 0 → eachTwoS g t rj t D = t) := row_shape
      obtain ⟨C, hC⟩ : ∃ C, C = eachTwoC g t rj t D := ⟨_, rfl⟩
      obtain ⟨S', hS'⟩ : ∃ S', S' = eachTwoS g t rj t D := ⟨_, rfl⟩
      obtain ⟨D', hD'⟩ : ∃ D', D' = eachTwoD g t rj t D := ⟨_, rfl⟩
      rw [← hC, ← hS', ← hD'] at HE
      rw [← hC, ← hS'] at HSH
      rw [← hC, ← hD'] at ER
      have HER : Hid (redL g t (R.drop J) = (C, D')) := ER
      have z0 := HST.out.z.c0
      have z1 := HST.out.z.c1
      clear hC hS' hD' ER p0 p1 ix iy gx gy HDA
      go_wp2_with fail
      go_cut [15, 16] from 51 to 69 (fun p q w' => ∃ (gN : Nat) (aN : Option Addr) (cN : Nat) (bN : Option Addr) (eN : Nat), p = .pointer (some ⟨gN, 0, none⟩) ∧ q = .int .i64 C ∧ Box w' gN (.slice aN S'.length cN) (.slice bN D'.length eN) 26 ∧ Arr wr.heap.size w'.heap.size w' (.agg #[.slice aN S'.length cN, .slice bN D'.length eN]) S' D' ∧ Below wr.heap.size wr w')
      case first =>
        have q0 := (fun O : Obj => (show (World.drew (wr.alloc O)).cell? ⟨o, off + J * 2, none⟩ = some (.slice ax t.length cx) from ((bAlloc (Below.refl wr.heap.size wr) O).cell (p := ⟨o, off + J * 2, none⟩) HLO.out).trans c0))
        have q1 := (fun O : Obj => (show (World.drew (wr.alloc O)).cell? ⟨o, off + J * 2 + 1, none⟩ = some (.slice ay rj.length cy) from ((bAlloc (Below.refl wr.heap.size wr) O).cell (p := ⟨o, off + J * 2 + 1, none⟩) HLO.out).trans c1))
        have q2 := (fun O : Obj => (show (World.drew (wr.alloc O)).cell? ⟨w1.heap.size, 0, none⟩ = some (.slice xa t.length xc) from (HST.out.z.keep (bAlloc (Below.refl _ _) O)).c0))
        have q3 := (fun O : Obj => (show (World.drew (wr.alloc O)).cell? ⟨w1.heap.size, 1, none⟩ = some (.slice ya D.length yc) from (HST.out.z.keep (bAlloc (Below.refl _ _) O)).c1))
        have LZ : Hid (w1.heap.size < wr.heap.size) := HST.out.z.lt
        go_region_held3 (fun w' => w'.cell? ⟨o, off + J * 2, none⟩ = some (.slice ax t.length cx) ∧ w'.cell? ⟨o, off + J * 2 + 1, none⟩ = some (.slice ay rj.length cy) ∧ w'.cell? ⟨w1.heap.size, 0, none⟩ = some (.slice xa t.length xc) ∧ w'.cell? ⟨w1.heap.size, 1, none⟩ = some (.slice ya D.length yc))
          (first | (refine ⟨?_, ?_, ?_, ?_⟩ <;> (first | with_reducible assumption | simp only [*])) | exact ⟨c0, c1, z0, z1⟩)
          ((go_at_call 84; refine (HE.out _ (by repeat first | exact (Below.refl _ _).drew | exact Below.refl _ _ | refine bAlloc ?_ _ | refine Below.drew ?_)).mono ?_; rintro r w5 ⟨v5, rfl, ha5, hb5⟩; obtain ⟨xa5, xc5, ya5, yc5, rfl, _, _, _, _⟩ := ha5.arrI; have HB5 : Hid (Below wr.heap.size wr w5) := bTrans (by repeat first | exact (Below.refl _ _).drew | exact Below.refl _ _ | refine bAlloc ?_ _ | refine Below.drew ?_) hb5; have HA5 : Hid (Arr _ w5.heap.size w5 (.agg #[.slice xa5 S'.length xc5, .slice ya5 D'.length yc5]) S' D') := ha5; (try have bq : Hid (Box w5 wr.heap.size (.slice none 0 0) (.slice none 0 0) 26) := Box.keep (w := World.drew (World.alloc wr (.cells #[.slice none 0 0, .slice none 0 0] 26))) (box_new wr _ _ _) hb5); have d0 := (HB5.out.cell (p := ⟨o, off + J * 2, none⟩) HLO.out).trans c0; have d1 := (HB5.out.cell (p := ⟨o, off + J * 2 + 1, none⟩) HLO.out).trans c1; have d2 := (HST.out.z.keep HB5.out).c0; have d3 := (HST.out.z.keep HB5.out).c1; have e0 := (fun O : Obj => ((bAlloc HB5.out O).cell (p := ⟨o, off + J * 2, none⟩) HLO.out).trans c0); have e1 := (fun O : Obj => ((bAlloc HB5.out O).cell (p := ⟨o, off + J * 2 + 1, none⟩) HLO.out).trans c1); have e2 := (fun O : Obj => (HST.out.z.keep (bAlloc HB5.out O)).c0); have e3 := (fun O : Obj => (HST.out.z.keep (bAlloc HB5.out O)).c1); (try have m0 := bq.out.c0); (try have m1 := bq.out.c1); (try have f0 : w5.frozen? ⟨wr.heap.size, 0, none⟩ = false := free_at bq.out 0); (try have f1 : w5.frozen? ⟨wr.heap.size, 1, none⟩ = false := free_at bq.out 1); (try have t0 := (fun (_ : Hid (Box w5 wr.heap.size (.slice none 0 0) (.slice none 0 0) 26)) (x y : Value) => (((HST.out.z.keep HB5.out).win (win_setCell _ wr.heap.size 0 x) (.inl LZ.out)).win (win_setCell _ wr.heap.size 1 y) (.inl LZ.out)).c0) bq); (try have t1 := (fun (_ : Hid (Box w5 wr.heap.size (.slice none 0 0) (.slice none 0 0) 26)) (x y : Value) => (((HST.out.z.keep HB5.out).win (win_setCell _ wr.heap.size 0 x) (.inl LZ.out)).win (win_setCell _ wr.heap.size 1 y) (.inl LZ.out)).c1) bq); (try have t2 := (fun (_ : Hid (Box w5 wr.heap.size (.slice none 0 0) (.slice none 0 0) 26)) (x y : Value) => (show ((w5.setCell ⟨wr.heap.size, 0, none⟩ x).setCell ⟨wr.heap.size, 1, none⟩ y).cell? ⟨o, off + J * 2, none⟩ = some (.slice ax t.length cx) by rw [World.cell?_setCell_far _ _ _ _ (Nat.ne_of_gt HLO.out), World.cell?_setCell_far _ _ _ _ (Nat.ne_of_gt HLO.out)]; exact d0)) bq); (try have t3 := (fun (_ : Hid (Box w5 wr.heap.size (.slice none 0 0) (.slice none 0 0) 26)) (x y : Value) => (show ((w5.setCell ⟨wr.heap.size, 0, none⟩ x).setCell ⟨wr.heap.size, 1, none⟩ y).cell? ⟨o, off + J * 2 + 1, none⟩ = some (.slice ay rj.length cy) by rw [World.cell?_setCell_far _ _ _ _ (Nat.ne_of_gt HLO.out), World.cell?_setCell_far _ _ _ _ (Nat.ne_of_gt HLO.out)]; exact d1)) bq); clear ha5 hb5))
        all_goals
          go_wp2_with fail
          go_meet
          case rel =>
            first
              | exact ⟨w5.heap.size, _, _, _, _, rfl, rfl, box_new w5 _ _ _, (HA5.out.keep (bAlloc (Below.refl _ _) _)).mono (by first | exact Nat.le_refl _ | simp) (by simp), bAlloc HB5.out _⟩
              | exact ⟨wr.heap.size, _, _, _, _, rfl, rfl, arr_stored bq.out, ((HA5.out.setCell (by simp) _ _).setCell (by simp) _ _).mono (by simp) (by simp [size_setCell]), below_setCell (below_setCell HB5.out (Nat.le_refl _) _ _) (Nat.le_refl _) _ _⟩
      case rest =>
        obtain ⟨gN, aN, cN, bN, eN, rfl, rfl, hbx, har, hbl⟩ := hcut
        have HBX : Hid (Box wc gN (.slice aN S'.length cN) (.slice bN D'.length eN) 26) := hbx
        have HAR : Hid (Arr wr.heap.size wc.heap.size wc (.agg #[.slice aN S'.length cN, .slice bN D'.length eN]) S' D') := har
        have HBL : Hid (Below wr.heap.size wr wc) := hbl
        have RC : Hid (Box wc w.heap.size (.slice none 0 0) (.slice none 0 0) 26) := HST.out.r.keep hbl
        have ZC : Hid (Box wc w1.heap.size (.slice xa t.length xc) (.slice ya D.length yc) 26) := HST.out.z.keep hbl
        clear hbx har hbl c0 c1 z0 z1 HE
        by_cases hc : C = 0
        · subst hc
          obtain rfl : S' = t := HSH.out rfl
          have x0 := HBX.out.c0
          have x1 := HBX.out.c1
          have y0 := ZC.out.c0
          have y1 := ZC.out.c1
          have f0 : wc.frozen? ⟨w1.heap.size, 0, none⟩ = false := free_at ZC.out 0
          have f1 : wc.frozen? ⟨w1.heap.size, 1, none⟩ = false := free_at ZC.out 1
          have ST2 : Hid (RedSt w ((wc.setCell ⟨w1.heap.size, 0, none⟩ (.slice aN S'.length cN)).setCell ⟨w1.heap.size, 1, none⟩ (.slice bN D'.length eN)) w1.heap.size (.slice aN S'.length cN) (.slice bN D'.length eN) S' D') := HST.out.put HBL.out HAR.out
          go_wp2
          go_roundg (J + 1)
          case measure => omega
          case rel => exact ⟨J, _, _, _, _, _, _, rfl, by omega, rfl, by go_num, HER.out, ST2.out⟩
        · have hcb : (C != 0) = true := by simpa using hc
          have EF : Hid (redL g t R = (C, [])) := by
            have q := redL_left (g := g) (t := t) R J (by rw [HER.out]; exact hc)
            rw [HER.out] at q
            exact q
          have y0 := RC.out.c0
          have y1 := RC.out.c1
          have f0 : wc.frozen? ⟨w.heap.size, 0, none⟩ = false := free_at RC.out 0
          have f1 : wc.frozen? ⟨w.heap.size, 1, none⟩ = false := free_at RC.out 1
          have HR : Hid (((wc.setCell ⟨w.heap.size, 0, none⟩ (.slice none 0 0)).setCell ⟨w.heap.size, 1, none⟩ (.slice none 0 0)).heap[w.heap.size]? = some (.cells #[.slice none 0 0, .slice none 0 0] 26 (0, 0))) := arr_stored RC.out
          have HCN : Hid (C ≠ 0) := hc
          clear hc
          go_wp2
          refine bodyPost_ret (results_arr_tmp Tryz.results61 _ _ w.heap.size _ _ rfl HR.out) rfl ?_
          obtain ⟨rfl, rfl, rfl⟩ := EB.out _ HCN.out EF.out
          exact ⟨_, rfl, arr_zero _ _ _, below_setCell (below_setCell (bTrans HST.out.bl HBL.out) (Nat.le_refl _) _ _) (Nat.le_refl _) _ _⟩
    · obtain rfl : j = 0 := by omega
      have EF : Hid (redL g t R = (0, D)) := by have q := HD.out; rw [List.drop_zero] at q; exact q
      have x0 := HST.out.z.c0
      have x1 := HST.out.z.c1
      have y0 := HST.out.r.c0
      have y1 := HST.out.r.c1
      have f0 : wr.frozen? ⟨w.heap.size, 0, none⟩ = false := free_at HST.out.r 0
      have f1 : wr.frozen? ⟨w.heap.size, 1, none⟩ = false := free_at HST.out.r 1
      have HR : Hid (((wr.setCell ⟨w.heap.size, 0, none⟩ (.slice xa t.length xc)).setCell ⟨w.heap.size, 1, none⟩ (.slice ya D.length yc)).heap[w.heap.size]? = some (.cells #[.slice xa t.length xc, .slice ya D.length yc] 26 (0, 0))) := arr_stored HST.out.r
      go_wp2
      refine bodyPost_ret (results_arr_tmp Tryz.results61 _ _ w.heap.size _ _ rfl HR.out) rfl ?_
      obtain ⟨rfl, rfl, rfl⟩ := EG.out _ EF.out
      obtain ⟨B, C, ha, hB, hC, _⟩ := HST.out.a
      exact ⟨_, rfl, ((ha.setCell (by omega) _ _).setCell (by omega) _ _).mono (by omega) (by simp only [size_setCell]; exact hC), below_setCell (below_setCell HST.out.bl (Nat.le_refl _) _ _) (Nat.le_refl _) _ _⟩
end Go.Proofs.YtnkacfgbkfkhdaaGreat
namespace Go.Proofs.YtnkacfgbkfkhdaaGreat
open Go.RowKit
set_option linter.unusedVariables false
set_option linter.unusedSimpArgs false
theorem okC_good {s d : List Int} (h : arrOk s d = true) : okC s d = 0 := by unfold okC; rw [if_pos h]
theorem okC_bad {s d : List Int} (h : ¬ arrOk s d = true) : okC s d = 1 := by unfold okC; rw [if_neg h]
/-- What l5Right makes of an array. -/
def rightR (s d : List Int) : Int × List Int × List Int := mkR (if arrOk s d = true then 0 else 6) s d
end Go.Proofs.YtnkacfgbkfkhdaaGreat
