/-
  Walks: the specification's EachOne.
-/
import Derived.Test.YtfmheanmkfdjnacEachP
import Derived.Test.YtfmheanmkfdjnacSpecCopy
import Derived.Test.YtfmheanmkfdjnacSpecArr
import Derived.Test.YtfmheanmkfdjnacSmall
namespace Go.Proofs.Ytfmheanmkfdjnac
open Go.RowKit
set_option linter.unusedVariables false
set_option linter.unusedSimpArgs false
theorem eachOne_bad {g : Int} {s d : List Int} (h : eachOneC g s d ≠ 0) : eachOneS g s d = [] ∧ eachOneD g s d = [] := by
  unfold eachOneS eachOneD; rw [if_neg h, if_neg h]; exact ⟨rfl, rfl⟩
theorem eachOne_good {g : Int} {s d : List Int} (h : eachOneC g s d = 0) : eachOneS g s d = s ∧ eachOneD g s d = (List.range d.length).map (fun i => (oneV g (d.getD i 0)).1) := by
  unfold eachOneS eachOneD; rw [if_pos h, if_pos h]; exact ⟨rfl, rfl⟩
theorem below_of_win {B : Nat} {w a b : World} (h : Below w.heap.size w a) (k : Win B B a b) : Below w.heap.size w b := by
  exact h.trans ⟨k.os, k.tape, k.output, k.size, fun i hi => k.block i (Nat.lt_of_lt_of_le hi h.size) (by omega)⟩
set_option maxRecDepth 20000 in
set_option maxHeartbeats 4000000 in
/-- EachOne. -/
theorem eachOne_spec {g : Int} {s d : List Int} {w : World} {v : Value} (h : ArrI w v s d) (hs : s.length ≤ 1048576) (hd : d.length ≤ 1048576) :
    Calls Try.prog 19 #[.int .i64 g, v] w fun e w' => ∃ v', e = .returned (.tuple #[v', .int .i64 (eachOneC g s d)]) ∧ Arr w.heap.size w'.heap.size w' v' (eachOneS g s d) (eachOneD g s d) ∧ Below w.heap.size w w' := by
  have H : Hid (ArrI w v s d) := h
  obtain ⟨a, c, b, e, rfl, h1, h2, _, _⟩ := h
  have H2 : Hid (Ints w b d) := h2
  have HS : Hid (s.length ≤ 1048576) := hs
  have HD : Hid (d.length ≤ 1048576) := hd
  clear h1 h2 hs
  by_cases hg : arrOk s d = true ∧ sign1 g = true
  · obtain ⟨ho, hs1⟩ := hg
    have HO : Hid (arrOk s d = true) := ho
    have HG : Hid (sign1 g = true) := hs1
    obtain ⟨C, hC⟩ : ∃ C, C = eachOneC g s d := ⟨_, rfl⟩
    have HC : Hid (C = firstC (fun i => (oneV g (d.getD i 0)).2) d.length) := by show _ = _; rw [hC]; unfold eachOneC; rw [if_pos ⟨ho, hs1⟩]
    have HBAD : Hid (C ≠ 0 → eachOneS g s d = [] ∧ eachOneD g s d = []) := by rw [hC]; exact eachOne_bad
    have HGOOD : Hid (C = 0 → eachOneS g s d = s ∧ eachOneD g s d = (List.range d.length).map (fun i => (oneV g (d.getD i 0)).1)) := by rw [hC]; exact eachOne_good
    rw [← hC]
    clear hC ho hs1
    go_enter Try.func19, Try.ntmps19
    go_wp2_with fail
    refine (arrOk_spec (H.out.keep (bAlloc (bAlloc (Below.refl _ _) _) _)) HD.out).mono ?_
    rintro r w1 ⟨rfl, hb⟩
    have HB1 : Hid (Below w.heap.size w w1) := bTrans (bAlloc (bAlloc (Below.refl _ _) _) _) hb
    have X1 : Hid (Box w1 w.heap.size (.slice a s.length c) (.slice b d.length e) 26) := ((box_new w _ _ _).keep (bAlloc (Below.refl _ _) _)).keep hb
    have Y1 : Hid (Box w1 (w.heap.size + 1) (.slice none 0 0) (.slice none 0 0) 26) := (box_new2 w _ _ _ _).keep hb
    have x0 := X1.out.c0
    have x1 := X1.out.c1
    clear hb
    rw [HO.out]
    go_wp2_with fail
    refine (sign1_spec g _).mono ?_
    rintro r w' ⟨rfl, hw⟩
    subst w'
    rw [HG.out]
    go_wp2_with fail
    refine (copy_spec (H.out.keep HB1.out) HS.out HD.out).mono ?_
    rintro r w2 ⟨v', rfl, ha, hb⟩
    obtain ⟨p, q, rfl, pp, pq, hap⟩ := ha
    obtain ⟨a', c', rfl, _⟩ := pp.ints
    obtain ⟨b', e', rfl, _⟩ := pq.ints
    have PP : Hid (Piece w1.heap.size w2.heap.size w2 (.slice a' s.length c') s) := pp
    have PQ : Hid (Piece w1.heap.size w2.heap.size w2 (.slice b' d.length e') d) := pq
    have AP : Hid (Apart (.slice a' s.length c') (.slice b' d.length e')) := hap
    have HB2 : Hid (Below w.heap.size w w2) := bTrans HB1.out hb
    have X2 : Hid (Box w2 w.heap.size (.slice a s.length c) (.slice b d.length e) 26) := X1.out.keep hb
    have Y2 : Hid (Box w2 (w.heap.size + 1) (.slice none 0 0) (.slice none 0 0) 26) := Y1.out.keep hb
    have S1 : Hid (w.heap.size + 1 < w1.heap.size) := Y1.out.lt
    have S2 : Hid (w1.heap.size ≤ w2.heap.size) := hb.size
    clear pp pq hap hb x0 x1 X1 Y1 HB1
    go_wp2
    generalize hW : w2.alloc (.cells #[.slice a' s.length c', .slice b' d.length e'] 26) = W3
    have Z3 : Hid (Box W3 w2.heap.size (.slice a' s.length c') (.slice b' d.length e') 26) := by rw [← hW]; exact box_new w2 _ _ _
    have B3 : Hid (Below w2.heap.size w2 W3) := by rw [← hW]; exact bAlloc (Below.refl _ _) _
    clear hW
    go_loopw [7] (fun i w' => ∃ k : Nat, k ≤ d.length ∧ i = .int .i64 (k : Int) ∧ firstC (fun i => (oneV g (d.getD i 0)).2) k = 0 ∧ Piece w1.heap.size w2.heap.size w' (.slice b' d.length e') (setTo (fun i => (oneV g (d.getD i 0)).1) d k) ∧ Piece w1.heap.size w2.heap.size w' (.slice a' s.length c') s ∧ Win w1.heap.size w2.heap.size W3 w') (fun i _ => d.length - (intOf i).toNat)
    case atStart => exact ⟨0, by omega, rfl, rfl, by rw [setTo_zero]; exact PQ.out.keep B3.out, PP.out.keep B3.out, Win.refl _ _ _⟩
    case round =>
      obtain ⟨k, hk, rfl, hf, hq, hp, hw⟩ := hrel
      have HF : Hid (firstC (fun i => (oneV g (d.getD i 0)).2) k = 0) := hf
      have HQ : Hid (Piece w1.heap.size w2.heap.size wr (.slice b' d.length e') (setTo (fun i => (oneV g (d.getD i 0)).1) d k)) := hq
      have HP : Hid (Piece w1.heap.size w2.heap.size wr (.slice a' s.length c') s) := hp
      have HW : Hid (Win w1.heap.size w2.heap.size W3 wr) := hw
      have X : Hid (Box wr w.heap.size (.slice a s.length c) (.slice b d.length e) 26) := (X2.out.keep B3.out).win hw (.inl (by have := S1.out; omega))
      have Y : Hid (Box wr (w.heap.size + 1) (.slice none 0 0) (.slice none 0 0) 26) := (Y2.out.keep B3.out).win hw (.inl S1.out)
      have Z : Hid (Box wr w2.heap.size (.slice a' s.length c') (.slice b' d.length e') 26) := Z3.out.win hw (.inr (Nat.le_refl _))
      have HBr : Hid (Below w.heap.size w wr) := by
        have q := bTrans HB2.out B3.out
        exact q.trans ⟨hw.os, hw.tape, hw.output, hw.size, fun i hi => hw.block i (Nat.lt_of_lt_of_le hi q.size) (.inl (by have := S1.out; omega))⟩
      clear hf hq hp hw
      have x0 := X.out.c0
      have x1 := X.out.c1
      have z0 := Z.out.c0
      have z1 := Z.out.c1
      by_cases hlt : (k : Int) < (d.length : Int)
      · have L : k < d.length := by omega
        obtain ⟨b1, o1, rfl, hb1, e1⟩ := H2.out.at L
        have d1 : wr.cell? ⟨b1, o1 + k, none⟩ = some (.int .i64 (d.getD k 0)) := (HBr.out.cell (p := ⟨b1, o1 + k, none⟩) hb1).trans e1
        obtain ⟨g2, o2, rfl⟩ := HQ.out.some (by rw [setTo_length]; omega)
        obtain ⟨t1, t2, t3, t4, t5⟩ := HQ.out.cellAt (k := k) (by rw [setTo_length]; exact L)
        have HV : Hid (∀ W, Calls Try.prog 65 #[.int .i64 g, .int .i64 (d.getD k 0)] W fun e w' => e = .returned (.tuple #[.int .i64 (oneV g (d.getD k 0)).1, .int .i64 (oneV g (d.getD k 0)).2]) ∧ w' = W) := fun W => one_spec g (d.getD k 0) W
        have E1 : Hid ((oneV g (d.getD k 0)).2 = 0 → firstC (fun i => (oneV g (d.getD i 0)).2) (k + 1) = 0) := fun h => firstC_go HF.out h
        have E2 : Hid ((oneV g (d.getD k 0)).2 ≠ 0 → C = (oneV g (d.getD k 0)).2) := fun h => by rw [HC.out]; exact firstC_stop HF.out h L
        have E3 : Hid ((setTo (fun i => (oneV g (d.getD i 0)).1) d k).set k (oneV g (d.getD k 0)).1 = setTo (fun i => (oneV g (d.getD i 0)).1) d (k + 1)) := setTo_set _ d L
        have LK : Hid (k < (setTo (fun i => (oneV g (d.getD i 0)).1) d k).length) := by show _ < _; rw [setTo_length]; exact L
        have LE : Hid ((setTo (fun i => (oneV g (d.getD i 0)).1) d k).length = d.length) := setTo_length _ _ _
        clear e1 hb1
        generalize hx : (oneV g (d.getD k 0)).1 = x at *
        generalize hy : (oneV g (d.getD k 0)).2 = y at *
        generalize d.getD k 0 = u at *
        generalize (setTo (fun i => (oneV g (d.getD i 0)).1) d k).getD k 0 = u2 at *
        clear hx hy
        by_cases h0 : y = 0
        · subst h0
          have E1' : Hid (firstC (fun i => (oneV g (d.getD i 0)).2) (k + 1) = 0) := E1.out rfl
          go_wp2_with fail
          refine (HV.out _).mono ?_
          rintro r w' ⟨rfl, hw⟩
          subst w'
          go_wp2
          go_roundw
          case rel =>
            refine ⟨k + 1, by omega, by go_num, E1'.out, ?_, HP.out.only (only_setCell wr g2 o2 d.length e' k _ L) AP.out.symm, HW.out.setCell t3 t4 _ _⟩
            have q := HQ.out
            rw [← LE.out] at q
            have := q.set LK.out x
            rw [E3.out, LE.out] at this
            exact this
          case measure => simp [intOf]; omega
        · have hne : (y != 0) = true := by simpa using h0
          obtain rfl : C = y := E2.out h0
          obtain ⟨es, ed⟩ := HBAD.out h0
          have HES : Hid (eachOneS g s d = []) := es
          have HED : Hid (eachOneD g s d = []) := ed
          have HR : Hid (((wr.setCell ⟨w.heap.size + 1, 0, none⟩ (.slice none 0 0)).setCell ⟨w.heap.size + 1, 1, none⟩ (.slice none 0 0)).heap[w.heap.size + 1]? = some (.cells #[.slice none 0 0, .slice none 0 0] 26 (0, 0))) := arr_stored Y.out
          have y0 := Y.out.c0
          have y1 := Y.out.c1
          have f0 : wr.frozen? ⟨w.heap.size + 1, 0, none⟩ = false := free_at Y.out 0
          have f1 : wr.frozen? ⟨w.heap.size + 1, 1, none⟩ = false := free_at Y.out 1
          clear es ed h0
          go_wp2_with fail
          refine (HV.out _).mono ?_
          rintro r w' ⟨rfl, hw⟩
          subst w'
          go_wp2
          refine bodyPost_ret (results_arr_tmp Try.results19 _ _ (w.heap.size + 1) _ _ rfl HR.out) rfl ?_
          refine ⟨_, rfl, ?_, below_setCell (below_setCell HBr.out (by omega) _ _) (by omega) _ _⟩
          rw [HES.out, HED.out]
          exact arr_zero _ _ _
      · obtain rfl : k = d.length := by omega
        have h0 : C = 0 := by rw [HC.out, HF.out]
        obtain ⟨es, ed⟩ := HGOOD.out h0
        subst h0
        have HES : Hid (eachOneS g s d = s) := es
        have HED : Hid (eachOneD g s d = setTo (fun i => (oneV g (d.getD i 0)).1) d d.length) := by show _ = _; rw [ed, setTo_all _ _ rfl]
        have HR : Hid (((wr.setCell ⟨w.heap.size + 1, 0, none⟩ (.slice a' s.length c')).setCell ⟨w.heap.size + 1, 1, none⟩ (.slice b' d.length e')).heap[w.heap.size + 1]? = some (.cells #[.slice a' s.length c', .slice b' d.length e'] 26 (0, 0))) := arr_stored Y.out
        have y0 := Y.out.c0
        have y1 := Y.out.c1
        have f0 : wr.frozen? ⟨w.heap.size + 1, 0, none⟩ = false := free_at Y.out 0
        have f1 : wr.frozen? ⟨w.heap.size + 1, 1, none⟩ = false := free_at Y.out 1
        clear es ed
        go_wp2
        refine bodyPost_ret (results_arr_tmp Try.results19 _ _ (w.heap.size + 1) _ _ rfl HR.out) rfl ?_
        refine ⟨_, rfl, ?_, below_setCell (below_setCell HBr.out (by omega) _ _) (by omega) _ _⟩
        rw [HES.out, HED.out]
        have L := S1.out
        have L2 := HW.out.size
        have L3 := B3.out.size
        have A : Arr w1.heap.size w2.heap.size wr (.agg #[.slice a' s.length c', .slice b' d.length e']) s (setTo (fun i => (oneV g (d.getD i 0)).1) d d.length) := ⟨_, _, rfl, HP.out, HQ.out, AP.out⟩
        exact ((A.setCell L _ _).setCell L _ _).mono (by omega) (by simp only [size_setCell]; omega)
  · have hc : eachOneC g s d = 1 := by unfold eachOneC; rw [if_neg hg]
    obtain ⟨es, ed⟩ := eachOne_bad (g := g) (s := s) (d := d) (by rw [hc]; decide)
    rw [hc, es, ed]
    clear hc es ed
    have hq : arrOk s d = false ∨ (arrOk s d = true ∧ sign1 g = false) := by
      cases ho : arrOk s d
      · exact .inl rfl
      · exact .inr ⟨rfl, by simpa [ho] using hg⟩
    clear hg
    rcases hq with hq | ⟨hq, hq2⟩
    · have HO : Hid (arrOk s d = false) := hq
      clear hq
      go_enter Try.func19, Try.ntmps19
      go_wp2_with fail
      refine (arrOk_spec (H.out.keep (bAlloc (bAlloc (Below.refl _ _) _) _)) HD.out).mono ?_
      rintro r w1 ⟨rfl, hb⟩
      have HB1 : Hid (Below w.heap.size w w1) := bTrans (bAlloc (bAlloc (Below.refl _ _) _) _) hb
      have Y1 : Hid (Box w1 (w.heap.size + 1) (.slice none 0 0) (.slice none 0 0) 26) := (box_new2 w _ _ _ _).keep hb
      have HR : Hid (((w1.setCell ⟨w.heap.size + 1, 0, none⟩ (.slice none 0 0)).setCell ⟨w.heap.size + 1, 1, none⟩ (.slice none 0 0)).heap[w.heap.size + 1]? = some (.cells #[.slice none 0 0, .slice none 0 0] 26 (0, 0))) := arr_stored Y1.out
      have y0 := Y1.out.c0
      have y1 := Y1.out.c1
      have f0 : w1.frozen? ⟨w.heap.size + 1, 0, none⟩ = false := free_at Y1.out 0
      have f1 : w1.frozen? ⟨w.heap.size + 1, 1, none⟩ = false := free_at Y1.out 1
      clear hb
      rw [HO.out]
      go_wp2
      refine bodyPost_ret (results_arr_tmp Try.results19 _ _ (w.heap.size + 1) _ _ rfl HR.out) rfl ?_
      exact ⟨_, rfl, arr_zero _ _ _, below_setCell (below_setCell HB1.out (by omega) _ _) (by omega) _ _⟩
    · have HO : Hid (arrOk s d = true) := hq
      have HG : Hid (sign1 g = false) := hq2
      clear hq hq2
      go_enter Try.func19, Try.ntmps19
      go_wp2_with fail
      refine (arrOk_spec (H.out.keep (bAlloc (bAlloc (Below.refl _ _) _) _)) HD.out).mono ?_
      rintro r w1 ⟨rfl, hb⟩
      have HB1 : Hid (Below w.heap.size w w1) := bTrans (bAlloc (bAlloc (Below.refl _ _) _) _) hb
      have Y1 : Hid (Box w1 (w.heap.size + 1) (.slice none 0 0) (.slice none 0 0) 26) := (box_new2 w _ _ _ _).keep hb
      have HR : Hid (((w1.setCell ⟨w.heap.size + 1, 0, none⟩ (.slice none 0 0)).setCell ⟨w.heap.size + 1, 1, none⟩ (.slice none 0 0)).heap[w.heap.size + 1]? = some (.cells #[.slice none 0 0, .slice none 0 0] 26 (0, 0))) := arr_stored Y1.out
      have y0 := Y1.out.c0
      have y1 := Y1.out.c1
      have f0 : w1.frozen? ⟨w.heap.size + 1, 0, none⟩ = false := free_at Y1.out 0
      have f1 : w1.frozen? ⟨w.heap.size + 1, 1, none⟩ = false := free_at Y1.out 1
      clear hb
      rw [HO.out]
      go_wp2_with fail
      refine (sign1_spec g _).mono ?_
      rintro r w' ⟨rfl, hw⟩
      subst w'
      rw [HG.out]
      go_wp2
      refine bodyPost_ret (results_arr_tmp Try.results19 _ _ (w.heap.size + 1) _ _ rfl HR.out) rfl ?_
      exact ⟨_, rfl, arr_zero _ _ _, below_setCell (below_setCell HB1.out (by omega) _ _) (by omega) _ _⟩
end Go.Proofs.Ytfmheanmkfdjnac
namespace Go.Proofs.Ytfmheanmkfdjnac
open Go.RowKit
set_option linter.unusedVariables false
set_option linter.unusedSimpArgs false
theorem ok_neg (x : Int) : ok (-x) = ok x := by
  unfold ok
  rw [Bool.eq_iff_iff]
  simp
  omega
theorem getD_mem {d : List Int} {i : Nat} (h : i < d.length) : d.getD i 0 ∈ d := by
  have e : d.getD i 0 = d[i] := by simp [List.getD, h]
  rw [e]; exact List.getElem_mem h
theorem arrOk_all {s d : List Int} (h : arrOk s d = true) {i : Nat} (hi : i < d.length) : ok (d.getD i 0) = true := by
  simp only [arrOk, Bool.and_eq_true] at h
  exact (List.all_eq_true.1 h.2) _ (getD_mem hi)
theorem firstC_none {g : Nat → Int} {n : Nat} (h : ∀ i, i < n → g i = 0) : firstC g n = 0 := by
  induction n with
  | zero => rfl
  | succ n ih => exact firstC_go (ih (fun i hi => h i (by omega))) (h n (by omega))
theorem each_neg {s d : List Int} (ho : arrOk s d = true) : eachOneC 45 s d = 0 ∧ eachOneS 45 s d = s ∧ eachOneD 45 s d = d.map (fun x => -x) := by
  have hc : eachOneC 45 s d = 0 := by
    unfold eachOneC
    rw [if_pos ⟨ho, by decide⟩]
    exact firstC_none (fun i hi => by simp only [oneV_45 (arrOk_all ho hi)])
  refine ⟨hc, (eachOne_good hc).1, ?_⟩
  rw [(eachOne_good hc).2]
  apply List.ext_getElem
  · simp
  · intro i h1 h2
    have hi : i < d.length := by simpa using h2
    have e : d.getD i 0 = d[i] := by simp [List.getD, hi]
    simp only [List.getElem_map, List.getElem_range]
    rw [oneV_45 (arrOk_all ho hi), e]
theorem arrOk_neg {s d : List Int} (ho : arrOk s d = true) : arrOk s (d.map (fun x => -x)) = true := by
  simp only [arrOk, Bool.and_eq_true] at ho ⊢
  refine ⟨by simpa using ho.1, ?_⟩
  rw [List.all_eq_true] at *
  intro x hx
  obtain ⟨y, hy, rfl⟩ := List.mem_map.1 hx
  rw [ok_neg]
  exact ho.2 y hy
theorem each_neg2 {s d : List Int} (ho : arrOk s d = true) : eachOneC 45 (eachOneS 45 s d) (eachOneD 45 s d) = 0 ∧ eachOneS 45 (eachOneS 45 s d) (eachOneD 45 s d) = s ∧ eachOneD 45 (eachOneS 45 s d) (eachOneD 45 s d) = d := by
  obtain ⟨_, h2, h3⟩ := each_neg ho
  rw [h2, h3]
  obtain ⟨k1, k2, k3⟩ := each_neg (arrOk_neg ho)
  exact ⟨k1, k2, by rw [k3, List.map_map]; exact (List.map_congr_left (fun x _ => by simp)).trans (List.map_id d)⟩
theorem one_facts {g : Int} {s d : List Int} (h : eachOneC g s d = 0) : arrOk s d = true ∧ (eachOneD g s d).length = d.length ∧ ∀ i, i < d.length → (oneV g (d.getD i 0)).2 = 0 ∧ (eachOneD g s d).getD i 0 = (oneV g (d.getD i 0)).1 := by
  have hg : arrOk s d = true ∧ sign1 g = true := by
    apply Classical.byContradiction
    intro hn
    unfold eachOneC at h
    rw [if_neg hn] at h
    cases h
  have hf : firstC (fun i => (oneV g (d.getD i 0)).2) d.length = 0 := by
    have q := h
    unfold eachOneC at q
    rw [if_pos hg] at q
    exact q
  rw [(eachOne_good h).2]
  refine ⟨hg.1, by simp, fun i hi => ⟨firstC_all hf i hi, ?_⟩⟩
  simp [List.getD, hi]
theorem eachOne_len (g : Int) (s d : List Int) : (eachOneS g s d).length ≤ s.length ∧ (eachOneD g s d).length ≤ d.length := by
  unfold eachOneS eachOneD
  split <;> simp
set_option maxRecDepth 20000 in
set_option maxHeartbeats 1000000 in
/-- sameArray. -/
theorem same_arr {s d s' d' : List Int} {w : World} {v u : Value} (h : ArrI w v s d) (k : ArrI w u s' d') (hs : s.length ≤ 1048576) (hd : d.length ≤ 1048576) :
    Calls Try.prog 21 #[v, u] w fun e w' => e = .returned (.bool (decide (s = s') && decide (d = d'))) ∧ Below w.heap.size w w' := by
  obtain ⟨a, c, b, e, rfl, h1, h2, _, _⟩ := h
  obtain ⟨a', c', b', e', rfl, k1, k2, _, _⟩ := k
  have H1 : Hid (Ints w a s) := h1
  have H2 : Hid (Ints w b d) := h2
  have K1 : Hid (Ints w a' s') := k1
  have K2 : Hid (Ints w b' d') := k2
  have HS : Hid (s.length ≤ 4611686018427387904) := by show _ ≤ _; omega
  have HD : Hid (d.length ≤ 4611686018427387904) := by show _ ≤ _; omega
  clear h1 h2 k1 k2 hs hd
  generalize hp : decide (s = s') = p
  generalize hq : decide (d = d') = q
  have HP : Hid (decide (s = s') = p) := hp
  have HQ : Hid (decide (d = d') = q) := hq
  clear hp hq
  go_enter Try.func21, Try.ntmps21
  go_wp2_with fail
  refine (same_ints c c' HS.out ((H1.out.alloc _).alloc _) ((K1.out.alloc _).alloc _)).mono ?_
  rintro r w1 ⟨rfl, j, hw⟩
  have HB : Hid (Below w.heap.size w w1) := by rw [hw]; exact bDrewN (bAlloc (bAlloc (Below.refl _ _) _) _) j
  have r1 : w1.cell? ⟨w.heap.size, 1, none⟩ = some (.slice b d.length e) := by rw [hw]; show World.cell? _ _ = _; simp [World.cell?_drewN]
  have r2 : w1.cell? ⟨w.heap.size + 1, 1, none⟩ = some (.slice b' d'.length e') := by rw [hw]; show World.cell? _ _ = _; simp [World.cell?_drewN]
  clear hw j
  rw [HP.out]
  cases p
  · go_wp2
    go_ret
    exact ⟨rfl, HB.out⟩
  · go_wp2_with fail
    refine (same_ints e e' HD.out (H2.out.keep HB.out) (K2.out.keep HB.out)).mono ?_
    rintro r w2 ⟨rfl, j, hw⟩
    have HB2 : Hid (Below w.heap.size w w2) := by rw [hw]; exact bDrewN HB.out j
    clear hw j
    rw [HQ.out]
    cases q
    · go_wp2
      go_ret
      exact ⟨rfl, HB2.out⟩
    · go_wp2
      go_ret
      exact ⟨rfl, HB2.out⟩
end Go.Proofs.Ytfmheanmkfdjnac
