/-
  Walks: the specification's Rotate.
-/
import Derived.Test.YtfmheanmkfdjnaoSpecMake5
import Derived.Test.YtfmheanmkfdjnaoSpecMake2
namespace Go.Proofs.Ytfmheanmkfdjnao
open Go.RowKit
set_option linter.unusedVariables false
set_option linter.unusedSimpArgs false
theorem oneC_ok {s d t e : List Int} (ho : arrOk s d = true) (ho' : arrOk t e = true) (hl : d.length = 1) : oneC s d t e = 0 := by unfold oneC; rw [if_pos ⟨ho, ho'⟩, if_neg (by simpa using hl)]
theorem oneC_3 {s d t e : List Int} (ho : arrOk s d = true) (ho' : arrOk t e = true) (hl : ¬ d.length = 1) : oneC s d t e = 3 := by unfold oneC; rw [if_pos ⟨ho, ho'⟩, if_pos hl]
theorem num_bd {s d : List Int} (ho : arrOk s d = true) (h : 0 < d.length) : -1000000000000 ≤ d.getD 0 0 ∧ d.getD 0 0 ≤ 1000000000000 := by
  have h2 : d.all ok = true := by
    unfold arrOk at ho
    simp only [Bool.and_eq_true] at ho
    exact ho.2
  have := List.all_eq_true.1 h2 (d.getD 0 0) (by simp [h])
  exact ok_bd this
theorem wrap64_small {a : Int} (h1 : -1000000000000000 ≤ a) (h2 : a ≤ 1000000000000000) : wrap64 a = a := by unfold wrap64; omega
theorem turn_num {x : Int} {n : Nat} (hn : 0 < n) : (Int.tmod (Int.tmod x n + n) n) = ((rotateBy x n : Nat) : Int) ∧ rotateBy x n < n ∧ -(n : Int) < Int.tmod x n ∧ Int.tmod x n < n := by
  unfold rotateBy
  have h0 : (0 : Int) < (n : Int) := by omega
  have e1 := Int.emod_nonneg x (b := (n : Int)) (by omega)
  have e2 := Int.emod_lt_of_pos x h0
  have hb : -(n : Int) < Int.tmod x n ∧ Int.tmod x n < n := ⟨by have := Int.lt_tmod_of_pos x h0; omega, Int.tmod_lt_of_pos x h0⟩
  refine ⟨?_, by omega, hb⟩
  rw [Int.tmod_eq_emod_of_nonneg (by omega), Int.add_emod_right]
  rw [Int.toNat_of_nonneg e1]
  have e := Int.tmod_add_mul_tdiv x n
  conv => rhs; rw [← e]
  rw [Int.add_mul_emod_self_left]
set_option maxRecDepth 20000 in
set_option maxHeartbeats 4000000 in
/-- Rotate. -/
theorem rotate_spec {s d t e : List Int} {w : World} {v u : Value} (h : ArrI w v s d) (k : ArrI w u t e) (hd : d.length ≤ 1048576) (ht : t.length ≤ 1048576) (he : e.length ≤ 1048576) :
    Calls Try.prog 24 #[v, u] w fun r w' => ∃ v', r = .returned (.tuple #[v', .int .i64 (rotateR s d t e).1]) ∧ Arr w.heap.size w'.heap.size w' v' (rotateR s d t e).2.1 (rotateR s d t e).2.2 ∧ Below w.heap.size w w' := by
  have H : Hid (ArrI w v s d) := h
  have K : Hid (ArrI w u t e) := k
  obtain ⟨a, c, b, f, rfl, h1, h2, _, _⟩ := h
  obtain ⟨a', c', b', f', rfl, k1, k2, g1, _⟩ := k
  have H2 : Hid (Ints w b d) := h2
  have K1 : Hid (Ints w a' t) := k1
  have HD : Hid (d.length ≤ 1048576) := hd
  have HT : Hid (t.length ≤ 1048576) := ht
  have HE : Hid (e.length ≤ 1048576) := he
  clear h1 h2 hd ht he
  by_cases ho : arrOk s d = true
  · have HO : Hid (arrOk s d = true) := ho
    by_cases ho' : arrOk t e = true
    · have HO' : Hid (arrOk t e = true) := ho'
      by_cases hl : d.length = 1
      · have n1 : ((d.length : Int) != 1) = false := by simp [hl]
        have hlt : (0 : Int) < (d.length : Int) := by omega
        obtain ⟨bx, ox, rfl, hbx, cx⟩ := H2.out.at (k := 0) (by omega)
        rw [Nat.add_zero] at cx
        have CC : Hid (∀ W, Below w.heap.size w W → W.cell? ⟨bx, ox, none⟩ = some (.int .i64 (d.getD 0 0))) := fun W h => (h.cell (p := ⟨bx, ox, none⟩) hbx).trans cx
        have ER : rotateR s d t e = (0, t, rotateD (d.getD 0 0) t e) := by unfold rotateR; rw [oneC_ok ho ho' hl]; rfl
        rw [ER]
        have XB : Hid (-1000000000000 ≤ d.getD 0 0 ∧ d.getD 0 0 ≤ 1000000000000) := num_bd ho (by omega)
        clear ER cx hl
        generalize d.getD 0 0 = x at *
        by_cases ht0 : t = []
        · subst ht0
          have ED : rotateD x [] e = e := by unfold rotateD; rw [if_pos (.inl rfl)]
          rw [ED]
          clear ED ho ho' k1 k2 g1
          go_enter Try.func24, Try.ntmps24
          go_wp2_with fail
          refine (arrOk_spec (H.out.keep (bAlloc (bAlloc (bAlloc (Below.refl _ _) _) _) _)) HD.out).mono ?_
          rintro r w1 ⟨rfl, hb⟩
          have HB1 : Hid (Below w.heap.size w w1) := bTrans (bAlloc (bAlloc (bAlloc (Below.refl _ _) _) _) _) hb
          have q1 := blocks3 w (.cells #[.slice a s.length c, .slice (some ⟨bx, ox, none⟩) d.length f] 26) (.cells #[.slice a' 0 c', .slice b' e.length f'] 26) (.cells #[.slice none 0 0, .slice none 0 0] 26)
          have X1 : Hid (Box w1 w.heap.size (.slice a s.length c) (.slice (some ⟨bx, ox, none⟩) d.length f) 26) := Box.keep q1.1 hb
          have Y1 : Hid (Box w1 (w.heap.size + 1) (.slice a' 0 c') (.slice b' e.length f') 26) := Box.keep q1.2.1 hb
          have R1 : Hid (Box w1 (w.heap.size + 1 + 1) (.slice none 0 0) (.slice none 0 0) 26) := Box.keep q1.2.2 hb
          clear hb q1
          rw [HO.out]
          have x0 := X1.out.c0
          have x1 := X1.out.c1
          have y0 := Y1.out.c0
          have y1 := Y1.out.c1
          have r0 := R1.out.c0
          have r1 := R1.out.c1
          have f0 : w1.frozen? ⟨w.heap.size + 1 + 1, 0, none⟩ = false := free_at R1.out 0
          have f1 : w1.frozen? ⟨w.heap.size + 1 + 1, 1, none⟩ = false := free_at R1.out 1
          go_wp2_with fail
          refine (arrOk_spec (K.out.keep HB1.out) HE.out).mono ?_
          rintro r w2 ⟨rfl, hb⟩
          have HB2 : Hid (Below w.heap.size w w2) := bTrans HB1.out hb
          have X2 : Hid (Box w2 w.heap.size (.slice a s.length c) (.slice (some ⟨bx, ox, none⟩) d.length f) 26) := X1.out.keep hb
          have Y2 : Hid (Box w2 (w.heap.size + 1) (.slice a' 0 c') (.slice b' e.length f') 26) := Y1.out.keep hb
          have R2 : Hid (Box w2 (w.heap.size + 1 + 1) (.slice none 0 0) (.slice none 0 0) 26) := R1.out.keep hb
          rw [HO'.out]
          clear hb
          clear x0 x1 y0 y1 r0 r1 f0 f1
          clear X1 Y1 R1 HB1
          have x0 := X2.out.c0
          have x1 := X2.out.c1
          have y0 := Y2.out.c0
          have y1 := Y2.out.c1
          have r0 := R2.out.c0
          have r1 := R2.out.c1
          have f0 : w2.frozen? ⟨w.heap.size + 1 + 1, 0, none⟩ = false := free_at R2.out 0
          have f1 : w2.frozen? ⟨w.heap.size + 1 + 1, 1, none⟩ = false := free_at R2.out 1
          go_wp2_with fail
          refine (copy_spec (K.out.keep HB2.out) HT.out HE.out).mono ?_
          rintro r w3 ⟨v3, rfl, ha, hb⟩
          obtain ⟨a3, c3, b3, f3, rfl, _, _, _, _⟩ := ha.arrI
          have HA : Hid (Arr w2.heap.size w3.heap.size w3 (.agg #[.slice a3 0 c3, .slice b3 e.length f3]) [] e) := ha
          have HB3 : Hid (Below w.heap.size w w3) := bTrans HB2.out hb
          have L2 : Hid (w.heap.size + 1 + 1 < w2.heap.size) := R2.out.lt
          have R3 : Hid (Box w3 (w.heap.size + 1 + 1) (.slice none 0 0) (.slice none 0 0) 26) := R2.out.keep hb
          clear ha hb x0 x1 y0 y1 r0 r1 f0 f1
          simp only [List.length_nil]
          have r0 := R3.out.c0
          have r1 := R3.out.c1
          have f0 : w3.frozen? ⟨w.heap.size + 1 + 1, 0, none⟩ = false := free_at R3.out 0
          have f1 : w3.frozen? ⟨w.heap.size + 1 + 1, 1, none⟩ = false := free_at R3.out 1
          have HR : Hid (((w3.setCell ⟨w.heap.size + 1 + 1, 0, none⟩ (.slice a3 0 c3)).setCell ⟨w.heap.size + 1 + 1, 1, none⟩ (.slice b3 e.length f3)).heap[w.heap.size + 1 + 1]? = some (.cells #[.slice a3 0 c3, .slice b3 e.length f3] 26 (0, 0))) := arr_stored R3.out
          go_wp2
          refine bodyPost_ret (results_arr_tmp Try.results24 _ _ (w.heap.size + 1 + 1) _ _ rfl HR.out) rfl ?_
          refine ⟨_, rfl, ?_, below_setCell (below_setCell HB3.out (by omega) _ _) (by omega) _ _⟩
          have L := L2.out
          exact ((HA.out.setCell L _ _).setCell L _ _).mono HB2.out.size (by simp only [size_setCell]; omega)
        · have n2 : ((t.length : Int) == 0) = false := by
            have := List.length_pos_iff.2 ht0
            simp; omega
          have hlt2 : (0 : Int) < (t.length : Int) := by have := List.length_pos_iff.2 ht0; omega
          obtain ⟨by', oy, rfl, hby, cy⟩ := K1.out.at (k := 0) (List.length_pos_iff.2 ht0)
          rw [Nat.add_zero] at cy
          have CY : Hid (∀ W, Below w.heap.size w W → W.cell? ⟨by', oy, none⟩ = some (.int .i64 (t.getD 0 0))) := fun W h => (h.cell (p := ⟨by', oy, none⟩) hby).trans cy
          by_cases hz : t.getD 0 0 = 0
          · have ED : rotateD x t e = e := by unfold rotateD; rw [if_pos (.inr hz)]
            rw [ED]
            rw [hz] at CY
            clear ED ho ho' k1 k2 g1 hz cy ht0
            go_enter Try.func24, Try.ntmps24
            go_wp2_with fail
            refine (arrOk_spec (H.out.keep (bAlloc (bAlloc (bAlloc (Below.refl _ _) _) _) _)) HD.out).mono ?_
            rintro r w1 ⟨rfl, hb⟩
            have HB1 : Hid (Below w.heap.size w w1) := bTrans (bAlloc (bAlloc (bAlloc (Below.refl _ _) _) _) _) hb
            have q1 := blocks3 w (.cells #[.slice a s.length c, .slice (some ⟨bx, ox, none⟩) d.length f] 26) (.cells #[.slice (some ⟨by', oy, none⟩) t.length c', .slice b' e.length f'] 26) (.cells #[.slice none 0 0, .slice none 0 0] 26)
            have X1 : Hid (Box w1 w.heap.size (.slice a s.length c) (.slice (some ⟨bx, ox, none⟩) d.length f) 26) := Box.keep q1.1 hb
            have Y1 : Hid (Box w1 (w.heap.size + 1) (.slice (some ⟨by', oy, none⟩) t.length c') (.slice b' e.length f') 26) := Box.keep q1.2.1 hb
            have R1 : Hid (Box w1 (w.heap.size + 1 + 1) (.slice none 0 0) (.slice none 0 0) 26) := Box.keep q1.2.2 hb
            clear hb q1
            rw [HO.out]
            have x0 := X1.out.c0
            have x1 := X1.out.c1
            have y0 := Y1.out.c0
            have y1 := Y1.out.c1
            have r0 := R1.out.c0
            have r1 := R1.out.c1
            have f0 : w1.frozen? ⟨w.heap.size + 1 + 1, 0, none⟩ = false := free_at R1.out 0
            have f1 : w1.frozen? ⟨w.heap.size + 1 + 1, 1, none⟩ = false := free_at R1.out 1
            go_wp2_with fail
            refine (arrOk_spec (K.out.keep HB1.out) HE.out).mono ?_
            rintro r w2 ⟨rfl, hb⟩
            have HB2 : Hid (Below w.heap.size w w2) := bTrans HB1.out hb
            have X2 : Hid (Box w2 w.heap.size (.slice a s.length c) (.slice (some ⟨bx, ox, none⟩) d.length f) 26) := X1.out.keep hb
            have Y2 : Hid (Box w2 (w.heap.size + 1) (.slice (some ⟨by', oy, none⟩) t.length c') (.slice b' e.length f') 26) := Y1.out.keep hb
            have R2 : Hid (Box w2 (w.heap.size + 1 + 1) (.slice none 0 0) (.slice none 0 0) 26) := R1.out.keep hb
            rw [HO'.out]
            clear hb
            clear x0 x1 y0 y1 r0 r1 f0 f1
            clear X1 Y1 R1 HB1
            have x0 := X2.out.c0
            have x1 := X2.out.c1
            have y0 := Y2.out.c0
            have y1 := Y2.out.c1
            have r0 := R2.out.c0
            have r1 := R2.out.c1
            have f0 : w2.frozen? ⟨w.heap.size + 1 + 1, 0, none⟩ = false := free_at R2.out 0
            have f1 : w2.frozen? ⟨w.heap.size + 1 + 1, 1, none⟩ = false := free_at R2.out 1
            have cy := CY.out _ HB2.out
            go_wp2_with fail
            refine (copy_spec (K.out.keep HB2.out) HT.out HE.out).mono ?_
            rintro r w3 ⟨v3, rfl, ha, hb⟩
            obtain ⟨a3, c3, b3, f3, rfl, _, _, _, _⟩ := ha.arrI
            have HA : Hid (Arr w2.heap.size w3.heap.size w3 (.agg #[.slice a3 t.length c3, .slice b3 e.length f3]) t e) := ha
            have HB3 : Hid (Below w.heap.size w w3) := bTrans HB2.out hb
            have L2 : Hid (w.heap.size + 1 + 1 < w2.heap.size) := R2.out.lt
            have R3 : Hid (Box w3 (w.heap.size + 1 + 1) (.slice none 0 0) (.slice none 0 0) 26) := R2.out.keep hb
            clear ha hb x0 x1 y0 y1 r0 r1 f0 f1
            have r0 := R3.out.c0
            have r1 := R3.out.c1
            have f0 : w3.frozen? ⟨w.heap.size + 1 + 1, 0, none⟩ = false := free_at R3.out 0
            have f1 : w3.frozen? ⟨w.heap.size + 1 + 1, 1, none⟩ = false := free_at R3.out 1
            have HR : Hid (((w3.setCell ⟨w.heap.size + 1 + 1, 0, none⟩ (.slice a3 t.length c3)).setCell ⟨w.heap.size + 1 + 1, 1, none⟩ (.slice b3 e.length f3)).heap[w.heap.size + 1 + 1]? = some (.cells #[.slice a3 t.length c3, .slice b3 e.length f3] 26 (0, 0))) := arr_stored R3.out
            go_wp2
            refine bodyPost_ret (results_arr_tmp Try.results24 _ _ (w.heap.size + 1 + 1) _ _ rfl HR.out) rfl ?_
            refine ⟨_, rfl, ?_, below_setCell (below_setCell HB3.out (by omega) _ _) (by omega) _ _⟩
            have L := L2.out
            exact ((HA.out.setCell L _ _).setCell L _ _).mono HB2.out.size (by simp only [size_setCell]; omega)
          · have hz' : (t.getD 0 0 == 0) = false := by simpa using hz
            obtain ⟨e1, e2⟩ := rowsN_bd ho'
            obtain ⟨N, hN⟩ : ∃ N, N = rowsN t := ⟨_, rfl⟩
            have hn : N ≤ 300 := by omega
            have hn0 : 0 < N := by
              rw [hN]
              apply Nat.pos_of_ne_zero
              intro q
              rw [q] at e2
              exact hz e2
            obtain ⟨BY, hBY⟩ : ∃ B, B = rotateBy x N := ⟨_, rfl⟩
            obtain ⟨t1, t2, t3, t4⟩ := turn_num (x := x) hn0
            rw [← hBY] at t1 t2
            have HF : Hid ((rowsF t e).length = 2 * N) := by show _ = _; rw [rowsF_length, if_pos ⟨ho', ht0⟩, hN]; rfl
            have HC : Hid (catF (pickF (rowsF t e) (fun i => (i + BY) % N) N) N = rotateD x t e) := by
              show _ = _
              rw [pick_rows ho' ht0 (fun i hi => by rw [← hN]; exact Nat.mod_lt _ hn0)]
              unfold rotateD
              rw [if_neg (fun q => q.elim ht0 hz), ← hN, hBY]
            have HCB : Hid ((catF (pickF (rowsF t e) (fun i => (i + BY) % N) N) N).length ≤ 1000000) := pick_bound _ _ _ hn
            have HL3 : Hid (∀ W, Below w.heap.size w W → Calls Try.prog 50 #[.agg #[.slice (some ⟨by', oy, none⟩) t.length c', .slice b' e.length f']] W fun r w' => ∃ v', r = .returned v' ∧ Arrs W.heap.size w'.heap.size w' v' (rowsF t e) ∧ Below W.heap.size W w') := fun W hb => l3rows_ne (K.out.keep hb) ho' ht0
            obtain ⟨tl, ct, hcut, hti⟩ := tail_cut_ne k1 ht0 g1
            have ETA : Hid ((N : Int) :: t.drop 1 = t) := by show _ = _; rw [hN, ← e2]; exact cons_eta ht0
            have HTL : Hid ((t.drop 1).length ≤ 1000000) := by
              have := (sizeV_ok (arrOk_shape ho')).1
              show _ ≤ _; simp; omega
            generalize t.drop 1 = t' at *
            have HTI : Hid (IntsI w (.slice tl t'.length ct) t') := hti
            have HA0 : Hid (∀ W u F, F = pickF (rowsF t e) (fun i => (i + BY) % N) N → ArrsI W u F → IntsI W (.slice tl t'.length ct) t' → Calls Try.prog 51 #[u, .slice tl t'.length ct] W fun r w' => ∃ v', r = .returned v' ∧ Arr W.heap.size w'.heap.size w' v' t (rotateD x t e) ∧ Below W.heap.size W w') := by
              intro W u F hF h1 h2
              subst hF
              have := rows5_spec h1 h2 (pickF_length _ _ _) (by omega) HTL.out HCB.out
              rw [ETA.out, HC.out] at this
              exact this
            have xb : -1000000000000 ≤ x ∧ x ≤ 1000000000000 := XB.out
            clear HC ho ho' k1 k2 g1 hti e1 e2 hN hBY cy
            generalize rotateD x t e = D at *
            generalize t.getD 0 0 = t0 at *
            go_enter Try.func24, Try.ntmps24
            go_wp2_with fail
            refine (arrOk_spec (H.out.keep (bAlloc (bAlloc (bAlloc (Below.refl _ _) _) _) _)) HD.out).mono ?_
            rintro r w1 ⟨rfl, hb⟩
            have HB1 : Hid (Below w.heap.size w w1) := bTrans (bAlloc (bAlloc (bAlloc (Below.refl _ _) _) _) _) hb
            have q1 := blocks3 w (.cells #[.slice a s.length c, .slice (some ⟨bx, ox, none⟩) d.length f] 26) (.cells #[.slice (some ⟨by', oy, none⟩) t.length c', .slice b' e.length f'] 26) (.cells #[.slice none 0 0, .slice none 0 0] 26)
            have X1 : Hid (Box w1 w.heap.size (.slice a s.length c) (.slice (some ⟨bx, ox, none⟩) d.length f) 26) := Box.keep q1.1 hb
            have Y1 : Hid (Box w1 (w.heap.size + 1) (.slice (some ⟨by', oy, none⟩) t.length c') (.slice b' e.length f') 26) := Box.keep q1.2.1 hb
            have R1 : Hid (Box w1 (w.heap.size + 1 + 1) (.slice none 0 0) (.slice none 0 0) 26) := Box.keep q1.2.2 hb
            clear hb q1
            rw [HO.out]
            have x0 := X1.out.c0
            have x1 := X1.out.c1
            have y0 := Y1.out.c0
            have y1 := Y1.out.c1
            have r0 := R1.out.c0
            have r1 := R1.out.c1
            have f0 : w1.frozen? ⟨w.heap.size + 1 + 1, 0, none⟩ = false := free_at R1.out 0
            have f1 : w1.frozen? ⟨w.heap.size + 1 + 1, 1, none⟩ = false := free_at R1.out 1
            go_wp2_with fail
            refine (arrOk_spec (K.out.keep HB1.out) HE.out).mono ?_
            rintro r w2 ⟨rfl, hb⟩
            have HB2 : Hid (Below w.heap.size w w2) := bTrans HB1.out hb
            have X2 : Hid (Box w2 w.heap.size (.slice a s.length c) (.slice (some ⟨bx, ox, none⟩) d.length f) 26) := X1.out.keep hb
            have Y2 : Hid (Box w2 (w.heap.size + 1) (.slice (some ⟨by', oy, none⟩) t.length c') (.slice b' e.length f') 26) := Y1.out.keep hb
            have R2 : Hid (Box w2 (w.heap.size + 1 + 1) (.slice none 0 0) (.slice none 0 0) 26) := R1.out.keep hb
            rw [HO'.out]
            clear hb
            clear x0 x1 y0 y1 r0 r1 f0 f1
            clear X1 Y1 R1 HB1
            have x0 := X2.out.c0
            have x1 := X2.out.c1
            have y0 := Y2.out.c0
            have y1 := Y2.out.c1
            have r0 := R2.out.c0
            have r1 := R2.out.c1
            have f0 : w2.frozen? ⟨w.heap.size + 1 + 1, 0, none⟩ = false := free_at R2.out 0
            have f1 : w2.frozen? ⟨w.heap.size + 1 + 1, 1, none⟩ = false := free_at R2.out 1
            have cy := CY.out _ HB2.out
            have cx := CC.out _ HB2.out
            go_wp2_with fail
            refine (HL3.out _ HB2.out).mono ?_
            rintro r w3 ⟨v3, rfl, ha, hb⟩
            have AR : Hid (ArrsI w3 v3 (rowsF t e)) := ha.arrsI
            obtain ⟨ra, rn, rc, rfl, e5, _⟩ := ha.arrsI
            obtain rfl : rn = N := by have := HF.out; omega
            have HB3 : Hid (Below w2.heap.size w2 w3) := hb
            have X3 : Hid (Box w3 w.heap.size (.slice a s.length c) (.slice (some ⟨bx, ox, none⟩) d.length f) 26) := X2.out.keep hb
            have Y3 : Hid (Box w3 (w.heap.size + 1) (.slice (some ⟨by', oy, none⟩) t.length c') (.slice b' e.length f') 26) := Y2.out.keep hb
            have R3 : Hid (Box w3 (w.heap.size + 1 + 1) (.slice none 0 0) (.slice none 0 0) 26) := R2.out.keep hb
            clear ha hb x0 x1 y0 y1 r0 r1 f0 f1 e5 cx cy
            have cx := CC.out _ (bTrans HB2.out HB3.out)
            have x1 := X3.out.c1
            go_wp2
            clear t1 t3 t4
            generalize hW : w3.alloc (.cells #[] 26) = W4
            have L4 : Hid (ListAt w3 W4 (.slice (some ⟨w3.heap.size, 0, none⟩) 0 0) 0 [] (pickF (rowsF t e) (fun i => (i + BY) % rn) 0)) := by rw [← hW]; exact listAt_new w3
            clear hW cx x1
            go_loopw [9, 10] (fun u i w' => ∃ (k : Nat) (ad : Option Addr) (cd : Nat) (xs : List Value), k ≤ rn ∧ u = .slice ad k cd ∧ i = .int .i64 (k : Int) ∧ ListAt w3 w' (.slice ad k cd) k xs (pickF (rowsF t e) (fun i => (i + BY) % rn) k)) (fun _ i _ => rn - (intOf i).toNat)
            case atStart => exact ⟨0, _, _, _, by omega, rfl, rfl, L4.out⟩
            case round =>
              obtain ⟨k, ad, cd, xs, hk, rfl, rfl, hL⟩ := hrel
              have LK : Hid (ListAt w3 wr (.slice ad k cd) k xs (pickF (rowsF t e) (fun i => (i + BY) % rn) k)) := hL
              clear hL L4
              by_cases hkn : (k : Int) < (rn : Int)
              · obtain ⟨M, hM⟩ : ∃ M, M = (k + BY) % rn := ⟨_, rfl⟩
                have hMn : M < rn := by rw [hM]; exact Nat.mod_lt _ hn0
                have eM : ((k : Int) + (BY : Int)).tmod (rn : Int) = (M : Int) := by
                  rw [Int.tmod_eq_emod_of_nonneg (by omega), hM]; simp
                have eM2 : ((k : Int) + (BY : Int)) % (rn : Int) = (M : Int) := by rw [hM]; simp
                have hMi : (M : Int) < (rn : Int) := by omega
                obtain ⟨o, off, sx, sy, rfl, ho, p0, p1, i0, i1⟩ := AR.out.at (k := M) hMn
                have q0 : wr.cell? ⟨o, off + M * 2, none⟩ = some sx := (LK.out.below.cell (p := ⟨o, off + M * 2, none⟩) ho).trans p0
                have q1 : wr.cell? ⟨o, off + M * 2 + 1, none⟩ = some sy := (LK.out.below.cell (p := ⟨o, off + M * 2 + 1, none⟩) ho).trans p1
                obtain ⟨a7, c7, w7, hr7, hl7⟩ := LK.out.grow (by omega) i0 i1
                have R7 : Hid ((Builtin.append_ #[47, 47] 47 #[.slice ad k cd, .slice (some ⟨wr.heap.size, 0, none⟩) 1 1]).run Try.prog (wr.alloc (.cells #[sx, sy] 26)) = .ok (.slice a7 (k + 1) c7) w7) := hr7
                have L7 : Hid (ListAt w3 w7 (.slice a7 (k + 1) c7) (k + 1) (xs ++ [sx, sy]) (pickF (rowsF t e) (fun i => (i + BY) % rn) (k + 1))) := by
                  show ListAt _ _ _ _ _ _
                  rw [pickF_succ, ← hM]
                  exact hl7
                obtain ⟨ax, cx, rfl, _, _⟩ := i0
                obtain ⟨ay, cy, rfl, _, _⟩ := i1
                clear hr7 hl7 p0 p1 hM
                go_wp2_with (at_builtin; refine wpList_append_ty rfl _ _ 47 47 rfl _ _ _ rfl rfl R7.out ?_)
                go_roundw
                case rel => exact ⟨k + 1, _, _, _, by omega, rfl, by go_num, L7.out⟩
                case measure => simp [intOf]; omega
              · obtain rfl : k = rn := by omega
                have BW : Hid (Below w2.heap.size w2 wr) := bTrans HB3.out LK.out.below
                have YR : Hid (Box wr (w.heap.size + 1) (.slice (some ⟨by', oy, none⟩) t.length c') (.slice b' e.length f') 26) := Y2.out.keep BW.out
                have RR : Hid (Box wr (w.heap.size + 1 + 1) (.slice none 0 0) (.slice none 0 0) 26) := R2.out.keep BW.out
                have LA : Hid (ArrsI wr (.slice ad k cd) (pickF (rowsF t e) (fun i => (i + BY) % k) k)) := LK.out.arrsI
                have y0 := YR.out.c0
                have y1 := YR.out.c1
                go_wp2_with fail
                refine (HA0.out _ _ _ rfl LA.out (HTI.out.keep (bTrans HB2.out BW.out))).mono ?_
                rintro r w8 ⟨v8, rfl, ha, hb⟩
                obtain ⟨a8, c8, b8, f8, rfl, _, _, _, _⟩ := ha.arrI
                have HA : Hid (Arr w2.heap.size w8.heap.size w8 (.agg #[.slice a8 t.length c8, .slice b8 D.length f8]) t D) := ha.mono BW.out.size (Nat.le_refl _)
                have R8 : Hid (Box w8 (w.heap.size + 1 + 1) (.slice none 0 0) (.slice none 0 0) 26) := RR.out.keep hb
                have HB8 : Hid (Below w.heap.size w w8) := bTrans (bTrans HB2.out BW.out) hb
                have L2 : Hid (w.heap.size + 1 + 1 < w2.heap.size) := R2.out.lt
                clear ha hb y0 y1
                have r0 := R8.out.c0
                have r1 := R8.out.c1
                have f0 : w8.frozen? ⟨w.heap.size + 1 + 1, 0, none⟩ = false := free_at R8.out 0
                have f1 : w8.frozen? ⟨w.heap.size + 1 + 1, 1, none⟩ = false := free_at R8.out 1
                have HR : Hid (((w8.setCell ⟨w.heap.size + 1 + 1, 0, none⟩ (.slice a8 t.length c8)).setCell ⟨w.heap.size + 1 + 1, 1, none⟩ (.slice b8 D.length f8)).heap[w.heap.size + 1 + 1]? = some (.cells #[.slice a8 t.length c8, .slice b8 D.length f8] 26 (0, 0))) := arr_stored R8.out
                go_wp2
                refine bodyPost_ret (results_arr_tmp Try.results24 _ _ (w.heap.size + 1 + 1) _ _ rfl HR.out) rfl ?_
                refine ⟨_, rfl, ?_, below_setCell (below_setCell HB8.out (by omega) _ _) (by omega) _ _⟩
                have L := L2.out
                exact ((HA.out.setCell L _ _).setCell L _ _).mono HB2.out.size (by simp only [size_setCell]; omega)
      · have n1 : ((d.length : Int) != 1) = true := by simp; omega
        have ER : rotateR s d t e = (3, [], []) := by unfold rotateR; rw [oneC_3 ho ho' hl]; rfl
        rw [ER]
        clear ER ho ho' hl k1 k2 g1
        go_enter Try.func24, Try.ntmps24
        go_wp2_with fail
        refine (arrOk_spec (H.out.keep (bAlloc (bAlloc (bAlloc (Below.refl _ _) _) _) _)) HD.out).mono ?_
        rintro r w1 ⟨rfl, hb⟩
        have HB1 : Hid (Below w.heap.size w w1) := bTrans (bAlloc (bAlloc (bAlloc (Below.refl _ _) _) _) _) hb
        have q1 := blocks3 w (.cells #[.slice a s.length c, .slice b d.length f] 26) (.cells #[.slice a' t.length c', .slice b' e.length f'] 26) (.cells #[.slice none 0 0, .slice none 0 0] 26)
        have X1 : Hid (Box w1 w.heap.size (.slice a s.length c) (.slice b d.length f) 26) := Box.keep q1.1 hb
        have Y1 : Hid (Box w1 (w.heap.size + 1) (.slice a' t.length c') (.slice b' e.length f') 26) := Box.keep q1.2.1 hb
        have R1 : Hid (Box w1 (w.heap.size + 1 + 1) (.slice none 0 0) (.slice none 0 0) 26) := Box.keep q1.2.2 hb
        clear hb q1
        rw [HO.out]
        have x0 := X1.out.c0
        have x1 := X1.out.c1
        have y0 := Y1.out.c0
        have y1 := Y1.out.c1
        have r0 := R1.out.c0
        have r1 := R1.out.c1
        have f0 : w1.frozen? ⟨w.heap.size + 1 + 1, 0, none⟩ = false := free_at R1.out 0
        have f1 : w1.frozen? ⟨w.heap.size + 1 + 1, 1, none⟩ = false := free_at R1.out 1
        go_wp2_with fail
        refine (arrOk_spec (K.out.keep HB1.out) HE.out).mono ?_
        rintro r w2 ⟨rfl, hb⟩
        have HB2 : Hid (Below w.heap.size w w2) := bTrans HB1.out hb
        have X2 : Hid (Box w2 w.heap.size (.slice a s.length c) (.slice b d.length f) 26) := X1.out.keep hb
        have Y2 : Hid (Box w2 (w.heap.size + 1) (.slice a' t.length c') (.slice b' e.length f') 26) := Y1.out.keep hb
        have R2 : Hid (Box w2 (w.heap.size + 1 + 1) (.slice none 0 0) (.slice none 0 0) 26) := R1.out.keep hb
        rw [HO'.out]
        clear hb
        clear x0 x1 y0 y1 r0 r1 f0 f1
        clear X1 Y1 R1 HB1
        have x0 := X2.out.c0
        have x1 := X2.out.c1
        have y0 := Y2.out.c0
        have y1 := Y2.out.c1
        have r0 := R2.out.c0
        have r1 := R2.out.c1
        have f0 : w2.frozen? ⟨w.heap.size + 1 + 1, 0, none⟩ = false := free_at R2.out 0
        have f1 : w2.frozen? ⟨w.heap.size + 1 + 1, 1, none⟩ = false := free_at R2.out 1
        have HR : Hid (((w2.setCell ⟨w.heap.size + 1 + 1, 0, none⟩ (.slice none 0 0)).setCell ⟨w.heap.size + 1 + 1, 1, none⟩ (.slice none 0 0)).heap[w.heap.size + 1 + 1]? = some (.cells #[.slice none 0 0, .slice none 0 0] 26 (0, 0))) := arr_stored R2.out
        go_wp2
        refine bodyPost_ret (results_arr_tmp Try.results24 _ _ (w.heap.size + 1 + 1) _ _ rfl HR.out) rfl ?_
        refine ⟨_, rfl, ?_, below_setCell (below_setCell HB2.out (by omega) _ _) (by omega) _ _⟩
        exact arr_zero _ _ _
    · have HO' : Hid (arrOk t e = false) := by show _ = _; simpa using ho'
      have ER : rotateR s d t e = (1, [], []) := by unfold rotateR; rw [show oneC s d t e = 1 from by unfold oneC; rw [if_neg (fun q => ho' q.2)]]; rfl
      rw [ER]
      clear ER ho ho' k1 k2 g1
      go_enter Try.func24, Try.ntmps24
      go_wp2_with fail
      refine (arrOk_spec (H.out.keep (bAlloc (bAlloc (bAlloc (Below.refl _ _) _) _) _)) HD.out).mono ?_
      rintro r w1 ⟨rfl, hb⟩
      have HB1 : Hid (Below w.heap.size w w1) := bTrans (bAlloc (bAlloc (bAlloc (Below.refl _ _) _) _) _) hb
      have q1 := blocks3 w (.cells #[.slice a s.length c, .slice b d.length f] 26) (.cells #[.slice a' t.length c', .slice b' e.length f'] 26) (.cells #[.slice none 0 0, .slice none 0 0] 26)
      have X1 : Hid (Box w1 w.heap.size (.slice a s.length c) (.slice b d.length f) 26) := Box.keep q1.1 hb
      have Y1 : Hid (Box w1 (w.heap.size + 1) (.slice a' t.length c') (.slice b' e.length f') 26) := Box.keep q1.2.1 hb
      have R1 : Hid (Box w1 (w.heap.size + 1 + 1) (.slice none 0 0) (.slice none 0 0) 26) := Box.keep q1.2.2 hb
      clear hb q1
      rw [HO.out]
      have x0 := X1.out.c0
      have x1 := X1.out.c1
      have y0 := Y1.out.c0
      have y1 := Y1.out.c1
      have r0 := R1.out.c0
      have r1 := R1.out.c1
      have f0 : w1.frozen? ⟨w.heap.size + 1 + 1, 0, none⟩ = false := free_at R1.out 0
      have f1 : w1.frozen? ⟨w.heap.size + 1 + 1, 1, none⟩ = false := free_at R1.out 1
      go_wp2_with fail
      refine (arrOk_spec (K.out.keep HB1.out) HE.out).mono ?_
      rintro r w2 ⟨rfl, hb⟩
      have HB2 : Hid (Below w.heap.size w w2) := bTrans HB1.out hb
      have X2 : Hid (Box w2 w.heap.size (.slice a s.length c) (.slice b d.length f) 26) := X1.out.keep hb
      have Y2 : Hid (Box w2 (w.heap.size + 1) (.slice a' t.length c') (.slice b' e.length f') 26) := Y1.out.keep hb
      have R2 : Hid (Box w2 (w.heap.size + 1 + 1) (.slice none 0 0) (.slice none 0 0) 26) := R1.out.keep hb
      rw [HO'.out]
      clear hb
      clear x0 x1 y0 y1 r0 r1 f0 f1
      clear X1 Y1 R1 HB1
      have x0 := X2.out.c0
      have x1 := X2.out.c1
      have y0 := Y2.out.c0
      have y1 := Y2.out.c1
      have r0 := R2.out.c0
      have r1 := R2.out.c1
      have f0 : w2.frozen? ⟨w.heap.size + 1 + 1, 0, none⟩ = false := free_at R2.out 0
      have f1 : w2.frozen? ⟨w.heap.size + 1 + 1, 1, none⟩ = false := free_at R2.out 1
      have HR : Hid (((w2.setCell ⟨w.heap.size + 1 + 1, 0, none⟩ (.slice none 0 0)).setCell ⟨w.heap.size + 1 + 1, 1, none⟩ (.slice none 0 0)).heap[w.heap.size + 1 + 1]? = some (.cells #[.slice none 0 0, .slice none 0 0] 26 (0, 0))) := arr_stored R2.out
      go_wp2
      refine bodyPost_ret (results_arr_tmp Try.results24 _ _ (w.heap.size + 1 + 1) _ _ rfl HR.out) rfl ?_
      refine ⟨_, rfl, ?_, below_setCell (below_setCell HB2.out (by omega) _ _) (by omega) _ _⟩
      exact arr_zero _ _ _
  · have HO : Hid (arrOk s d = false) := by show _ = _; simpa using ho
    have ER : rotateR s d t e = (1, [], []) := by unfold rotateR; rw [show oneC s d t e = 1 from by unfold oneC; rw [if_neg (fun q => ho q.1)]]; rfl
    rw [ER]
    clear ER ho k1 k2 g1
    go_enter Try.func24, Try.ntmps24
    go_wp2_with fail
    refine (arrOk_spec (H.out.keep (bAlloc (bAlloc (bAlloc (Below.refl _ _) _) _) _)) HD.out).mono ?_
    rintro r w1 ⟨rfl, hb⟩
    have HB1 : Hid (Below w.heap.size w w1) := bTrans (bAlloc (bAlloc (bAlloc (Below.refl _ _) _) _) _) hb
    have q1 := blocks3 w (.cells #[.slice a s.length c, .slice b d.length f] 26) (.cells #[.slice a' t.length c', .slice b' e.length f'] 26) (.cells #[.slice none 0 0, .slice none 0 0] 26)
    have X1 : Hid (Box w1 w.heap.size (.slice a s.length c) (.slice b d.length f) 26) := Box.keep q1.1 hb
    have Y1 : Hid (Box w1 (w.heap.size + 1) (.slice a' t.length c') (.slice b' e.length f') 26) := Box.keep q1.2.1 hb
    have R1 : Hid (Box w1 (w.heap.size + 1 + 1) (.slice none 0 0) (.slice none 0 0) 26) := Box.keep q1.2.2 hb
    clear hb q1
    rw [HO.out]
    have x0 := X1.out.c0
    have x1 := X1.out.c1
    have y0 := Y1.out.c0
    have y1 := Y1.out.c1
    have r0 := R1.out.c0
    have r1 := R1.out.c1
    have f0 : w1.frozen? ⟨w.heap.size + 1 + 1, 0, none⟩ = false := free_at R1.out 0
    have f1 : w1.frozen? ⟨w.heap.size + 1 + 1, 1, none⟩ = false := free_at R1.out 1
    have HR : Hid (((w1.setCell ⟨w.heap.size + 1 + 1, 0, none⟩ (.slice none 0 0)).setCell ⟨w.heap.size + 1 + 1, 1, none⟩ (.slice none 0 0)).heap[w.heap.size + 1 + 1]? = some (.cells #[.slice none 0 0, .slice none 0 0] 26 (0, 0))) := arr_stored R1.out
    go_wp2
    refine bodyPost_ret (results_arr_tmp Try.results24 _ _ (w.heap.size + 1 + 1) _ _ rfl HR.out) rfl ?_
    refine ⟨_, rfl, ?_, below_setCell (below_setCell HB1.out (by omega) _ _) (by omega) _ _⟩
    exact arr_zero _ _ _
end Go.Proofs.Ytfmheanmkfdjnao
namespace Go.Proofs.Ytfmheanmkfdjnao
open Go.RowKit
set_option linter.unusedVariables false
set_option linter.unusedSimpArgs false
theorem arrsI_sub {w : World} {o off n c m M : Nat} {F : List (List Int)} {a' : Option Addr} {c' : Nat} (h : ArrsI w (.slice (some ⟨o, off, none⟩) n c) F) (hM : M + m ≤ n) (ha : m = 0 ∨ a' = some ⟨o, off + M * 2, none⟩) : ArrsI w (.slice a' m c') ((F.drop (2 * M)).take (2 * m)) := by
  obtain ⟨a, n', c'', e, hF, h⟩ := h
  cases e
  have hl : ((F.drop (2 * M)).take (2 * m)).length = 2 * m := by simp; omega
  refine ⟨a', m, c', rfl, hl, ?_⟩
  rcases ha with h0 | rfl
  · exact .inl h0
  · by_cases h0 : m = 0
    · exact .inl h0
    · rcases h with h | ⟨o', off', xs, e, ho, hx, hj⟩
      · omega
      · cases e
        refine .inr ⟨o, off + M * 2, (xs.drop (2 * M)).take (2 * m), rfl, ho, by simp; omega, fun j hj' => ?_⟩
        have hj2 : j < 2 * m := by simp at hj'; omega
        obtain ⟨q1, q2⟩ := hj (2 * M + j) (by omega)
        have e1 : ((xs.drop (2 * M)).take (2 * m)).getD j undef = xs.getD (2 * M + j) undef := by simp [List.getD, List.getElem?_take_of_lt hj2]
        have e2 : ((F.drop (2 * M)).take (2 * m)).getD j [] = F.getD (2 * M + j) [] := by simp [List.getD, List.getElem?_take_of_lt hj2]
        rw [e1, e2]
        refine ⟨?_, q2⟩
        rw [show off + M * 2 + j = off + (2 * M + j) from by omega]
        exact q1
/-- A list of arrays from one on. -/
theorem arrs_from {w : World} {a : Option Addr} {n c M : Nat} {F : List (List Int)} (h : ArrsI w (.slice a n c) F) (hc : n ≤ c) (hM : M ≤ n) :
    ∃ a' c', (∀ W, (Instr.slice 47 (.slice a n c) (some (.int .i64 (M : Int))) none none).run Try.prog W = .ok (.slice a' (n - M) c') W) ∧ ArrsI w (.slice a' (n - M) c') ((F.drop (2 * M)).take (2 * (n - M))) := by
  have hrun : ∀ W, (Instr.slice 47 (.slice a n c) (some (.int .i64 (M : Int))) none none).run Try.prog W = .ok (sliced a M n c 2) W := by
    intro W
    have hs : (sizeOf 26).run Try.prog W = .ok 2 W := by kernel_rfl
    have he : Try.prog.elem 47 = 26 := by kernel_rfl
    rw [run_slice_l (P := Try.prog) (w := W) 47 a n c (by rw [he]; exact Try.underlying47) .i64 (M : Int) (by omega) (by omega), he, hs]
    simp [Result.andThen]
  refine ⟨_, _, hrun, ?_⟩
  by_cases h0 : n - M = 0
  · rw [h0]
    exact ⟨_, 0, _, rfl, by simp, .inl rfl⟩
  · obtain ⟨o, off, _, _, rfl, _⟩ := h.at (k := M) (by omega)
    refine arrsI_sub h (by omega) (.inr ?_)
    rw [if_neg (by omega)]
    simp [Addr.add]
/-- A list of arrays up to one. -/
theorem arrs_upto {w : World} {a : Option Addr} {n c m : Nat} {F : List (List Int)} (h : ArrsI w (.slice a n c) F) (hc : n ≤ c) (hm : m ≤ n) :
    ∃ a' c', (∀ W, (Instr.slice 47 (.slice a n c) none (some (.int .i64 (m : Int))) none).run Try.prog W = .ok (.slice a' m c') W) ∧ ArrsI w (.slice a' m c') ((F.drop 0).take (2 * m)) := by
  have hrun : ∀ W, (Instr.slice 47 (.slice a n c) none (some (.int .i64 (m : Int))) none).run Try.prog W = .ok (sliced a 0 m c 2) W := by
    intro W
    have hs : (sizeOf 26).run Try.prog W = .ok 2 W := by kernel_rfl
    have he : Try.prog.elem 47 = 26 := by kernel_rfl
    rw [run_slice_h (P := Try.prog) (w := W) 47 a n c (by rw [he]; exact Try.underlying47) .i64 (m : Int) (by omega) (by omega), he, hs]
    simp [Result.andThen]
  refine ⟨_, _, hrun, ?_⟩
  by_cases h0 : m = 0
  · subst h0
    exact ⟨_, 0, _, rfl, by simp, .inl rfl⟩
  · obtain ⟨o, off, _, _, rfl, _⟩ := h.at (k := 0) (by omega)
    have := arrsI_sub (M := 0) (m := m) (a' := some ⟨o, off, none⟩) (c' := c - 0) h (by omega) (.inr (by simp))
    simpa [sliced, Addr.add] using this
theorem vec_ok {t e : List Int} (h : arrOk t e = true) : arrOk (vecS t e) e = true ∧ vecS t e ≠ [] := by
  unfold vecS
  by_cases ht : t = []
  · subst ht
    rw [if_pos rfl]
    have z := arrOk_size h
    rw [sizeV_0'] at z
    have hl : e.length = 1 := by omega
    refine ⟨?_, by simp⟩
    have h2 : e.all ok = true := by
      unfold arrOk at h
      simp only [Bool.and_eq_true] at h
      exact h.2
    unfold arrOk
    rw [h2, hl]
    decide
  · rw [if_neg ht]; exact ⟨h, ht⟩
end Go.Proofs.Ytfmheanmkfdjnao
namespace Go.Proofs.Ytfmheanmkfdjnao
open Go.RowKit
set_option linter.unusedVariables false
set_option linter.unusedSimpArgs false
theorem rowsF_oddAt {s d : List Int} (ho : arrOk s d = true) (hs : s ≠ []) {M m i : Nat} (h : M + m ≤ rowsN s) (hi : i < m) : (((rowsF s d).drop (2 * M)).take (2 * m)).getD (2 * i + 1) [] = rowAt s d (M + i) := by
  rw [← rowsF_odd ho hs (i := M + i) (by omega)]
  simp only [List.getD_eq_getElem?_getD]
  rw [List.getElem?_take_of_lt (by omega), List.getElem?_drop, show 2 * M + (2 * i + 1) = 2 * (M + i) + 1 from by omega]
theorem cat_cut {s d : List Int} (ho : arrOk s d = true) (hs : s ≠ []) {M m : Nat} (h : M + m ≤ rowsN s) : catF (((rowsF s d).drop (2 * M)).take (2 * m)) m = (d.drop (M * rowN s)).take (m * rowN s) := by
  have key : ∀ k, k ≤ m → catF (((rowsF s d).drop (2 * M)).take (2 * m)) k = (d.drop (M * rowN s)).take (k * rowN s) := by
    intro k
    induction k with
    | zero => intro _; simp [catF]
    | succ k ih =>
      intro hk
      rw [catF_succ, ih (by omega), rowsF_oddAt ho hs h (by omega), Nat.succ_mul, List.take_add]
      congr 1
      unfold rowAt
      rw [List.drop_drop, Nat.add_mul]
  exact key m (Nat.le_refl _)
theorem rows_all {s d : List Int} (ho : arrOk s d = true) (hs : s ≠ []) : rowsN s * rowN s = d.length := by
  obtain ⟨e1, e2⟩ := rowsN_bd ho
  cases s with
  | nil => exact absurd rfl hs
  | cons n0 t =>
    have h0 : n0 = (rowsN (n0 :: t) : Int) := e2
    by_cases hp : 0 < n0
    · obtain ⟨p0, p1, p2⟩ := tail_size ho hp
      have : rowN (n0 :: t) = (sizeV t).toNat := rfl
      have q : ((rowsN (n0 :: t) * rowN (n0 :: t) : Nat) : Int) = (d.length : Int) := by
        rw [this, Int.natCast_mul, ← h0, Int.toNat_of_nonneg p0]; exact p1
      omega
    · have hz : rowsN (n0 :: t) = 0 := by omega
      have z := arrOk_size ho
      have k := (sizeV_ok (arrOk_shape ho)).2.2.2
      have : sizeV (n0 :: t) = 0 := by
        rw [k]
        have : n0 = 0 := by omega
        subst this
        have hf : ∀ l : List Int, List.foldl (fun x1 x2 => x1 * x2) 0 l = 0 := by
          intro l
          induction l with
          | nil => rfl
          | cons y l ih => simpa using ih
        simp [prodV, hf]
      rw [hz, Nat.zero_mul]
      omega
theorem many_nat (x : Int) : manyV x = ((manyV x).toNat : Int) := by unfold manyV; split <;> omega
end Go.Proofs.Ytfmheanmkfdjnao
