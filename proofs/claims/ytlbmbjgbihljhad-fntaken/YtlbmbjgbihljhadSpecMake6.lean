/-
  Walks: the specification's Rotate.
-/
import Derived.Test.YtlbmbjgbihljhadSpecMake5
import Derived.Test.YtlbmbjgbihljhadSpecMake2
namespace Go.Proofs.Ytlbmbjgbihljhad
open Go.RowKit
set_option linter.unusedVariables false
set_option linter.unusedSimpArgs false
theorem oneC_ok {s d t e : List Int} (ho : arrOk s d = true) (ho' : arrOk t e = true) (hl : d.length = 1) : oneC s d t e = 0 := by unfold oneC; rw [if_pos ⟨ho, ho'⟩, if_neg (by simpa using hl)]
theorem oneC_3 {s d t e : List Int} (ho : arrOk s d = true) (ho' : arrOk t e = true) (hl : ¬ d.length = 1) : oneC s d t e = 3 := by unfold oneC; rw [if_pos ⟨ho, ho'⟩, if_pos hl]
theorem num_bd {s d : List Int} (ho : arrOk s d = true) (h : 0 < d.length) : -1000000000000 ≤ d.getD 0 0 ∧ d.getD 0 0 ≤ 1000000000000 := by
  have h2 : d.all ok = true := by
    unfold arrOk at ho
    simp only [Bool.and_eq_true] at ho
    exact ho.2
  have := List.all_eq_true.1 h2 (d.getD 0 0) (by simp [h])
  exact ok_bd this
theorem wrap64_small {a : Int} (h1 : -1000000000000000 ≤ a) (h2 : a ≤ 1000000000000000) : wrap64 a = a := by unfold wrap64; omega
theorem turn_num {x : Int} {n : Nat} (hn : 0 < n) : (Int.tmod (Int.tmod x n + n) n) = ((rotateBy x n : Nat) : Int) ∧ rotateBy x n < n ∧ -(n : Int) < Int.tmod x n ∧ Int.tmod x n < n := by
  unfold rotateBy
  have h0 : (0 : Int) < (n : Int) := by omega
  have e1 := Int.emod_nonneg x (b := (n : Int)) (by omega)
  have e2 := Int.emod_lt_of_pos x h0
  have hb : -(n : Int) < Int.tmod x n ∧ Int.tmod x n < n := ⟨by have := Int.lt_tmod_of_pos x h0; omega, Int.tmod_lt_of_pos x h0⟩
  refine ⟨?_, by omega, hb⟩
  rw [Int.tmod_eq_emod_of_nonneg (by omega), Int.add_emod_right]
  rw [Int.toNat_of_nonneg e1]
  have e := Int.tmod_add_mul_tdiv x n
  conv => rhs; rw [← e]
  rw [Int.add_mul_emod_self_left]
set_option maxRecDepth 20000 in
set_option maxHeartbeats 4000000 in
/-- Rotate. -/
theorem rotate_spec {s d t e : List Int} {w : World} {v u : Value} (h : ArrI w v s d) (k : ArrI w u t e) (hd : d.length ≤ 1048576) (ht : t.length ≤ 1048576) (he : e.length ≤ 1048576) :
    Calls Try.prog 25 #[v, u] w fun r w' => ∃ v', r = .returned (.tuple #[v', .int .i64 (rotateR s d t e).1]) ∧ Arr w.heap.size w'.heap.size w' v' (rotateR s d t e).2.1 (rotateR s d t e).2.2 ∧ Below w.heap.size w w' := by
  have H : Hid (ArrI w v s d) := h
  have K : Hid (ArrI w u t e) := k
  obtain ⟨a, c, b, f, rfl, h1, h2, _, _⟩ := h
  obtain ⟨a', c', b', f', rfl, k1, k2, g1, _⟩ := k
  have H2 : Hid (Ints w b d) := h2
  have K1 : Hid (Ints w a' t) := k1
  have HD : Hid (d.length ≤ 1048576) := hd
  have HT : Hid (t.length ≤ 1048576) := ht
  have HE : Hid (e.length ≤ 1048576) := he
  clear h1 h2 hd ht he
  by_cases ho : arrOk s d = true
  · have HO : Hid (arrOk s d = true) := ho
    by_cases ho' : arrOk t e = true
    · have HO' : Hid (arrOk t e = true) := ho'
      by_cases hl : d.length = 1
      · have n1 : ((d.length : Int) != 1) = false := by simp [hl]
        have hlt : (0 : Int) < (d.length : Int) := by omega
        obtain ⟨bx, ox, rfl, hbx, cx⟩ := H2.out.at (k := 0) (by omega)
        rw [Nat.add_zero] at cx
        have CC : Hid (∀ W, Below w.heap.size w W → W.cell? ⟨bx, ox, none⟩ = some (.int .i64 (d.getD 0 0))) := fun W h => (h.cell (p := ⟨bx, ox, none⟩) hbx).trans cx
        have ER : rotateR s d t e = (0, t, rotateD (d.getD 0 0) t e) := by unfold rotateR; rw [oneC_ok ho ho' hl]; rfl
        rw [ER]
        have XB : Hid (-1000000000000 ≤ d.getD 0 0 ∧ d.getD 0 0 ≤ 1000000000000) := num_bd ho (by omega)
        clear ER cx hl
        generalize d.getD 0 0 = x at *
        by_cases ht0 : t = []
        · subst ht0
          have ED : rotateD x [] e = e := by unfold rotateD; rw [if_pos (.inl rfl)]
          rw [ED]
          clear ED ho ho' k1 k2 g1
          go_enter Try.func25, Try.ntmps25
          go_wp2_with fail
          refine (arrOk_spec (H.out.keep (bAlloc (bAlloc (bAlloc (Below.refl _ _) _) _) _)) HD.out).mono ?_
          rintro r w1 ⟨rfl, hb⟩
          have HB1 : Hid (Below w.heap.size w w1) := bTrans (bAlloc (bAlloc (bAlloc (Below.refl _ _) _) _) _) hb
          have q1 := blocks3 w (.cells #[.slice a s.length c, .slice (some ⟨bx, ox, none⟩) d.length f] 26) (.cells #[.slice a' 0 c', .slice b' e.length f'] 26) (.cells #[.slice none 0 0, .slice none 0 0] 26)
          have X1 : Hid (Box w1 w.heap.size (.slice a s.length c) (.slice (some ⟨bx, ox, none⟩) d.length f) 26) := Box.keep q1.1 hb
          have Y1 : Hid (Box w1 (w.heap.size + 1) (.slice a' 0 c') (.slice b' e.length f') 26) := Box.keep q1.2.1 hb
          have R1 : Hid (Box w1 (w.heap.size + 1 + 1) (.slice none 0 0) (.slice none 0 0) 26) := Box.keep q1.2.2 hb
          clear hb q1
          rw [HO.out]
          have x0 := X1.out.c0
          have x1 := X1.out.c1
          have y0 := Y1.out.c0
          have y1 := Y1.out.c1
          have r0 := R1.out.c0
          have r1 := R1.out.c1
          have f0 : w1.frozen? ⟨w.heap.size + 1 + 1, 0, none⟩ = false := free_at R1.out 0
          have f1 : w1.frozen? ⟨w.heap.size + 1 + 1, 1, none⟩ = false := free_at R1.out 1
          go_wp2_with fail
          refine (arrOk_spec (K.out.keep HB1.out) HE.out).mono ?_
          rintro r w2 ⟨rfl, hb⟩
          have HB2 : Hid (Below w.heap.size w w2) := bTrans HB1.out hb
          have X2 : Hid (Box w2 w.heap.size (.slice a s.length c) (.slice (some ⟨bx, ox, none⟩) d.length f) 26) := X1.out.keep hb
          have Y2 : Hid (Box w2 (w.heap.size + 1) (.slice a' 0 c') (.slice b' e.length f') 26) := Y1.out.keep hb
          have R2 : Hid (Box w2 (w.heap.size + 1 + 1) (.slice none 0 0) (.slice none 0 0) 26) := R1.out.keep hb
          rw [HO'.out]
          clear hb
          clear x0 x1 y0 y1 r0 r1 f0 f1
          clear X1 Y1 R1 HB1
          have x0 := X2.out.c0
          have x1 := X2.out.c1
          have y0 := Y2.out.c0
          have y1 := Y2.out.c1
          have r0 := R2.out.c0
          have r1 := R2.out.c1
          have f0 : w2.frozen? ⟨w.heap.size + 1 + 1, 0, none⟩ = false := free_at R2.out 0
          have f1 : w2.frozen? ⟨w.heap.size + 1 + 1, 1, none⟩ = false := free_at R2.out 1
          go_wp2_with fail
          refine (copy_spec (K.out.keep HB2.out) HT.out HE.out).mono ?_
          rintro r w3 ⟨v3, rfl, ha, hb⟩
          obtain ⟨a3, c3, b3, f3, rfl, _, _, _, _⟩ := ha.arrI
          have HA : Hid (Arr w2.heap.size w3.heap.size w3 (.agg #[.slice a3 0 c3, .slice b3 e.length f3]) [] e) := ha
          have HB3 : Hid (Below w.heap.size w w3) := bTrans HB2.out hb
          have L2 : Hid (w.heap.size + 1 + 1 < w2.heap.size) := R2.out.lt
          have R3 : Hid (Box w3 (w.heap.size + 1 + 1) (.slice none 0 0) (.slice none 0 0) 26) := R2.out.keep hb
          clear ha hb x0 x1 y0 y1 r0 r1 f0 f1
          simp only [List.length_nil]
          have r0 := R3.out.c0
          have r1 := R3.out.c1
          have f0 : w3.frozen? ⟨w.heap.size + 1 + 1, 0, none⟩ = false := free_at R3.out 0
          have f1 : w3.frozen? ⟨w.heap.size + 1 + 1, 1, none⟩ = false := free_at R3.out 1
          have HR : Hid (((w3.setCell ⟨w.heap.size + 1 + 1, 0, none⟩ (.slice a3 0 c3)).setCell ⟨w.heap.size + 1 + 1, 1, none⟩ (.slice b3 e.length f3)).heap[w.heap.size + 1 + 1]? = some (.cells #[.slice a3 0 c3, .slice b3 e.length f3] 26 (0, 0))) := arr_stored R3.out
          go_wp2
          refine bodyPost_ret (results_arr_tmp Try.results25 _ _ (w.heap.size + 1 + 1) _ _ rfl HR.out) rfl ?_
          refine ⟨_, rfl, ?_, below_setCell (below_setCell HB3.out (by omega) _ _) (by omega) _ _⟩
          have L := L2.out
          exact ((HA.out.setCell L _ _).setCell L _ _).mono HB2.out.size (by simp only [size_setCell]; omega)
        · have n2 : ((t.length : Int) == 0) = false := by
            have := List.length_pos_iff.2 ht0
            simp; omega
          have hlt2 : (0 : Int) < (t.length : Int) := by have := List.length_pos_iff.2 ht0; omega
          obtain ⟨by', oy, rfl, hby, cy⟩ := K1.out.at (k := 0) (List.length_pos_iff.2 ht0)
          rw [Nat.add_zero] at cy
          have CY : Hid (∀ W, Below w.heap.size w W → W.cell? ⟨by', oy, none⟩ = some (.int .i64 (t.getD 0 0))) := fun W h => (h.cell (p := ⟨by', oy, none⟩) hby).trans cy
          by_cases hz : t.getD 0 0 = 0
          · have ED : rotateD x t e = e := by unfold rotateD; rw [if_pos (.inr hz)]
            rw [ED]
            rw [hz] at CY
            clear ED ho ho' k1 k2 g1 hz cy ht0
            go_enter Try.func25, Try.ntmps25
            go_wp2_with fail
            refine (arrOk_spec (H.out.keep (bAlloc (bAlloc (bAlloc (Below.refl _ _) _) _) _)) HD.out).mono ?_
            rintro r w1 ⟨rfl, hb⟩
            have HB1 : Hid (Below w.heap.size w w1) := bTrans (bAlloc (bAlloc (bAlloc (Below.refl _ _) _) _) _) hb
            have q1 := blocks3 w (.cells #[.slice a s.length c, .slice (some ⟨bx, ox, none⟩) d.length f] 26) (.cells #[.slice (some ⟨by', oy, none⟩) t.length c', .slice b' e.length f'] 26) (.cells #[.slice none 0 0, .slice none 0 0] 26)
            have X1 : Hid (Box w1 w.heap.size (.slice a s.length c) (.slice (some ⟨bx, ox, none⟩) d.length f) 26) := Box.keep q1.1 hb
            have Y1 : Hid (Box w1 (w.heap.size + 1) (.slice (some ⟨by', oy, none⟩) t.length c') (.slice b' e.length f') 26) := Box.keep q1.2.1 hb
            have R1 : Hid (Box w1 (w.heap.size + 1 + 1) (.slice none 0 0) (.slice none 0 0) 26) := Box.keep q1.2.2 hb
            clear hb q1
            rw [HO.out]
            have x0 := X1.out.c0
            have x1 := X1.out.c1
            have y0 := Y1.out.c0
            have y1 := Y1.out.c1
            have r0 := R1.out.c0
            have r1 := R1.out.c1
            have f0 : w1.frozen? ⟨w.heap.size + 1 + 1, 0, none⟩ = false := free_at R1.out 0
            have f1 : w1.frozen? ⟨w.heap.size + 1 + 1, 1, none⟩ = false := free_at R1.out 1
            go_wp2_with fail
            refine (arrOk_spec (K.out.keep HB1.out) HE.out).mono ?_
            rintro r w2 ⟨rfl, hb⟩
            have HB2 : Hid (Below w.heap.size w w2) := bTrans HB1.out hb
            have X2 : Hid (Box w2 w.heap.size (.slice a s.length c) (.slice (some ⟨bx, ox, none⟩) d.length f) 26) := X1.out.keep hb
            have Y2 : Hid (Box w2 (w.heap.size + 1) (.slice (some ⟨by', oy, none⟩) t.length c') (.slice b' e.length f') 26) := Y1.out.keep hb
            have R2 : Hid (Box w2 (w.heap.size + 1 + 1) (.slice none 0 0) (.slice none 0 0) 26) := R1.out.keep hb
            rw [HO'.out]
            clear hb
            clear x0 x1 y0 y1 r0 r1 f0 f1
            clear X1 Y1 R1 HB1
            have x0 := X2.out.c0
            have x1 := X2.out.c1
            have y0 := Y2.out.c0
            have y1 := Y2.out.c1
            have r0 := R2.out.c0
            have r1 := R2.out.c1
            have f0 : w2.frozen? ⟨w.heap.size + 1 + 1, 0, none⟩ = false := free_at R2.out 0
            have f1 : w2.frozen? ⟨w.heap.size + 1 + 1, 1, none⟩ = false := free_at R2.out 1
            have cy := CY.out _ HB2.out
            go_wp2_with fail
            refine (copy_spec (K.out.keep HB2.out) HT.out HE.out).mono ?_
            rintro r w3 ⟨v3, rfl, ha, hb⟩
            obtain ⟨a3, c3, b3, f3, rfl, _, _, _, _⟩ := ha.arrI
            have HA : Hid (Arr w2.heap.size w3.heap.size w3 (.agg #[.slice a3 t.length c3, .slice b3 e.length f3]) t e) := ha
            have HB3 : Hid (Below w.heap.size w w3) := bTrans HB2.out hb
            have L2 : Hid (w.heap.size + 1 + 1 < w2.heap.size) := R2.out.lt
            have R3 : Hid (Box w3 (w.heap.size + 1 + 1) (.slice none 0 0) (.slice none 0 0) 26) := R2.out.keep hb
            clear ha hb x0 x1 y0 y1 r0 r1 f0 f1
            have r0 := R3.out.c0
            have r1 := R3.out.c1
            have f0 : w3.frozen? ⟨w.heap.size + 1 + 1, 0, none⟩ = false := free_at R3.out 0
            have f1 : w3.frozen? ⟨w.heap.size + 1 + 1, 1, none⟩ = false := free_at R3.out 1
            have HR : Hid (((w3.setCell ⟨w.heap.size + 1 + 1, 0, none⟩ (.slice a3 t.length c3)).setCell ⟨w.heap.size + 1 + 1, 1, none⟩ (.slice b3 e.length f3)).heap[w.heap.size + 1 + 1]? = some (.cells #[.slice a3 t.length c3, .slice b3 e.length f3] 26 (0, 0))) := arr_stored R3.out
            go_wp2
            refine bodyPost_ret (results_arr_tmp Try.results25 _ _ (w.heap.size + 1 + 1) _ _ rfl HR.out) rfl ?_
            refine ⟨_, rfl, ?_, below_setCell (below_setCell HB3.out (by omega) _ _) (by omega) _ _⟩
            have L := L2.out
            exact ((HA.out.setCell L _ _).setCell L _ _).mono HB2.out.size (by simp only [size_setCell]; omega)
          · have hz' : (t.getD 0 0 == 0) = false := by simpa using hz
            obtain ⟨e1, e2⟩ := rowsN_bd ho'
            obtain ⟨N, hN⟩ : ∃ N, N = rowsN t := ⟨_, rfl⟩
            have hn : N ≤ 300 := by omega
            have hn0 : 0 < N := by
              rw [hN]
              apply Nat.pos_of_ne_zero
              intro q
              rw [q] at e2
              exact hz e2
            obtain ⟨BY, hBY⟩ : ∃ B, B = rotateBy x N := ⟨_, rfl⟩
            obtain ⟨t1, t2, t3, t4⟩ := turn_num (x := x) hn0
            rw [← hBY] at t1 t2
            have HF : Hid ((rowsF t e).length = 2 * N) := by show _ = _; rw [rowsF_length, if_pos ⟨ho', ht0⟩, hN]; rfl
            have HC : Hid (catF (pickF (rowsF t e) (fun i => (i + BY) % N) N) N = rotateD x t e) := by
              show _ = _
              rw [pick_rows ho' ht0 (fun i hi => by rw [← hN]; exact Nat.mod_lt _ hn0)]
              unfold rotateD
              rw [if_neg (fun q => q.elim ht0 hz), ← hN, hBY]
            have HCB : Hid ((catF (pickF (rowsF t e) (fun i => (i + BY) % N) N) N).length ≤ 1000000) := pick_bound _ _ _ hn
            have HL3 : Hid (∀ W, Below w.heap.size w W → Calls Try.prog 50 #[.agg #[.slice (some ⟨by', oy, none⟩) t.length c', .slice b' e.length f']] W fun r w' => ∃ v', r = .returned v' ∧ Arrs W.heap.size w'.heap.size w' v' (rowsF t e) ∧ Below W.heap.size W w') := fun W hb => l3rows_ne (K.out.keep hb) ho' ht0
            obtain ⟨tl, ct, hcut, hti⟩ := tail_cut_ne k1 ht0 g1
            have ETA : Hid ((N : Int) :: t.drop 1 = t) := by show _ = _; rw [hN, ← e2]; exact cons_eta ht0
            have HTL : Hid ((t.drop 1).length ≤ 1000000) := by
              have := (sizeV_ok (arrOk_shape ho')).1
              show _ ≤ _; simp; omega
            generalize t.drop 1 = t' at *
            have HTI : Hid (IntsI w (.slice tl t'.length ct) t') := hti
            have HA0 : Hid (∀ W u F, F = pickF (rowsF t e) (fun i => (i + BY) % N) N → ArrsI W u F → IntsI W (.slice tl t'.length ct) t' → Calls Try.prog 51 #[u, .slice tl t'.length ct] W fun r w' => ∃ v', r = .returned v' ∧ Arr W.heap.size w'.heap.size w' v' t (rotateD x t e) ∧ Below W.heap.size W w') := by
              intro W u F hF h1 h2
              subst hF
              have := rows5_spec h1 h2 (pickF_length _ _ _) (by omega) HTL.out HCB.out
              rw [ETA.out, HC.out] at this
              exact this
            have xb : -1000000000000 ≤ x ∧ x ≤ 1000000000000 := XB.out
            clear HC ho ho' k1 k2 g1 hti e1 e2 hN hBY cy
            generalize rotateD x t e = D at *
            generalize t.getD 0 0 = t0 at *
            go_enter Try.func25, Try.ntmps25
            go_wp2_with fail
            refine (arrOk_spec (H.out.keep (bAlloc (bAlloc (bAlloc (Below.refl _ _) _) _) _)) HD.out).mono ?_
            rintro r w1 ⟨rfl, hb⟩
            have HB1 : Hid (Below w.heap.size w w1) := bTrans (bAlloc (bAlloc (bAlloc (Below.refl _ _) _) _) _) hb
            have q1 := blocks3 w (.cells #[.slice a s.length c, .slice (some ⟨bx, ox, none⟩) d.length f] 26) (.cells #[.slice (some ⟨by', oy, none⟩) t.length c', .slice b' e.length f'] 26) (.cells #[.slice none 0 0, .slice none 0 0] 26)
            have X1 : Hid (Box w1 w.heap.size (.slice a s.length c) (.slice (some ⟨bx, ox, none⟩) d.length f) 26) := Box.keep q1.1 hb
            have Y1 : Hid (Box w1 (w.heap.size + 1) (.slice (some ⟨by', oy, none⟩) t.length c') (.slice b' e.length f') 26) := Box.keep q1.2.1 hb
            have R1 : Hid (Box w1 (w.heap.size + 1 + 1) (.slice none 0 0) (.slice none 0 0) 26) := Box.keep q1.2.2 hb
            clear hb q1
            rw [HO.out]
            have x0 := X1.out.c0
            have x1 := X1.out.c1
            have y0 := Y1.out.c0
            have y1 := Y1.out.c1
            have r0 := R1.out.c0
            have r1 := R1.out.c1
            have f0 : w1.frozen? ⟨w.heap.size + 1 + 1, 0, none⟩ = false := free_at R1.out 0
            have f1 : w1.frozen? ⟨w.heap.size + 1 + 1, 1, none⟩ = false := free_at R1.out 1
            go_wp2_with fail
            refine (arrOk_spec (K.out.keep HB1.out) HE.out).mono ?_
            rintro r w2 ⟨rfl, hb⟩
            have HB2 : Hid (Below w.heap.size w w2) := bTrans HB1.out hb
            have X2 : Hid (Box w2 w.heap.size (.slice a s.length c) (.slice (some ⟨bx, ox, none⟩) d.length f) 26) := X1.out.keep hb
            have Y2 : Hid (Box w2 (w.heap.size + 1) (.slice (some ⟨by', oy, none⟩) t.length c') (.slice b' e.length f') 26) := Y1.out.keep hb
            have R2 : Hid (Box w2 (w.heap.size + 1 + 1) (.slice none 0 0) (.slice none 0 0) 26) := R1.out.keep hb
            rw [HO'.out]
            clear hb
            clear x0 x1 y0 y1 r0 r1 f0 f1
            clear X1 Y1 R1 HB1
            have x0 := X2.out.c0
            have x1 := X2.out.c1
            have y0 := Y2.out.c0
            have y1 := Y2.out.c1
            have r0 := R2.out.c0
            have r1 := R2.out.c1
            have f0 : w2.frozen? ⟨w.heap.size + 1 + 1, 0, none⟩ = false := free_at R2.out 0
            have f1 : w2.frozen? ⟨w.heap.size + 1 + 1, 1, none⟩ = false := free_at R2.out 1
            have cy := CY.out _ HB2.out
            have cx := CC.out _ HB2.out
            go_wp2_with fail
            refine (HL3.out _ HB2.out).mono ?_
            rintro r w3 ⟨v3, rfl, ha, hb⟩
            have AR : Hid (ArrsI w3 v3 (rowsF t e)) := ha.arrsI
            obtain ⟨ra, rn, rc, rfl, e5, _⟩ := ha.arrsI
            obtain rfl : rn = N := by have := HF.out; omega
            have HB3 : Hid (Below w2.heap.size w2 w3) := hb
            have X3 : Hid (Box w3 w.heap.size (.slice a s.length c) (.slice (some ⟨bx, ox, none⟩) d.length f) 26) := X2.out.keep hb
            have Y3 : Hid (Box w3 (w.heap.size + 1) (.slice (some ⟨by', oy, none⟩) t.length c') (.slice b' e.length f') 26) := Y2.out.keep hb
            have R3 : Hid (Box w3 (w.heap.size + 1 + 1) (.slice none 0 0) (.slice none 0 0) 26) := R2.out.keep hb
            clear ha hb x0 x1 y0 y1 r0 r1 f0 f1 e5 cx cy
            have cx := CC.out _ (bTrans HB2.out HB3.out)
            have x1 := X3.out.c1
            go_wp2
            clear t1 t3 t4
            generalize hW : w3.alloc (.cells #[] 26) = W4
            have L4 : Hid (ListAt w3 W4 (.slice (some ⟨w3.heap.size, 0, none⟩) 0 0) 0 [] (pickF (rowsF t e) (fun i => (i + BY) % rn) 0)) := by rw [← hW]; exact listAt_new w3
            clear hW cx x1
            go_loopw [9, 10] (fun u i w' => ∃ (k : Nat) (ad : Option Addr) (cd : Nat) (xs : List Value), k ≤ rn ∧ u = .slice ad k cd ∧ i = .int .i64 (k : Int) ∧ ListAt w3 w' (.slice ad k cd) k xs (pickF (rowsF t e) (fun i => (i + BY) % rn) k)) (fun _ i _ => rn - (intOf i).toNat)
            case atStart => exact ⟨0, _, _, _, by omega, rfl, rfl, L4.out⟩
            case round =>
              obtain ⟨k, ad, cd, xs, hk, rfl, rfl, hL⟩ := hrel
              have LK : Hid (ListAt w3 wr (.slice ad k cd) k xs (pickF (rowsF t e) (fun i => (i + BY) % rn) k)) := hL
              clear hL L4
              by_cases hkn : (k : Int) < (rn : Int)
              · obtain ⟨M, hM⟩ : ∃ M, M = (k + BY) % rn := ⟨_, rfl⟩
                have hMn : M < rn := by rw [hM]; exact Nat.mod_lt _ hn0
                have eM : ((k : Int) + (BY : Int)).tmod (rn : Int) = (M : Int) := by
                  rw [Int.tmod_eq_emod_of_nonneg (by omega), hM]; simp
                have eM2 : ((k : Int) + (BY : Int)) % (rn : Int) = (M : Int) := by rw [hM]; simp
                have hMi : (M : Int) < (rn : Int) := by omega
                obtain ⟨o, off, sx, sy, rfl, ho, p0, p1, i0, i1⟩ := AR.out.at (k := M) hMn
                have q0 : wr.cell? ⟨o, off + M * 2, none⟩ = some sx := (LK.out.below.cell (p := ⟨o, off + M * 2, none⟩) ho).trans p0
                have q1 : wr.cell? ⟨o, off + M * 2 + 1, none⟩ = some sy := (LK.out.below.cell (p := ⟨o, off + M * 2 + 1, none⟩) ho).trans p1
                obtain ⟨a7, c7, w7, hr7, hl7⟩ := LK.out.grow (by omega) i0 i1
                have R7 : Hid ((Builtin.append_ #[38, 38] 38 #[.slice ad k cd, .slice (some ⟨wr.heap.size, 0, none⟩) 1 1]).run Try.prog (wr.alloc (.cells #[sx, sy] 26)) = .ok (.slice a7 (k + 1) c7) w7) := hr7
                have L7 : Hid (ListAt w3 w7 (.slice a7 (k + 1) c7) (k + 1) (xs ++ [sx, sy]) (pickF (rowsF t e) (fun i => (i + BY) % rn) (k + 1))) := by
                  show ListAt _ _ _ _ _ _
                  rw [pickF_succ, ← hM]
                  exact hl7
                obtain ⟨ax, cx, rfl, _, _⟩ := i0
                obtain ⟨ay, cy, rfl, _, _⟩ := i1
                clear hr7 hl7 p0 p1 hM
                go_wp2_with (at_builtin; refine wpList_append_ty rfl _ _ 38 38 rfl _ _ _ rfl rfl R7.out ?_)
                go_roundw
                case rel => exact ⟨k + 1, _, _, _, by omega, rfl, by go_num, L7.out⟩
                case measure => simp [intOf]; omega
              · obtain rfl : k = rn := by omega
                have BW : Hid (Below w2.heap.size w2 wr) := bTrans HB3.out LK.out.below
                have YR : Hid (Box wr (w.heap.size + 1) (.slice (some ⟨by', oy, none⟩) t.length c') (.slice b' e.length f') 26) := Y2.out.keep BW.out
                have RR : Hid (Box wr (w.heap.size + 1 + 1) (.slice none 0 0) (.slice none 0 0) 26) := R2.out.keep BW.out
                have LA : Hid (ArrsI wr (.slice ad k cd) (pickF (rowsF t e) (fun i => (i + BY) % k) k)) := LK.out.arrsI
                have y0 := YR.out.c0
                have y1 := YR.out.c1
                go_wp2_with fail
                refine (HA0.out _ _ _ rfl LA.out (HTI.out.keep (bTrans HB2.out BW.out))).mono ?_
                rintro r w8 ⟨v8, rfl, ha, hb⟩
                obtain ⟨a8, c8, b8, f8, rfl, _, _, _, _⟩ := ha.arrI
                have HA : Hid (Arr w2.heap.size w8.heap.size w8 (.agg #[.slice a8 t.length c8, .slice b8 D.length f8]) t D) := ha.mono BW.out.size (Nat.le_refl _)
                have R8 : Hid (Box w8 (w.heap.size + 1 + 1) (.slice none 0 0) (.slice none 0 0) 26) := RR.out.keep hb
                have HB8 : Hid (Below w.heap.size w w8) := bTrans (bTrans HB2.out BW.out) hb
                have L2 : Hid (w.heap.size + 1 + 1 < w2.heap.size) := R2.out.lt
                clear ha hb y0 y1
                have r0 := R8.out.c0
                have r1 := R8.out.c1
                have f0 : w8.frozen? ⟨w.heap.size + 1 + 1, 0, none⟩ = false := free_at R8.out 0
                have f1 : w8.frozen? ⟨w.heap.size + 1 + 1, 1, none⟩ = false := free_at R8.out 1
                have HR : Hid (((w8.setCell ⟨w.heap.size + 1 + 1, 0, none⟩ (.slice a8 t.length c8)).setCell ⟨w.heap.size + 1 + 1, 1, none⟩ (.slice b8 D.length f8)).heap[w.heap.size + 1 + 1]? = some (.cells #[.slice a8 t.length c8, .slice b8 D.length f8] 26 (0, 0))) := arr_stored R8.out
                go_wp2
                refine bodyPost_ret (results_arr_tmp Try.results25 _ _ (w.heap.size + 1 + 1) _ _ rfl HR.out) rfl ?_
                refine ⟨_, rfl, ?_, below_setCell (below_setCell HB8.out (by omega) _ _) (by omega) _ _⟩
                have L := L2.out
                exact ((HA.out.setCell L _ _).setCell L _ _).mono HB2.out.size (by simp only [size_setCell]; omega)
      · have n1 : ((d.length : Int) != 1) = true := by simp; omega
        have ER : rotateR s d t e = (3, [], []) := by unfold rotateR; rw [oneC_3 ho ho' hl]; rfl
        rw [ER]
        clear ER ho ho' hl k1 k2 g1
        go_enter Try.func25, Try.ntmps25
        go_wp2_with fail
        refine (arrOk_spec (H.out.keep (bAlloc (bAlloc (bAlloc (Below.refl _ _) _) _) _)) HD.out).mono ?_
        rintro r w1 ⟨rfl, hb⟩
        have HB1 : Hid (Below w.heap.size w w1) := bTrans (bAlloc (bAlloc (bAlloc (Below.refl _ _) _) _) _) hb
        have q1 := blocks3 w (.cells #[.slice a s.length c, .slice b d.length f] 26) (.cells #[.slice a' t.length c', .slice b' e.length f'] 26) (.cells #[.slice none 0 0, .slice none 0 0] 26)
        have X1 : Hid (Box w1 w.heap.size (.slice a s.length c) (.slice b d.length f) 26) := Box.keep q1.1 hb
        have Y1 : Hid (Box w1 (w.heap.size + 1) (.slice a' t.length c') (.slice b' e.length f') 26) := Box.keep q1.2.1 hb
        have R1 : Hid (Box w1 (w.heap.size + 1 + 1) (.slice none 0 0) (.slice none 0 0) 26) := Box.keep q1.2.2 hb
        clear hb q1
        rw [HO.out]
        have x0 := X1.out.c0
        have x1 := X1.out.c1
        have y0 := Y1.out.c0
        have y1 := Y1.out.c1
        have r0 := R1.out.c0
        have r1 := R1.out.c1
        have f0 : w1.frozen? ⟨w.heap.size + 1 + 1, 0, none⟩ = false := free_at R1.out 0
        have f1 : w1.frozen? ⟨w.heap.size + 1 + 1, 1, none⟩ = false := free_at R1.out 1
        go_wp2_with fail
        refine (arrOk_spec (K.out.keep HB1.out) HE.out).mono ?_
        rintro r w2 ⟨rfl, hb⟩
        have HB2 : Hid (Below w.heap.size w w2) := bTrans HB1.out hb
        have X2 : Hid (Box w2 w.heap.size (.slice a s.length c) (.slice b d.length f) 26) := X1.out.keep hb
        have Y2 : Hid (Box w2 (w.heap.size + 1) (.slice a' t.length c') (.slice b' e.length f') 26) := Y1.out.keep hb
        have R2 : Hid (Box w2 (w.heap.size + 1 + 1) (.slice none 0 0) (.slice none 0 0) 26) := R1.out.keep hb
        rw [HO'.out]
        clear hb
        clear x0 x1 y0 y1 r0 r1 f0 f1
        clear X1 Y1 R1 HB1
        have x0 := X2.out.c0
        have x1 := X2.out.c1
        have y0 := Y2.out.c0
        have y1 := Y2.out.c1
        have r0 := R2.out.c0
        have r1 := R2.out.c1
        have f0 : w2.frozen? ⟨w.heap.size + 1 + 1, 0, none⟩ = false := free_at R2.out 0
        have f1 : w2.frozen? ⟨w.heap.size + 1 + 1, 1, none⟩ = false := free_at R2.out 1
        have HR : Hid (((w2.setCell ⟨w.heap.size + 1 + 1, 0, none⟩ (.slice none 0 0)).setCell ⟨w.heap.size + 1 + 1, 1, none⟩ (.slice none 0 0)).heap[w.heap.size + 1 + 1]? = some (.cells #[.slice none 0 0, .slice none 0 0] 26 (0, 0))) := arr_stored R2.out
        go_wp2
        refine bodyPost_ret (results_arr_tmp Try.results25 _ _ (w.heap.size + 1 + 1) _ _ rfl HR.out) rfl ?_
        refine ⟨_, rfl, ?_, below_setCell (below_setCell HB2.out (by omega) _ _) (by omega) _ _⟩
        exact arr_zero _ _ _
    · have HO' : Hid (arrOk t e = false) := by show _ = _; simpa using ho'
      have ER : rotateR s d t e = (1, [], []) := by unfold rotateR; rw [show oneC s d t e = 1 from by unfold oneC; rw [if_neg (fun q => ho' q.2)]]; rfl
      rw [ER]
      clear ER ho ho' k1 k2 g1
      go_enter Try.func25, Try.ntmps25
      go_wp2_with fail
      refine (arrOk_spec (H.out.keep (bAlloc (bAlloc (bAlloc (Below.refl _ _) _) _) _)) HD.out).mono ?_
      rintro r w1 ⟨rfl, hb⟩
      have HB1 : Hid (Below w.heap.size w w1) := bTrans (bAlloc (bAlloc (bAlloc (Below.refl _ _) _) _) _) hb
      have q1 := blocks3 w (.cells #[.slice a s.length c, .slice b d.length f] 26) (.cells #[.slice a' t.length c', .slice b' e.length f'] 26) (.cells #[.slice none 0 0, .slice none 0 0] 26)
      have X1 : Hid (Box w1 w.heap.size (.slice a s.length c) (.slice b d.length f) 26) := Box.keep q1.1 hb
      have Y1 : Hid (Box w1 (w.heap.size + 1) (.slice a' t.length c') (.slice b' e.length f') 26) := Box.keep q1.2.1 hb
      have R1 : Hid (Box w1 (w.heap.size + 1 + 1) (.slice none 0 0) (.slice none 0 0) 26) := Box.keep q1.2.2 hb
      clear hb q1
      rw [HO.out]
      have x0 := X1.out.c0
      have x1 := X1.out.c1
      have y0 := Y1.out.c0
      have y1 := Y1.out.c1
      have r0 := R1.out.c0
      have r1 := R1.out.c1
      have f0 : w1.frozen? ⟨w.heap.size + 1 + 1, 0, none⟩ = false := free_at R1.out 0
      have f1 : w1.frozen? ⟨w.heap.size + 1 + 1, 1, none⟩ = false := free_at R1.out 1
      go_wp2_with fail
      refine (arrOk_spec (K.out.keep HB1.out) HE.out).mono ?_
      rintro r w2 ⟨rfl, hb⟩
      have HB2 : Hid (Below w.heap.size w w2) := bTrans HB1.out hb
      have X2 : Hid (Box w2 w.heap.size (.slice a s.length c) (.slice b d.length f) 26) := X1.out.keep hb
      have Y2 : Hid (Box w2 (w.heap.size + 1) (.slice a' t.length c') (.slice b' e.length f') 26) := Y1.out.keep hb
      have R2 : Hid (Box w2 (w.heap.size + 1 + 1) (.slice none 0 0) (.slice none 0 0) 26) := R1.out.keep hb
      rw [HO'.out]
      clear hb
      clear x0 x1 y0 y1 r0 r1 f0 f1
      clear X1 Y1 R1 HB1
      have x0 := X2.out.c0
      have x1 := X2.out.c1
      have y0 := Y2.out.c0
      have y1 := Y2.out.c1
      have r0 := R2.out.c0
      have r1 := R2.out.c1
      have f0 : w2.frozen? ⟨w.heap.size + 1 + 1, 0, none⟩ = false := free_at R2.out 0
      have f1 : w2.frozen? ⟨w.heap.size + 1 + 1, 1, none⟩ = false := free_at R2.out 1
      have HR : Hid (((w2.setCell ⟨w.heap.size + 1 + 1, 0, none⟩ (.slice none 0 0)).setCell ⟨w.heap.size + 1 + 1, 1, none⟩ (.slice none 0 0)).heap[w.heap.size + 1 + 1]? = some (.cells #[.slice none 0 0, .slice none 0 0] 26 (0, 0))) := arr_stored R2.out
      go_wp2
      refine bodyPost_ret (results_arr_tmp Try.results25 _ _ (w.heap.size + 1 + 1) _ _ rfl HR.out) rfl ?_
      refine ⟨_, rfl, ?_, below_setCell (below_setCell HB2.out (by omega) _ _) (by omega) _ _⟩
      exact arr_zero _ _ _
  · have HO : Hid (arrOk s d = false) := by show _ = _; simpa using ho
    have ER : rotateR s d t e = (1, [], []) := by unfold rotateR; rw [show oneC s d t e = 1 from by unfold oneC; rw [if_neg (fun q => ho q.1)]]; rfl
    rw [ER]
    clear ER ho k1 k2 g1
    go_enter Try.func25, Try.ntmps25
    go_wp2_with fail
    refine (arrOk_spec (H.out.keep (bAlloc (bAlloc (bAlloc (Below.refl _ _) _) _) _)) HD.out).mono ?_
    rintro r w1 ⟨rfl, hb⟩
    have HB1 : Hid (Below w.heap.size w w1) := bTrans (bAlloc (bAlloc (bAlloc (Below.refl _ _) _) _) _) hb
    have q1 := blocks3 w (.cells #[.slice a s.length c, .slice b d.length f] 26) (.cells #[.slice a' t.length c', .slice b' e.length f'] 26) (.cells #[.slice none 0 0, .slice none 0 0] 26)
    have X1 : Hid (Box w1 w.heap.size (.slice a s.length c) (.slice b d.length f) 26) := Box.keep q1.1 hb
    have Y1 : Hid (Box w1 (w.heap.size + 1) (.slice a' t.length c') (.slice b' e.length f') 26) := Box.keep q1.2.1 hb
    have R1 : Hid (Box w1 (w.heap.size + 1 + 1) (.slice none 0 0) (.slice none 0 0) 26) := Box.keep q1.2.2 hb
    clear hb q1
    rw [HO.out]
    have x0 := X1.out.c0
    have x1 := X1.out.c1
    have y0 := Y1.out.c0
    have y1 := Y1.out.c1
    have r0 := R1.out.c0
    have r1 := R1.out.c1
    have f0 : w1.frozen? ⟨w.heap.size + 1 + 1, 0, none⟩ = false := free_at R1.out 0
    have f1 : w1.frozen? ⟨w.heap.size + 1 + 1, 1, none⟩ = false := free_at R1.out 1
    have HR : Hid (((w1.setCell ⟨w.heap.size + 1 + 1, 0, none⟩ (.slice none 0 0)).setCell ⟨w.heap.size + 1 + 1, 1, none⟩ (.slice none 0 0)).heap[w.heap.size + 1 + 1]? = some (.cells #[.slice none 0 0, .slice none 0 0] 26 (0, 0))) := arr_stored R1.out
    go_wp2
    refine bodyPost_ret (results_arr_tmp Try.results25 _ _ (w.heap.size + 1 + 1) _ _ rfl HR.out) rfl ?_
    refine ⟨_, rfl, ?_, below_setCell (below_setCell HB1.out (by omega) _ _) (by omega) _ _⟩
    exact arr_zero _ _ _
end Go.Proofs.Ytlbmbjgbihljhad
