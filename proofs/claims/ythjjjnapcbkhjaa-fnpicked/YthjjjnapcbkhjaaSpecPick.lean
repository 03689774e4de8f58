/-
  Walks: the specification's Pick.
-/
import Derived.Test.YthjjjnapcbkhjaaSpecMake5
import Derived.Test.YthjjjnapcbkhjaaSpecMake3
import Derived.Test.YthjjjnapcbkhjaaJoinM
import Derived.Test.YthjjjnapcbkhjaaOutB
import Derived.Test.YthjjjnapcbkhjaaLookQ
import Derived.Deep.Cut
namespace Go.Proofs.Ythjjjnapcbkhjaa
open Go.RowKit
set_option linter.unusedVariables false
set_option linter.unusedSimpArgs false
theorem flatMap_ext {n : Nat} {f g : Nat → List Int} (h : ∀ i, i < n → f i = g i) : (List.range n).flatMap f = (List.range n).flatMap g := by
  induction n with
  | zero => rfl
  | succ n ih =>
    rw [List.range_succ, List.flatMap_append, List.flatMap_append, ih (fun i hi => h i (by omega))]
    simp [h n (by omega)]
set_option maxRecDepth 20000 in
set_option maxHeartbeats 40000000 in
/-- Pick. -/
theorem pickA_spec {s d t e : List Int} {w : World} {v u : Value} (h : ArrI w v s d) (k : ArrI w u t e) (hd : d.length ≤ 1048576) (he : e.length ≤ 1048576) :
    Calls Try.prog 19 #[v, u] w fun r w' => ∃ v', r = .returned (.tuple #[v', .int .i64 (pickR s d t e).1]) ∧ Arr w.heap.size w'.heap.size w' v' (pickR s d t e).2.1 (pickR s d t e).2.2 ∧ Below w.heap.size w w' := by
  have H : Hid (ArrI w v s d) := h
  have K : Hid (ArrI w u t e) := k
  obtain ⟨a, c, b, f, rfl, h1, h2, _, _⟩ := h
  obtain ⟨a', c', b', f', rfl, k1, k2, gc', _⟩ := k
  have H1 : Hid (Ints w a s) := h1
  have H2 : Hid (Ints w b d) := h2
  have K1 : Hid (Ints w a' t) := k1
  have HD : Hid (d.length ≤ 1048576) := hd
  have HE : Hid (e.length ≤ 1048576) := he
  have GC : Hid (t.length ≤ c') := gc'
  clear h1 h2 k1 k2 hd he gc'
  by_cases ho : arrOk s d = true
  · have HO : Hid (arrOk s d = true) := ho
    by_cases ho' : arrOk t e = true
    · have HO' : Hid (arrOk t e = true) := ho'
      have hs3 : s.length ≤ 3 := (sizeV_ok (arrOk_shape ho)).1
      have ht3 : t.length ≤ 3 := (sizeV_ok (arrOk_shape ho')).1
      have hd3 : d.length ≤ 300 := by have := arrOk_len ho; omega
      have EP := pickR_told ho ho'
      by_cases ht0 : t = []
      · have n1 : ((t.length : Int) == 0) = true := by simp [ht0]
        rw [if_pos (.inl ht0)] at EP
        rw [EP]
        clear EP ho ho' ht0
        go_enter Try.func19, Try.ntmps19
        go_wp2_with fail
        refine (arrOk_spec (H.out.keep (bAlloc (bAlloc (bAlloc (bAlloc (Below.refl _ _) _) _) _) _)) HD.out).mono ?_
        rintro r w1 ⟨rfl, hb⟩
        have HB1 : Hid (Below w.heap.size w w1) := bTrans (bAlloc (bAlloc (bAlloc (bAlloc (Below.refl _ _) _) _) _) _) hb
        have q1 := blocks4 w (.cells #[.slice a s.length c, .slice b d.length f] 26) (.cells #[.slice a' t.length c', .slice b' e.length f'] 26) (.cells #[.slice none 0 0, .slice none 0 0] 26) (.cells #[.slice none 0 0, .slice none 0 0] 26)
        have X1 : Hid (Box w1 w.heap.size (.slice a s.length c) (.slice b d.length f) 26) := Box.keep q1.1 hb
        have Y1 : Hid (Box w1 (w.heap.size + 1) (.slice a' t.length c') (.slice b' e.length f') 26) := Box.keep q1.2.1 hb
        have R1 : Hid (Box w1 (w.heap.size + 1 + 1) (.slice none 0 0) (.slice none 0 0) 26) := Box.keep q1.2.2.1 hb
        have Z1 : Hid (Box w1 (w.heap.size + 1 + 1 + 1) (.slice none 0 0) (.slice none 0 0) 26) := Box.keep q1.2.2.2 hb
        clear hb q1
        rw [HO.out]
        have x0 := X1.out.c0
        have x1 := X1.out.c1
        have y0 := Y1.out.c0
        have y1 := Y1.out.c1
        have r0 := R1.out.c0
        have r1 := R1.out.c1
        have f0 : w1.frozen? ⟨w.heap.size + 1 + 1, 0, none⟩ = false := free_at R1.out 0
        have f1 : w1.frozen? ⟨w.heap.size + 1 + 1, 1, none⟩ = false := free_at R1.out 1
        have z0 := Z1.out.c0
        have z1 := Z1.out.c1
        go_wp2_with fail
        refine (arrOk_spec (K.out.keep HB1.out) HE.out).mono ?_
        rintro r w2 ⟨rfl, hb⟩
        have HB2 : Hid (Below w.heap.size w w2) := bTrans HB1.out hb
        have X2 : Hid (Box w2 w.heap.size (.slice a s.length c) (.slice b d.length f) 26) := X1.out.keep hb
        have Y2 : Hid (Box w2 (w.heap.size + 1) (.slice a' t.length c') (.slice b' e.length f') 26) := Y1.out.keep hb
        have R2 : Hid (Box w2 (w.heap.size + 1 + 1) (.slice none 0 0) (.slice none 0 0) 26) := R1.out.keep hb
        have Z2 : Hid (Box w2 (w.heap.size + 1 + 1 + 1) (.slice none 0 0) (.slice none 0 0) 26) := Z1.out.keep hb
        rw [HO'.out]
        clear hb x0 x1 y0 y1 r0 r1 z0 z1 f0 f1 X1 Y1 R1 Z1 HB1
        have x0 := X2.out.c0
        have y0 := Y2.out.c0
        have r0 := R2.out.c0
        have r1 := R2.out.c1
        have f0 : w2.frozen? ⟨w.heap.size + 1 + 1, 0, none⟩ = false := free_at R2.out 0
        have f1 : w2.frozen? ⟨w.heap.size + 1 + 1, 1, none⟩ = false := free_at R2.out 1
        have z0 := Z2.out.c0
        have z1 := Z2.out.c1
        have HR : Hid (((w2.setCell ⟨w.heap.size + 1 + 1, 0, none⟩ (.slice none 0 0)).setCell ⟨w.heap.size + 1 + 1, 1, none⟩ (.slice none 0 0)).heap[w.heap.size + 1 + 1]? = some (.cells #[.slice none 0 0, .slice none 0 0] 26 (0, 0))) := arr_stored R2.out
        go_wp2
        refine bodyPost_ret (results_arr_tmp Try.results19 _ _ (w.heap.size + 1 + 1) _ _ rfl HR.out) rfl ?_
        exact ⟨_, rfl, arr_zero _ _ _, below_setCell (below_setCell HB2.out (by omega) _ _) (by omega) _ _⟩
      · have n1 : ((t.length : Int) == 0) = false := by simpa using ht0
        by_cases hr : 4 < s.length + t.length
        · rw [if_pos (.inr hr)] at EP
          rw [EP]
          have hri : (3 : Int) < (s.length : Int) + (t.length : Int) - 1 := by omega
          clear EP ho ho' ht0
          go_enter Try.func19, Try.ntmps19
          go_wp2_with fail
          refine (arrOk_spec (H.out.keep (bAlloc (bAlloc (bAlloc (bAlloc (Below.refl _ _) _) _) _) _)) HD.out).mono ?_
          rintro r w1 ⟨rfl, hb⟩
          have HB1 : Hid (Below w.heap.size w w1) := bTrans (bAlloc (bAlloc (bAlloc (bAlloc (Below.refl _ _) _) _) _) _) hb
          have q1 := blocks4 w (.cells #[.slice a s.length c, .slice b d.length f] 26) (.cells #[.slice a' t.length c', .slice b' e.length f'] 26) (.cells #[.slice none 0 0, .slice none 0 0] 26) (.cells #[.slice none 0 0, .slice none 0 0] 26)
          have X1 : Hid (Box w1 w.heap.size (.slice a s.length c) (.slice b d.length f) 26) := Box.keep q1.1 hb
          have Y1 : Hid (Box w1 (w.heap.size + 1) (.slice a' t.length c') (.slice b' e.length f') 26) := Box.keep q1.2.1 hb
          have R1 : Hid (Box w1 (w.heap.size + 1 + 1) (.slice none 0 0) (.slice none 0 0) 26) := Box.keep q1.2.2.1 hb
          have Z1 : Hid (Box w1 (w.heap.size + 1 + 1 + 1) (.slice none 0 0) (.slice none 0 0) 26) := Box.keep q1.2.2.2 hb
          clear hb q1
          rw [HO.out]
          have x0 := X1.out.c0
          have x1 := X1.out.c1
          have y0 := Y1.out.c0
          have y1 := Y1.out.c1
          have r0 := R1.out.c0
          have r1 := R1.out.c1
          have f0 : w1.frozen? ⟨w.heap.size + 1 + 1, 0, none⟩ = false := free_at R1.out 0
          have f1 : w1.frozen? ⟨w.heap.size + 1 + 1, 1, none⟩ = false := free_at R1.out 1
          have z0 := Z1.out.c0
          have z1 := Z1.out.c1
          go_wp2_with fail
          refine (arrOk_spec (K.out.keep HB1.out) HE.out).mono ?_
          rintro r w2 ⟨rfl, hb⟩
          have HB2 : Hid (Below w.heap.size w w2) := bTrans HB1.out hb
          have X2 : Hid (Box w2 w.heap.size (.slice a s.length c) (.slice b d.length f) 26) := X1.out.keep hb
          have Y2 : Hid (Box w2 (w.heap.size + 1) (.slice a' t.length c') (.slice b' e.length f') 26) := Y1.out.keep hb
          have R2 : Hid (Box w2 (w.heap.size + 1 + 1) (.slice none 0 0) (.slice none 0 0) 26) := R1.out.keep hb
          have Z2 : Hid (Box w2 (w.heap.size + 1 + 1 + 1) (.slice none 0 0) (.slice none 0 0) 26) := Z1.out.keep hb
          rw [HO'.out]
          clear hb x0 x1 y0 y1 r0 r1 z0 z1 f0 f1 X1 Y1 R1 Z1 HB1
          have x0 := X2.out.c0
          have y0 := Y2.out.c0
          have r0 := R2.out.c0
          have r1 := R2.out.c1
          have f0 : w2.frozen? ⟨w.heap.size + 1 + 1, 0, none⟩ = false := free_at R2.out 0
          have f1 : w2.frozen? ⟨w.heap.size + 1 + 1, 1, none⟩ = false := free_at R2.out 1
          have z0 := Z2.out.c0
          have z1 := Z2.out.c1
          have HR : Hid (((w2.setCell ⟨w.heap.size + 1 + 1, 0, none⟩ (.slice none 0 0)).setCell ⟨w.heap.size + 1 + 1, 1, none⟩ (.slice none 0 0)).heap[w.heap.size + 1 + 1]? = some (.cells #[.slice none 0 0, .slice none 0 0] 26 (0, 0))) := arr_stored R2.out
          go_wp2
          refine bodyPost_ret (results_arr_tmp Try.results19 _ _ (w.heap.size + 1 + 1) _ _ rfl HR.out) rfl ?_
          exact ⟨_, rfl, arr_zero _ _ _, below_setCell (below_setCell HB2.out (by omega) _ _) (by omega) _ _⟩
        · rw [if_neg (fun q => q.elim ht0 hr)] at EP
          have hri : ¬ (3 : Int) < (s.length : Int) + (t.length : Int) - 1 := by omega
          obtain ⟨x, hx⟩ : ∃ x, x = (pickR s d t e).1 := ⟨_, rfl⟩
          obtain ⟨S, hS⟩ : ∃ S, S = (pickR s d t e).2.1 := ⟨_, rfl⟩
          obtain ⟨D, hD⟩ : ∃ D, D = (pickR s d t e).2.2 := ⟨_, rfl⟩
          rw [← hx, ← hS, ← hD]
          rw [EP] at hx hS hD
          obtain ⟨e1, e2⟩ := rowsN_bd ho'
          obtain ⟨NN, hNN⟩ : ∃ N, N = rowsN t := ⟨_, rfl⟩
          rw [e2, ← hNN] at hx hS hD
          have hn : NN ≤ 300 := by omega
          obtain ⟨tl, ct, hra, hti⟩ := tail_cut_ne K1.out ht0 GC.out
          obtain ⟨bY, oY, rfl, hbY, cY⟩ := K1.out.at (k := 0) (List.length_pos_iff.2 ht0)
          rw [Nat.add_zero, e2, ← hNN] at cY
          have CY : Hid (∀ W, Below w.heap.size w W → W.cell? ⟨bY, oY, none⟩ = some (.int .i64 (NN : Int))) := fun W h => (h.cell (p := ⟨bY, oY, none⟩) hbY).trans cY
          have hp0 : (0 : Int) < (t.length : Int) := by have := List.length_pos_iff.2 ht0; omega
          obtain ⟨SH, hSH⟩ : ∃ SH, SH = s ++ t.drop 1 := ⟨_, rfl⟩
          have E5 : Hid (∀ j, j < d.length → noRow (NN : Int) (d.getD j 0) = true → x = 5 ∧ S = [] ∧ D = []) := by
            intro j hj hb
            have q : d.any (noRow (NN : Int)) = true := List.any_eq_true.2 ⟨d.getD j 0, by simp [hj], hb⟩
            rw [if_pos q] at hx hS hD
            exact ⟨hx, hS, hD⟩
          have hno : (∀ j, j < d.length → noRow (NN : Int) (d.getD j 0) = false) → ¬ d.any (noRow (NN : Int)) = true := by
            intro hall q
            obtain ⟨y, hy, hb⟩ := List.any_eq_true.1 q
            obtain ⟨j, hj, rfl⟩ := List.getElem_of_mem hy
            have := hall j hj
            rw [List.getD_eq_getElem?_getD, List.getElem?_eq_getElem hj] at this
            simp [hb] at this
          have E6 : Hid ((∀ j, j < d.length → noRow (NN : Int) (d.getD j 0) = false) → sizeV SH < 0 → x = 6 ∧ S = [] ∧ D = []) := by
            intro hall hz
            rw [if_neg (hno hall), if_pos (show sizeV (pickS s t) < 0 from by unfold pickS; rw [← hSH]; omega)] at hx hS hD
            exact ⟨hx, hS, hD⟩
          obtain ⟨F, hF⟩ : ∃ F, F = rowsF t e := ⟨_, rfl⟩
          have E0 : Hid ((∀ j, j < d.length → noRow (NN : Int) (d.getD j 0) = false) → 0 ≤ sizeV SH → x = 0 ∧ S = SH ∧ D = (List.range d.length).flatMap (fun i => F.getD (2 * rowNo (NN : Int) (d.getD i 0) + 1) [])) := by
            intro hall hz
            rw [if_neg (hno hall), if_neg (show ¬ sizeV (pickS s t) < 0 from by unfold pickS; rw [← hSH]; omega)] at hx hS hD
            refine ⟨hx, by rw [hS, hSH]; rfl, ?_⟩
            rw [hD]
            show pickD d t e = _
            unfold pickD
            rw [e2, ← hNN]
            refine flatMap_ext (fun i hi => ?_)
            rw [hF, rowsF_odd ho' ht0]
            have := (rowNo_bd (hall i hi)).1
            rw [← hNN]
            omega
          have HFL : Hid (F.length = 2 * NN) := by show _ = _; rw [hF, rowsF_length, if_pos ⟨ho', ht0⟩, hNN]; rfl
          have HFE : Hid (∀ j, (F.getD j []).length ≤ 300) := by intro j; rw [hF]; exact rowsF_each t e j
          have HL3 : Hid (∀ W, Below w.heap.size w W → Calls Try.prog 57 #[.agg #[.slice (some ⟨bY, oY, none⟩) t.length c', .slice b' e.length f']] W fun r w' => ∃ v', r = .returned v' ∧ Arrs W.heap.size w'.heap.size w' v' F ∧ Below W.heap.size W w') := fun W hb => by rw [hF]; exact l3rows_ne (K.out.keep hb) ho' ht0
          obtain ⟨t', ht'⟩ : ∃ t', t' = t.drop 1 := ⟨_, rfl⟩
          rw [← ht'] at hra hti hSH
          have HTI : Hid (IntsI w (.slice tl t'.length ct) t') := hti
          have ht2 : t'.length ≤ 3 := by rw [ht']; simp; omega
          clear hx hS hD EP ho ho' hno hF e1 e2 hNN cY hti ht' ht0
          go_enter Try.func19, Try.ntmps19
          go_wp2_with fail
          refine (arrOk_spec (H.out.keep (bAlloc (bAlloc (bAlloc (bAlloc (Below.refl _ _) _) _) _) _)) HD.out).mono ?_
          rintro r w1 ⟨rfl, hb⟩
          have HB1 : Hid (Below w.heap.size w w1) := bTrans (bAlloc (bAlloc (bAlloc (bAlloc (Below.refl _ _) _) _) _) _) hb
          have q1 := blocks4 w (.cells #[.slice a s.length c, .slice b d.length f] 26) (.cells #[.slice (some ⟨bY, oY, none⟩) t.length c', .slice b' e.length f'] 26) (.cells #[.slice none 0 0, .slice none 0 0] 26) (.cells #[.slice none 0 0, .slice none 0 0] 26)
          have X1 : Hid (Box w1 w.heap.size (.slice a s.length c) (.slice b d.length f) 26) := Box.keep q1.1 hb
          have Y1 : Hid (Box w1 (w.heap.size + 1) (.slice (some ⟨bY, oY, none⟩) t.length c') (.slice b' e.length f') 26) := Box.keep q1.2.1 hb
          have R1 : Hid (Box w1 (w.heap.size + 1 + 1) (.slice none 0 0) (.slice none 0 0) 26) := Box.keep q1.2.2.1 hb
          have Z1 : Hid (Box w1 (w.heap.size + 1 + 1 + 1) (.slice none 0 0) (.slice none 0 0) 26) := Box.keep q1.2.2.2 hb
          clear hb q1
          rw [HO.out]
          have x0 := X1.out.c0
          have x1 := X1.out.c1
          have y0 := Y1.out.c0
          have y1 := Y1.out.c1
          have r0 := R1.out.c0
          have r1 := R1.out.c1
          have f0 : w1.frozen? ⟨w.heap.size + 1 + 1, 0, none⟩ = false := free_at R1.out 0
          have f1 : w1.frozen? ⟨w.heap.size + 1 + 1, 1, none⟩ = false := free_at R1.out 1
          have z0 := Z1.out.c0
          have z1 := Z1.out.c1
          go_wp2_with fail
          refine (arrOk_spec (K.out.keep HB1.out) HE.out).mono ?_
          rintro r w2 ⟨rfl, hb⟩
          have HB2 : Hid (Below w.heap.size w w2) := bTrans HB1.out hb
          have X2 : Hid (Box w2 w.heap.size (.slice a s.length c) (.slice b d.length f) 26) := X1.out.keep hb
          have Y2 : Hid (Box w2 (w.heap.size + 1) (.slice (some ⟨bY, oY, none⟩) t.length c') (.slice b' e.length f') 26) := Y1.out.keep hb
          have R2 : Hid (Box w2 (w.heap.size + 1 + 1) (.slice none 0 0) (.slice none 0 0) 26) := R1.out.keep hb
          have Z2 : Hid (Box w2 (w.heap.size + 1 + 1 + 1) (.slice none 0 0) (.slice none 0 0) 26) := Z1.out.keep hb
          rw [HO'.out]
          clear hb x0 x1 y0 y1 r0 r1 z0 z1 f0 f1 X1 Y1 R1 Z1 HB1
          have cy := CY.out _ HB2.out
          have x0 := X2.out.c0
          have x1 := X2.out.c1
          have y0 := Y2.out.c0
          go_wp2
          go_loopw [8] (fun i w' => ∃ k : Nat, k ≤ d.length ∧ i = .int .i64 (k : Int) ∧ (∀ j, j < k → noRow (NN : Int) (d.getD j 0) = false) ∧ w' = w2) (fun i _ => d.length - (intOf i).toNat)
          case atStart => exact ⟨0, by omega, rfl, fun j hj => by omega, rfl⟩
          case round =>
            obtain ⟨k, hk, rfl, hn', hw⟩ := hrel
            have HN : Hid (∀ j, j < k → noRow (NN : Int) (d.getD j 0) = false) := hn'
            clear hn'
            have hw2 := hw.symm
            clear hw
            subst hw2
            by_cases hlt : (k : Int) < (d.length : Int)
            · have L : k < d.length := by omega
              obtain ⟨b1, o1, rfl, hb1, c1⟩ := H2.out.at L
              have c1' : w2.cell? ⟨b1, o1 + k, none⟩ = some (.int .i64 (d.getD k 0)) := (HB2.out.cell (p := ⟨b1, o1 + k, none⟩) hb1).trans c1
              by_cases hb : noRow (NN : Int) (d.getD k 0) = true
              · obtain ⟨rfl, rfl, rfl⟩ := E5.out k L hb
                have hb' : d.getD k 0 < -(NN : Int) ∨ (NN : Int) ≤ d.getD k 0 := by unfold noRow at hb; simpa using hb
                generalize d.getD k 0 = y at *
                clear hb c1 E5 E6 E0 HL3
                rcases hb' with hb' | hb'
                · have hq1 : decide (-(NN : Int) ≤ y) = false := by simpa using hb'
                  clear hb'
                  have r0 := R2.out.c0
                  have r1 := R2.out.c1
                  have f0 : w2.frozen? ⟨w.heap.size + 1 + 1, 0, none⟩ = false := free_at R2.out 0
                  have f1 : w2.frozen? ⟨w.heap.size + 1 + 1, 1, none⟩ = false := free_at R2.out 1
                  have z0 := Z2.out.c0
                  have z1 := Z2.out.c1
                  have HR : Hid (((w2.setCell ⟨w.heap.size + 1 + 1, 0, none⟩ (.slice none 0 0)).setCell ⟨w.heap.size + 1 + 1, 1, none⟩ (.slice none 0 0)).heap[w.heap.size + 1 + 1]? = some (.cells #[.slice none 0 0, .slice none 0 0] 26 (0, 0))) := arr_stored R2.out
                  go_wp2_with (go_at_call 56; refine (in_spec _ _ _ _).mono ?_; rintro r wz ⟨rfl, rfl⟩)
                  refine bodyPost_ret (results_arr_tmp Try.results19 _ _ (w.heap.size + 1 + 1) _ _ rfl HR.out) rfl ?_
                  exact ⟨_, rfl, arr_zero _ _ _, below_setCell (below_setCell HB2.out (by omega) _ _) (by omega) _ _⟩
                · have hq1 : decide (y ≤ (NN : Int) - 1) = false := by simp; omega
                  clear hb'
                  have r0 := R2.out.c0
                  have r1 := R2.out.c1
                  have f0 : w2.frozen? ⟨w.heap.size + 1 + 1, 0, none⟩ = false := free_at R2.out 0
                  have f1 : w2.frozen? ⟨w.heap.size + 1 + 1, 1, none⟩ = false := free_at R2.out 1
                  have z0 := Z2.out.c0
                  have z1 := Z2.out.c1
                  have HR : Hid (((w2.setCell ⟨w.heap.size + 1 + 1, 0, none⟩ (.slice none 0 0)).setCell ⟨w.heap.size + 1 + 1, 1, none⟩ (.slice none 0 0)).heap[w.heap.size + 1 + 1]? = some (.cells #[.slice none 0 0, .slice none 0 0] 26 (0, 0))) := arr_stored R2.out
                  go_wp2_with (go_at_call 56; refine (in_spec _ _ _ _).mono ?_; rintro r wz ⟨rfl, rfl⟩)
                  refine bodyPost_ret (results_arr_tmp Try.results19 _ _ (w.heap.size + 1 + 1) _ _ rfl HR.out) rfl ?_
                  exact ⟨_, rfl, arr_zero _ _ _, below_setCell (below_setCell HB2.out (by omega) _ _) (by omega) _ _⟩
              · have hb' := noRow_false.1 (by simpa using hb : noRow (NN : Int) (d.getD k 0) = false)
                have HN2 : Hid (∀ j, j < k + 1 → noRow (NN : Int) (d.getD j 0) = false) := fun j hj => by
                  by_cases e : j = k
                  · rw [e]; simpa using hb
                  · exact HN.out j (by omega)
                generalize d.getD k 0 = y at *
                clear hb c1
                have hq1 : decide (-(NN : Int) ≤ y) = true := by simp; omega
                have hq2 : decide (y ≤ (NN : Int) - 1) = true := by simp; omega
                clear hb'
                go_wp2_with (go_at_call 56; refine (in_spec _ _ _ _).mono ?_; rintro r w' ⟨rfl, rfl⟩)
                go_roundw
                case rel => exact ⟨k + 1, by omega, by go_num, HN2.out, by first | rfl | trivial⟩
                case measure => simp [intOf]; omega
            · obtain rfl : k = d.length := by omega
              clear cy x0 x1 y0
              have EALL : Hid (∀ j, j < d.length → noRow (NN : Int) (d.getD j 0) = false) := HN.out
              have IS2 : Hid (Ints w2 a s) := H1.out.keep HB2.out
              have IT2 : Hid (Ints w2 tl t') := by
                obtain ⟨q1, q2, q3, q4, q5⟩ := HTI.out
                cases q3
                exact q5.keep HB2.out
              have LST : Hid (s.length + t'.length ≤ 1048576) := by show _ ≤ _; omega
              have x0 := X2.out.c0
              have x1 := X2.out.c1
              have y0 := Y2.out.c0
              obtain ⟨aA, cA, wA, aB, cB, wB, aC, cC, wC, aD, cD, wD, aE, cE, wE, aF, cF, wF, aG, cG, wG, ⟨rA, rB, rC, rD, rE, rF, rG⟩, ⟨bA, bB, bC, bD, bE, bF, bG⟩, ⟨nD, nE, nF, nG⟩, ⟨xE, xB, xF, xC, xG⟩⟩ := shape_ways (w := w2) IS2.out IT2.out LST.out c ct (.cells #[] 3) (.cells #[.slice none 0 0, .slice none 0 0] 26) rfl rfl
              have RA : Hid (_ = _) := rA
              have BA : Hid (Below w2.heap.size w2 wA) := bA
              have XA : Hid (Box wA w.heap.size (.slice a s.length c) (.slice b d.length f) 26) := X2.out.keep bA
              have YA : Hid (Box wA (w.heap.size + 1) (.slice (some ⟨bY, oY, none⟩) t.length c') (.slice b' e.length f') 26) := Y2.out.keep bA
              have RB : Hid (_ = _) := rB
              have BB : Hid (Below w2.heap.size w2 wB) := bB
              have XB : Hid (Box wB w.heap.size (.slice a s.length c) (.slice b d.length f) 26) := X2.out.keep bB
              have YB : Hid (Box wB (w.heap.size + 1) (.slice (some ⟨bY, oY, none⟩) t.length c') (.slice b' e.length f') 26) := Y2.out.keep bB
              have RC : Hid (_ = _) := rC
              have BC : Hid (Below w2.heap.size w2 wC) := bC
              have XC : Hid (Box wC w.heap.size (.slice a s.length c) (.slice b d.length f) 26) := X2.out.keep bC
              have YC : Hid (Box wC (w.heap.size + 1) (.slice (some ⟨bY, oY, none⟩) t.length c') (.slice b' e.length f') 26) := Y2.out.keep bC
              have RD : Hid (_ = _) := rD
              have BD : Hid (Below w2.heap.size w2 wD) := bD
              have XD : Hid (Box wD w.heap.size (.slice a s.length c) (.slice b d.length f) 26) := X2.out.keep bD
              have YD : Hid (Box wD (w.heap.size + 1) (.slice (some ⟨bY, oY, none⟩) t.length c') (.slice b' e.length f') 26) := Y2.out.keep bD
              have RE : Hid (_ = _) := rE
              have BE : Hid (Below w2.heap.size w2 wE) := bE
              have XE : Hid (Box wE w.heap.size (.slice a s.length c) (.slice b d.length f) 26) := X2.out.keep bE
              have YE : Hid (Box wE (w.heap.size + 1) (.slice (some ⟨bY, oY, none⟩) t.length c') (.slice b' e.length f') 26) := Y2.out.keep bE
              have RF : Hid (_ = _) := rF
              have BF : Hid (Below w2.heap.size w2 wF) := bF
              have XF : Hid (Box wF w.heap.size (.slice a s.length c) (.slice b d.length f) 26) := X2.out.keep bF
              have YF : Hid (Box wF (w.heap.size + 1) (.slice (some ⟨bY, oY, none⟩) t.length c') (.slice b' e.length f') 26) := Y2.out.keep bF
              have RG : Hid (_ = _) := rG
              have BG : Hid (Below w2.heap.size w2 wG) := bG
              have XG : Hid (Box wG w.heap.size (.slice a s.length c) (.slice b d.length f) 26) := X2.out.keep bG
              have YG : Hid (Box wG (w.heap.size + 1) (.slice (some ⟨bY, oY, none⟩) t.length c') (.slice b' e.length f') 26) := Y2.out.keep bG
              have ND : Hid (NewInts w2.heap.size wD (.slice aD SH.length cD) SH) := (by show NewInts _ _ _ _; rw [hSH]; exact nD)
              have NE : Hid (NewInts w2.heap.size wE (.slice aE SH.length cE) SH) := (by show NewInts _ _ _ _; rw [hSH]; exact nE)
              have NF : Hid (NewInts w2.heap.size wF (.slice aF SH.length cF) SH) := (by show NewInts _ _ _ _; rw [hSH]; exact nF)
              have NG : Hid (NewInts w2.heap.size wG (.slice aG SH.length cG) SH) := (by show NewInts _ _ _ _; rw [hSH]; exact nG)
              have ZE : Hid (Box wE wA.heap.size (.slice none 0 0) (.slice none 0 0) 26) := xE
              have ZF : Hid (Box wF w2.heap.size (.slice none 0 0) (.slice none 0 0) 26) := xF
              have ZG : Hid (Box wG (w2.heap.size + 1) (.slice none 0 0) (.slice none 0 0) 26) := xG
              have ZEc0 := ZE.out.c0
              have ZEc1 := ZE.out.c1
              have ZEf0 : wE.frozen? ⟨wA.heap.size, 0, none⟩ = false := free_at ZE.out 0
              have ZEf1 : wE.frozen? ⟨wA.heap.size, 1, none⟩ = false := free_at ZE.out 1
              have ZFc0 := ZF.out.c0
              have ZFc1 := ZF.out.c1
              have ZFf0 : wF.frozen? ⟨w2.heap.size, 0, none⟩ = false := free_at ZF.out 0
              have ZFf1 : wF.frozen? ⟨w2.heap.size, 1, none⟩ = false := free_at ZF.out 1
              have ZGc0 := ZG.out.c0
              have ZGc1 := ZG.out.c1
              have ZGf0 : wG.frozen? ⟨w2.heap.size + 1, 0, none⟩ = false := free_at ZG.out 0
              have ZGf1 : wG.frozen? ⟨w2.heap.size + 1, 1, none⟩ = false := free_at ZG.out 1
              have sA : w2.heap.size ≤ wA.heap.size := bA.size
              have ESH : Hid (SH.length = s.length + t'.length) := by show _ = _; rw [hSH, List.length_append]
              clear rA rB rC rD rE rF rG bA bB bC bD bE bF bG nD nE nF nG xE xB xF xC xG
              go_wp2_with fail
              go_cut [9] from 12 (fun p w' => ∃ (g : Nat) (a9 : Option Addr) (c9 : Nat), p = .pointer (some ⟨g, 0, none⟩) ∧ Box w' g (.slice a9 SH.length c9) (.slice none 0 0) 26 ∧ NewInts w2.heap.size w' (.slice a9 SH.length c9) SH ∧ Below w2.heap.size w2 w' ∧ w2.heap.size ≤ g)
              case first =>
                have L2 := Z2.out.lt
                go_region_held3 (fun w' => w'.cell? ⟨w.heap.size, 0, none⟩ = some (.slice a s.length c) ∧ w'.cell? ⟨w.heap.size + 1, 0, none⟩ = some (.slice (some ⟨bY, oY, none⟩) t.length c'))
                  ((refine ⟨(show Box _ w.heap.size (.slice a s.length c) (.slice b d.length f) 26 from ?_).c0, (show Box _ (w.heap.size + 1) (.slice (some ⟨bY, oY, none⟩) t.length c') (.slice b' e.length f') 26 from ?_).c0⟩ <;> (repeat first | with_reducible exact XA.out | with_reducible exact YA.out | with_reducible exact XB.out | with_reducible exact YB.out | with_reducible exact XC.out | with_reducible exact YC.out | with_reducible exact XD.out | with_reducible exact YD.out | with_reducible exact XE.out | with_reducible exact YE.out | with_reducible exact XF.out | with_reducible exact YF.out | with_reducible exact XG.out | with_reducible exact YG.out | with_reducible exact X2.out | with_reducible exact Y2.out | with_reducible refine Box.keep ?_ ((Below.refl _ _).drew) | with_reducible refine Box.keep ?_ (bAlloc (Below.refl _ _) _) | with_reducible refine Box.win ?_ (win_setCell _ _ _ _) (.inl (by (try simp); omega)))))
                  (first
                    | ((with_reducible show (if Region.wanted _ _ = true then Oper.wp Try.prog _ _ (World.drew (World.alloc w2 (.cells #[] 3))) _ _ else _)); refine step_append_ty (by rfl) (.tmp 63) (.tmp 65) 24 24 (by rfl) _ _ _ (by rfl) (by rfl) RA.out ?_)
                    | ((with_reducible show (if Region.wanted _ _ = true then Oper.wp Try.prog _ _ (World.drew (World.alloc (World.alloc w2 (.cells #[.slice none 0 0, .slice none 0 0] 26)) (.cells #[] 3))) _ _ else _)); refine step_append_ty (by rfl) (.tmp 63) (.tmp 65) 24 24 (by rfl) _ _ _ (by rfl) (by rfl) RB.out ?_)
                    | ((with_reducible show (if Region.wanted _ _ = true then Oper.wp Try.prog _ _ (World.drew (World.alloc (World.alloc w2 (.cells #[] 3)) (.cells #[.slice none 0 0, .slice none 0 0] 26))) _ _ else _)); refine step_append_ty (by rfl) (.tmp 63) (.tmp 65) 24 24 (by rfl) _ _ _ (by rfl) (by rfl) RC.out ?_)
                    | ((with_reducible show (if Region.wanted _ _ = true then Oper.wp Try.prog _ _ wA _ _ else _)); refine step_append_ty (by rfl) (.tmp 66) (.tmp 69) 24 24 (by rfl) _ _ _ (by rfl) (by rfl) RD.out ?_)
                    | ((with_reducible show (if Region.wanted _ _ = true then Oper.wp Try.prog _ _ (World.alloc wA (.cells #[.slice none 0 0, .slice none 0 0] 26)) _ _ else _)); refine step_append_ty (by rfl) (.tmp 66) (.tmp 69) 24 24 (by rfl) _ _ _ (by rfl) (by rfl) RE.out ?_)
                    | ((with_reducible show (if Region.wanted _ _ = true then Oper.wp Try.prog _ _ wB _ _ else _)); refine step_append_ty (by rfl) (.tmp 66) (.tmp 69) 24 24 (by rfl) _ _ _ (by rfl) (by rfl) RF.out ?_)
                    | ((with_reducible show (if Region.wanted _ _ = true then Oper.wp Try.prog _ _ wC _ _ else _)); refine step_append_ty (by rfl) (.tmp 66) (.tmp 69) 24 24 (by rfl) _ _ _ (by rfl) (by rfl) RG.out ?_))
                all_goals
                  go_wp2_with fail
                  go_meet
                  case rel =>
                    first
                      | (refine ⟨wA.heap.size, aE, cE, by with_reducible rfl, ?_⟩; rw [ESH.out]; have qq := shape_put BE.out (by omega) ZE.out NE.out; rw [ESH.out] at qq; with_reducible exact ⟨qq.1, qq.2.1, qq.2.2, by omega⟩)
                      | (refine ⟨w2.heap.size, aF, cF, by with_reducible rfl, ?_⟩; rw [ESH.out]; have qq := shape_put BF.out (by omega) ZF.out NF.out; rw [ESH.out] at qq; with_reducible exact ⟨qq.1, qq.2.1, qq.2.2, by omega⟩)
                      | (refine ⟨(w2.heap.size + 1), aG, cG, by with_reducible rfl, ?_⟩; rw [ESH.out]; have qq := shape_put BG.out (by omega) ZG.out NG.out; rw [ESH.out] at qq; with_reducible exact ⟨qq.1, qq.2.1, qq.2.2, by omega⟩)
                      | (refine ⟨wD.heap.size, aD, cD, by with_reducible rfl, ?_⟩; rw [ESH.out]; have qq := shape_new BD.out ND.out; rw [ESH.out] at qq; with_reducible exact ⟨qq.1, qq.2.1, qq.2.2, BD.out.size⟩)
              obtain ⟨w6, hwc⟩ : ∃ x, x = wc := ⟨_, rfl⟩
              subst hwc
              obtain ⟨g, a9, c9, rfl, b9, n9, hb9, hg9⟩ := hcut
              have G6 : Hid (Box w6 g (.slice a9 SH.length c9) (.slice none 0 0) 26) := b9
              have N6 : Hid (NewInts w2.heap.size w6 (.slice a9 SH.length c9) SH) := n9
              have HB6 : Hid (Below w2.heap.size w2 w6) := hb9
              have BW6 : Hid (Below w.heap.size w w6) := bTrans HB2.out hb9
              have GG : Hid (w2.heap.size ≤ g) := hg9
              have X6 : Hid (Box w6 w.heap.size (.slice a s.length c) (.slice b d.length f) 26) := X2.out.keep hb9
              have Y6 : Hid (Box w6 (w.heap.size + 1) (.slice (some ⟨bY, oY, none⟩) t.length c') (.slice b' e.length f') 26) := Y2.out.keep hb9
              have R6 : Hid (Box w6 (w.heap.size + 1 + 1) (.slice none 0 0) (.slice none 0 0) 26) := R2.out.keep hb9
              have Z6 : Hid (Box w6 (w.heap.size + 1 + 1 + 1) (.slice none 0 0) (.slice none 0 0) 26) := Z2.out.keep hb9
              have L2 : Hid (w.heap.size + 1 + 1 + 1 < w2.heap.size) := Z2.out.lt
              clear b9 n9 hb9 hg9 x0 x1 y0 X2 Y2 R2 Z2 IS2 IT2 HTI hra
              clear RA BA XA YA RB BB XB YB RC BC XC YC RD BD XD YD RE BE XE YE RF BF XF YF RG BG XG YG ND NE NF NG ZE ZF ZG ZEc0 ZEc1 ZEf0 ZEf1 ZFc0 ZFc1 ZFf0 ZFf1 ZGc0 ZGc1 ZGf0 ZGf1 sA hSH ESH LST aA cA wA aB cB wB aC cC wC aD cD wD aE cE wE aF cF wF aG cG wG
              have y0 := Y6.out.c0
              have y1 := Y6.out.c1
              go_wp2_with fail
              refine (HL3.out _ BW6.out).mono ?_
              rintro r w7 ⟨v7, rfl, ha, hb⟩
              have AR : Hid (Arrs w6.heap.size w7.heap.size w7 v7 F) := ha
              obtain ⟨ra, rn, rc, rfl, e5, _⟩ := ha.arrsI
              obtain rfl : rn = NN := by have := HFL.out; omega
              have BW7 : Hid (Below w.heap.size w w7) := bTrans BW6.out hb
              have G7 : Hid (Box w7 g (.slice a9 SH.length c9) (.slice none 0 0) 26) := G6.out.keep hb
              have N7 : Hid (NewInts w2.heap.size w7 (.slice a9 SH.length c9) SH) := N6.out.keep hb
              have G6L : Hid (g < w6.heap.size) := G6.out.lt
              have S67 : Hid (w2.heap.size ≤ w7.heap.size) := Nat.le_trans HB6.out.size hb.size
              have X7 : Hid (Box w7 w.heap.size (.slice a s.length c) (.slice b d.length f) 26) := X6.out.keep hb
              have R7 : Hid (Box w7 (w.heap.size + 1 + 1) (.slice none 0 0) (.slice none 0 0) 26) := R6.out.keep hb
              have Z7 : Hid (Box w7 (w.heap.size + 1 + 1 + 1) (.slice none 0 0) (.slice none 0 0) 26) := Z6.out.keep hb
              have IH7 : Hid (Ints w7 a9 SH) := by
                obtain ⟨q1, q2, q3, q4⟩ := N7.out.ints
                cases q3
                exact q4
              clear ha hb y0 y1 e5 HL3 HFL X6 Y6 R6 Z6 G6 N6
              have g0 := G7.out.c0
              by_cases hz : 0 ≤ sizeV SH
              · obtain ⟨rfl, rfl, rfl⟩ := E0.out EALL.out hz
                have hzb : decide (0 ≤ sizeV S) = true := by simpa using hz
                clear hz E5 E6 E0
                have LT : Hid (g < w7.heap.size) := G7.out.lt
                go_wp2_with (go_at_call 58; refine (ok_spec _ IH7.out).mono ?_; rintro r wz ⟨rfl, rfl⟩)
                have OS : Hid (OutB g wz wz (.slice a9 S.length c9) none 0 0 ((List.range 0).flatMap (fun i => F.getD (2 * rowNo (rn : Int) (d.getD i 0) + 1) []))) := outB_new G7.out
                clear g0
                go_loopw [11] (fun i w' => ∃ (k q : Nat) (ad : Option Addr) (cd : Nat), k ≤ d.length ∧ i = .int .i64 (k : Int) ∧ OutB g wz w' (.slice a9 S.length c9) ad cd q ((List.range k).flatMap (fun i => F.getD (2 * rowNo (rn : Int) (d.getD i 0) + 1) []))) (fun i _ => d.length - (intOf i).toNat)
                case atStart => exact ⟨0, _, _, _, by omega, rfl, OS.out⟩
                case round =>
                  obtain ⟨k, q, ad, cd, hk, rfl, hO⟩ := hrel
                  have OK : Hid (OutB g wz wr (.slice a9 S.length c9) ad cd q ((List.range k).flatMap (fun i => F.getD (2 * rowNo (rn : Int) (d.getD i 0) + 1) []))) := hO
                  clear hO OS
                  obtain ⟨m0, m1, m2, m3⟩ := OK.out.cells
                  have gl : w.heap.size + 1 + 1 + 1 < g := by have := L2.out; have := GG.out; omega
                  have XR : Hid (Box wr w.heap.size (.slice a s.length c) (.slice b d.length f) 26) := X7.out.win OK.out.win (.inl (by omega))
                  have BWr : Hid (Below w.heap.size w wr) := BW7.out.trans (OK.out.win.below (A := w.heap.size) (by omega) BW7.out.size)
                  have x1 := XR.out.c1
                  by_cases hlt : (k : Int) < (d.length : Int)
                  · have L : k < d.length := by omega
                    obtain ⟨b1, o1, rfl, hb1, c1⟩ := H2.out.at L
                    have c1' : wr.cell? ⟨b1, o1 + k, none⟩ = some (.int .i64 (d.getD k 0)) := (BWr.out.cell (p := ⟨b1, o1 + k, none⟩) hb1).trans c1
                    have hy := EALL.out k L
                    obtain ⟨M, hM⟩ : ∃ M, M = rowNo (rn : Int) (d.getD k 0) := ⟨_, rfl⟩
                    have hM1 := (rowNo_bd hy).1
                    have hM2 := rowNo_tmod hy
                    have hM3 := noRow_false.1 hy
                    rw [← hM] at hM1 hM2
                    have ES : Hid ((List.range (k + 1)).flatMap (fun i => F.getD (2 * rowNo (rn : Int) (d.getD i 0) + 1) []) = (List.range k).flatMap (fun i => F.getD (2 * rowNo (rn : Int) (d.getD i 0) + 1) []) ++ F.getD (2 * M + 1) []) := by
                      show _ = _
                      rw [List.range_succ, List.flatMap_append, hM]; simp
                    have QB : Hid (q ≤ 90000) := by
                      show _ ≤ _
                      have h1 := OK.out.len
                      have h2 := flat_bound k 300 (fun i => F.getD (2 * rowNo (rn : Int) (d.getD i 0) + 1) []) (fun i => HFE.out _)
                      rw [h1] at h2
                      have h3 : k * 300 ≤ 300 * 300 := Nat.mul_le_mul_right _ (by omega)
                      omega
                    have FB := HFE.out (2 * M + 1)
                    obtain ⟨o, off, sx, sy, rfl, hoo, p0, p1, i0, i1⟩ := (AR.out.win OK.out.win (.inr G6L.out)).arrsI.at (k := M) (by omega)
                    obtain ⟨ax, cx, rfl, gix, ix⟩ := i0
                    obtain ⟨ay, cy, rfl, giy, iy⟩ := i1
                    obtain ⟨a8, c8, w8, hr8, hb8, ho8⟩ := (OK.out.keep ((Below.refl wr.heap.size wr).drew)).growL (iy.keep ((Below.refl wr.heap.size wr).drew)) (by have := QB.out; omega) cy
                    rw [← ES.out] at ho8
                    clear ix gix iy giy FB
                    generalize (F.getD (2 * M) []).length = lx at *
                    generalize (F.getD (2 * M + 1) []).length = ly at *
                    have R8 : Hid ((Builtin.append_ #[24, 24] 24 #[.slice ad q cd, .slice ay ly cy]).run Try.prog wr.drew = .ok (.slice a8 (q + ly) c8) w8) := hr8
                    have O8 : Hid (OutB g wz (w8.setCell ⟨g, 1, none⟩ (.slice a8 (q + ly) c8)) (.slice a9 S.length c9) a8 c8 (q + ly) ((List.range (k + 1)).flatMap (fun i => F.getD (2 * rowNo (rn : Int) (d.getD i 0) + 1) []))) := ho8
                    have n8 := hb8.c1
                    have n9 : w8.frozen? ⟨g, 1, none⟩ = false := free_at hb8 1
                    have hMi : (M : Int) < (rn : Int) := by omega
                    have hnz : ¬ rn = 0 := by omega
                    generalize d.getD k 0 = y at *
                    have hwr : IntKind.i64.wrap (y + (rn : Int)) = y + (rn : Int) := wrapI (by omega) (by omega)
                    clear hM3
                    clear hr8 hb8 ho8 hy hM c1 ES
                    go_wp2_with fail
                    go_region_law (refine step_append_ty (by rfl) (.tmp 87) (.tmp 100) 24 24 (by rfl) _ _ _ (by rfl) (by rfl) R8.out ?_)
                    all_goals
                      go_wp2
                      go_roundw
                      case rel => exact ⟨k + 1, _, _, _, by omega, by go_num, O8.out⟩
                      case measure => simp [intOf]; omega
                  · obtain rfl : k = d.length := by omega
                    have HA : Hid (Arr w2.heap.size wr.heap.size wr (.agg #[.slice a9 S.length c9, .slice ad q cd]) S ((List.range d.length).flatMap (fun i => F.getD (2 * rowNo (rn : Int) (d.getD i 0) + 1) []))) := OK.out.arrN (E := wz.heap.size) N7.out.piece (Nat.le_refl _) S67.out (notAt_own (newInts_notBox N7.out G7.out))
                    have RR : Hid (Box wr (w.heap.size + 1 + 1) (.slice none 0 0) (.slice none 0 0) 26) := R7.out.win OK.out.win (.inl (by omega))
                    have r0 := RR.out.c0
                    have r1 := RR.out.c1
                    have f0 : wr.frozen? ⟨w.heap.size + 1 + 1, 0, none⟩ = false := free_at RR.out 0
                    have f1 : wr.frozen? ⟨w.heap.size + 1 + 1, 1, none⟩ = false := free_at RR.out 1
                    have HR : Hid (((wr.setCell ⟨w.heap.size + 1 + 1, 0, none⟩ (.slice a9 S.length c9)).setCell ⟨w.heap.size + 1 + 1, 1, none⟩ (.slice ad q cd)).heap[w.heap.size + 1 + 1]? = some (.cells #[.slice a9 S.length c9, .slice ad q cd] 26 (0, 0))) := arr_stored RR.out
                    go_wp2
                    refine bodyPost_ret (results_arr_tmp Try.results19 _ _ (w.heap.size + 1 + 1) _ _ rfl HR.out) rfl ?_
                    refine ⟨_, rfl, ?_, below_setCell (below_setCell BWr.out (by omega) _ _) (by omega) _ _⟩
                    have L := L2.out
                    exact ((HA.out.setCell (by omega) _ _).setCell (by omega) _ _).mono HB2.out.size (by simp only [size_setCell]; omega)
              · obtain ⟨rfl, rfl, rfl⟩ := E6.out EALL.out (by omega)
                have hzb : decide (0 ≤ sizeV SH) = false := by simpa using hz
                clear hz E5 E6 E0
                have r0 := R7.out.c0
                have r1 := R7.out.c1
                have f0 : w7.frozen? ⟨w.heap.size + 1 + 1, 0, none⟩ = false := free_at R7.out 0
                have f1 : w7.frozen? ⟨w.heap.size + 1 + 1, 1, none⟩ = false := free_at R7.out 1
                have z0 := Z7.out.c0
                have z1 := Z7.out.c1
                have HR : Hid (((w7.setCell ⟨w.heap.size + 1 + 1, 0, none⟩ (.slice none 0 0)).setCell ⟨w.heap.size + 1 + 1, 1, none⟩ (.slice none 0 0)).heap[w.heap.size + 1 + 1]? = some (.cells #[.slice none 0 0, .slice none 0 0] 26 (0, 0))) := arr_stored R7.out
                go_wp2_with (go_at_call 58; refine (ok_spec _ IH7.out).mono ?_; rintro r wz ⟨rfl, rfl⟩)
                refine bodyPost_ret (results_arr_tmp Try.results19 _ _ (w.heap.size + 1 + 1) _ _ rfl HR.out) rfl ?_
                exact ⟨_, rfl, arr_zero _ _ _, below_setCell (below_setCell BW7.out (by omega) _ _) (by omega) _ _⟩
    · have HO' : Hid (arrOk t e = false) := by show _ = _; simpa using ho'
      rw [pickR_bad (fun k => ho' k.2)]
      clear ho ho'
      go_enter Try.func19, Try.ntmps19
      go_wp2_with fail
      refine (arrOk_spec (H.out.keep (bAlloc (bAlloc (bAlloc (bAlloc (Below.refl _ _) _) _) _) _)) HD.out).mono ?_
      rintro r w1 ⟨rfl, hb⟩
      have HB1 : Hid (Below w.heap.size w w1) := bTrans (bAlloc (bAlloc (bAlloc (bAlloc (Below.refl _ _) _) _) _) _) hb
      have q1 := blocks4 w (.cells #[.slice a s.length c, .slice b d.length f] 26) (.cells #[.slice a' t.length c', .slice b' e.length f'] 26) (.cells #[.slice none 0 0, .slice none 0 0] 26) (.cells #[.slice none 0 0, .slice none 0 0] 26)
      have X1 : Hid (Box w1 w.heap.size (.slice a s.length c) (.slice b d.length f) 26) := Box.keep q1.1 hb
      have Y1 : Hid (Box w1 (w.heap.size + 1) (.slice a' t.length c') (.slice b' e.length f') 26) := Box.keep q1.2.1 hb
      have R1 : Hid (Box w1 (w.heap.size + 1 + 1) (.slice none 0 0) (.slice none 0 0) 26) := Box.keep q1.2.2.1 hb
      have Z1 : Hid (Box w1 (w.heap.size + 1 + 1 + 1) (.slice none 0 0) (.slice none 0 0) 26) := Box.keep q1.2.2.2 hb
      clear hb q1
      rw [HO.out]
      have x0 := X1.out.c0
      have x1 := X1.out.c1
      have y0 := Y1.out.c0
      have y1 := Y1.out.c1
      have r0 := R1.out.c0
      have r1 := R1.out.c1
      have f0 : w1.frozen? ⟨w.heap.size + 1 + 1, 0, none⟩ = false := free_at R1.out 0
      have f1 : w1.frozen? ⟨w.heap.size + 1 + 1, 1, none⟩ = false := free_at R1.out 1
      have z0 := Z1.out.c0
      have z1 := Z1.out.c1
      go_wp2_with fail
      refine (arrOk_spec (K.out.keep HB1.out) HE.out).mono ?_
      rintro r w2 ⟨rfl, hb⟩
      have HB2 : Hid (Below w.heap.size w w2) := bTrans HB1.out hb
      have X2 : Hid (Box w2 w.heap.size (.slice a s.length c) (.slice b d.length f) 26) := X1.out.keep hb
      have Y2 : Hid (Box w2 (w.heap.size + 1) (.slice a' t.length c') (.slice b' e.length f') 26) := Y1.out.keep hb
      have R2 : Hid (Box w2 (w.heap.size + 1 + 1) (.slice none 0 0) (.slice none 0 0) 26) := R1.out.keep hb
      have Z2 : Hid (Box w2 (w.heap.size + 1 + 1 + 1) (.slice none 0 0) (.slice none 0 0) 26) := Z1.out.keep hb
      rw [HO'.out]
      clear hb x0 x1 y0 y1 r0 r1 z0 z1 f0 f1 X1 Y1 R1 Z1 HB1
      have r0 := R2.out.c0
      have r1 := R2.out.c1
      have f0 : w2.frozen? ⟨w.heap.size + 1 + 1, 0, none⟩ = false := free_at R2.out 0
      have f1 : w2.frozen? ⟨w.heap.size + 1 + 1, 1, none⟩ = false := free_at R2.out 1
      have z0 := Z2.out.c0
      have z1 := Z2.out.c1
      have HR : Hid (((w2.setCell ⟨w.heap.size + 1 + 1, 0, none⟩ (.slice none 0 0)).setCell ⟨w.heap.size + 1 + 1, 1, none⟩ (.slice none 0 0)).heap[w.heap.size + 1 + 1]? = some (.cells #[.slice none 0 0, .slice none 0 0] 26 (0, 0))) := arr_stored R2.out
      go_wp2
      refine bodyPost_ret (results_arr_tmp Try.results19 _ _ (w.heap.size + 1 + 1) _ _ rfl HR.out) rfl ?_
      exact ⟨_, rfl, arr_zero _ _ _, below_setCell (below_setCell HB2.out (by omega) _ _) (by omega) _ _⟩
  · have HO : Hid (arrOk s d = false) := by show _ = _; simpa using ho
    rw [pickR_bad (fun k => ho k.1)]
    clear ho
    go_enter Try.func19, Try.ntmps19
    go_wp2_with fail
    refine (arrOk_spec (H.out.keep (bAlloc (bAlloc (bAlloc (bAlloc (Below.refl _ _) _) _) _) _)) HD.out).mono ?_
    rintro r w1 ⟨rfl, hb⟩
    have HB1 : Hid (Below w.heap.size w w1) := bTrans (bAlloc (bAlloc (bAlloc (bAlloc (Below.refl _ _) _) _) _) _) hb
    have q1 := blocks4 w (.cells #[.slice a s.length c, .slice b d.length f] 26) (.cells #[.slice a' t.length c', .slice b' e.length f'] 26) (.cells #[.slice none 0 0, .slice none 0 0] 26) (.cells #[.slice none 0 0, .slice none 0 0] 26)
    have X1 : Hid (Box w1 w.heap.size (.slice a s.length c) (.slice b d.length f) 26) := Box.keep q1.1 hb
    have Y1 : Hid (Box w1 (w.heap.size + 1) (.slice a' t.length c') (.slice b' e.length f') 26) := Box.keep q1.2.1 hb
    have R1 : Hid (Box w1 (w.heap.size + 1 + 1) (.slice none 0 0) (.slice none 0 0) 26) := Box.keep q1.2.2.1 hb
    have Z1 : Hid (Box w1 (w.heap.size + 1 + 1 + 1) (.slice none 0 0) (.slice none 0 0) 26) := Box.keep q1.2.2.2 hb
    clear hb q1
    rw [HO.out]
    have x0 := X1.out.c0
    have x1 := X1.out.c1
    have y0 := Y1.out.c0
    have y1 := Y1.out.c1
    have r0 := R1.out.c0
    have r1 := R1.out.c1
    have f0 : w1.frozen? ⟨w.heap.size + 1 + 1, 0, none⟩ = false := free_at R1.out 0
    have f1 : w1.frozen? ⟨w.heap.size + 1 + 1, 1, none⟩ = false := free_at R1.out 1
    have z0 := Z1.out.c0
    have z1 := Z1.out.c1
    clear x0 x1 y0 y1 r0 r1 z0 z1 f0 f1
    have r0 := R1.out.c0
    have r1 := R1.out.c1
    have f0 : w1.frozen? ⟨w.heap.size + 1 + 1, 0, none⟩ = false := free_at R1.out 0
    have f1 : w1.frozen? ⟨w.heap.size + 1 + 1, 1, none⟩ = false := free_at R1.out 1
    have z0 := Z1.out.c0
    have z1 := Z1.out.c1
    have HR : Hid (((w1.setCell ⟨w.heap.size + 1 + 1, 0, none⟩ (.slice none 0 0)).setCell ⟨w.heap.size + 1 + 1, 1, none⟩ (.slice none 0 0)).heap[w.heap.size + 1 + 1]? = some (.cells #[.slice none 0 0, .slice none 0 0] 26 (0, 0))) := arr_stored R1.out
    go_wp2
    refine bodyPost_ret (results_arr_tmp Try.results19 _ _ (w.heap.size + 1 + 1) _ _ rfl HR.out) rfl ?_
    exact ⟨_, rfl, arr_zero _ _ _, below_setCell (below_setCell HB1.out (by omega) _ _) (by omega) _ _⟩
end Go.Proofs.Ythjjjnapcbkhjaa
