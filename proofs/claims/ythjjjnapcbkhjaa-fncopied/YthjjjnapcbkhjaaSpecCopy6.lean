/-
  Walks: the specification's Copy (Chapter 6).
-/
import Derived.Test.YthjjjnapcbkhjaaSpecMake5
import Derived.Test.YthjjjnapcbkhjaaSpecMake3
import Derived.Test.YthjjjnapcbkhjaaJoinM
import Derived.Test.YthjjjnapcbkhjaaSmall
import Derived.Test.YthjjjnapcbkhjaaLookC
import Derived.Deep.Cut
namespace Go.Proofs.Ythjjjnapcbkhjaa
open Go.RowKit
set_option linter.unusedVariables false
set_option linter.unusedSimpArgs false
set_option maxRecDepth 20000 in
set_option maxHeartbeats 40000000 in
/-- Copy. -/
theorem copy6_spec {s d t e : List Int} {w : World} {v u : Value} (h : ArrI w v s d) (k : ArrI w u t e) (hd : d.length ≤ 1048576) (he : e.length ≤ 1048576) :
    Calls Try.prog 29 #[v, u] w fun r w' => ∃ v', r = .returned (.tuple #[v', .int .i64 (copyR s d t e).1]) ∧ Arr w.heap.size w'.heap.size w' v' (copyR s d t e).2.1 (copyR s d t e).2.2 ∧ Below w.heap.size w w' := by
  have H : Hid (ArrI w v s d) := h
  have K : Hid (ArrI w u t e) := k
  obtain ⟨a, c, b, f, rfl, h1, h2, _, _⟩ := h
  obtain ⟨a', c', b', f', rfl, k1, k2, gc', _⟩ := k
  have H1 : Hid (Ints w a s) := h1
  have H2 : Hid (Ints w b d) := h2
  have K1 : Hid (Ints w a' t) := k1
  have HD : Hid (d.length ≤ 1048576) := hd
  have HE : Hid (e.length ≤ 1048576) := he
  have GC : Hid (t.length ≤ c') := gc'
  clear h1 h2 k1 k2 hd he gc'
  by_cases ho : arrOk s d = true
  · have HO : Hid (arrOk s d = true) := ho
    by_cases ho' : arrOk t e = true
    · have HO' : Hid (arrOk t e = true) := ho'
      have hd3 : d.length ≤ 300 := by have := arrOk_len ho; omega
      have EP := copyR_told ho ho'
      by_cases hr : 1 < s.length
      · have hri : (1 : Int) < (s.length : Int) := by omega
        rw [if_pos (.inl hr)] at EP
        rw [EP]
        clear EP ho ho'
        go_enter Try.func29, Try.ntmps29
        go_wp2_with fail
        refine (arrOk_spec (H.out.keep (bAlloc (bAlloc (bAlloc (bAlloc (Below.refl _ _) _) _) _) _)) HD.out).mono ?_
        rintro r w1 ⟨rfl, hb⟩
        have HB1 : Hid (Below w.heap.size w w1) := bTrans (bAlloc (bAlloc (bAlloc (bAlloc (Below.refl _ _) _) _) _) _) hb
        have q1 := blocks4 w (.cells #[.slice a s.length c, .slice b d.length f] 26) (.cells #[.slice a' t.length c', .slice b' e.length f'] 26) (.cells #[.slice none 0 0, .slice none 0 0] 26) (.cells #[.slice none 0 0, .slice none 0 0] 26)
        have X1 : Hid (Box w1 w.heap.size (.slice a s.length c) (.slice b d.length f) 26) := Box.keep q1.1 hb
        have Y1 : Hid (Box w1 (w.heap.size + 1) (.slice a' t.length c') (.slice b' e.length f') 26) := Box.keep q1.2.1 hb
        have R1 : Hid (Box w1 (w.heap.size + 1 + 1) (.slice none 0 0) (.slice none 0 0) 26) := Box.keep q1.2.2.1 hb
        have Z1 : Hid (Box w1 (w.heap.size + 1 + 1 + 1) (.slice none 0 0) (.slice none 0 0) 26) := Box.keep q1.2.2.2 hb
        clear hb q1
        rw [HO.out]
        have x0 := X1.out.c0
        have x1 := X1.out.c1
        have y0 := Y1.out.c0
        have y1 := Y1.out.c1
        have r0 := R1.out.c0
        have r1 := R1.out.c1
        have f0 : w1.frozen? ⟨w.heap.size + 1 + 1, 0, none⟩ = false := free_at R1.out 0
        have f1 : w1.frozen? ⟨w.heap.size + 1 + 1, 1, none⟩ = false := free_at R1.out 1
        have z0 := Z1.out.c0
        have z1 := Z1.out.c1
        go_wp2_with fail
        refine (arrOk_spec (K.out.keep HB1.out) HE.out).mono ?_
        rintro r w2 ⟨rfl, hb⟩
        have HB2 : Hid (Below w.heap.size w w2) := bTrans HB1.out hb
        have X2 : Hid (Box w2 w.heap.size (.slice a s.length c) (.slice b d.length f) 26) := X1.out.keep hb
        have Y2 : Hid (Box w2 (w.heap.size + 1) (.slice a' t.length c') (.slice b' e.length f') 26) := Y1.out.keep hb
        have R2 : Hid (Box w2 (w.heap.size + 1 + 1) (.slice none 0 0) (.slice none 0 0) 26) := R1.out.keep hb
        have Z2 : Hid (Box w2 (w.heap.size + 1 + 1 + 1) (.slice none 0 0) (.slice none 0 0) 26) := Z1.out.keep hb
        rw [HO'.out]
        clear hb x0 x1 y0 y1 r0 r1 z0 z1 f0 f1 X1 Y1 R1 Z1 HB1
        have x0 := X2.out.c0
        have y0 := Y2.out.c0
        have r0 := R2.out.c0
        have r1 := R2.out.c1
        have f0 : w2.frozen? ⟨w.heap.size + 1 + 1, 0, none⟩ = false := free_at R2.out 0
        have f1 : w2.frozen? ⟨w.heap.size + 1 + 1, 1, none⟩ = false := free_at R2.out 1
        have z0 := Z2.out.c0
        have z1 := Z2.out.c1
        have HR : Hid (((w2.setCell ⟨w.heap.size + 1 + 1, 0, none⟩ (.slice none 0 0)).setCell ⟨w.heap.size + 1 + 1, 1, none⟩ (.slice none 0 0)).heap[w.heap.size + 1 + 1]? = some (.cells #[.slice none 0 0, .slice none 0 0] 26 (0, 0))) := arr_stored R2.out
        go_wp2
        refine bodyPost_ret (results_arr_tmp Try.results29 _ _ (w.heap.size + 1 + 1) _ _ rfl HR.out) rfl ?_
        exact ⟨_, rfl, arr_zero _ _ _, below_setCell (below_setCell HB2.out (by omega) _ _) (by omega) _ _⟩
      · have hri : ¬ (1 : Int) < (s.length : Int) := by omega
        by_cases ht0 : t = []
        · have n1 : ((t.length : Int) == 0) = true := by simp [ht0]
          rw [if_pos (.inr ht0)] at EP
          rw [EP]
          clear EP ho ho' ht0
          go_enter Try.func29, Try.ntmps29
          go_wp2_with fail
          refine (arrOk_spec (H.out.keep (bAlloc (bAlloc (bAlloc (bAlloc (Below.refl _ _) _) _) _) _)) HD.out).mono ?_
          rintro r w1 ⟨rfl, hb⟩
          have HB1 : Hid (Below w.heap.size w w1) := bTrans (bAlloc (bAlloc (bAlloc (bAlloc (Below.refl _ _) _) _) _) _) hb
          have q1 := blocks4 w (.cells #[.slice a s.length c, .slice b d.length f] 26) (.cells #[.slice a' t.length c', .slice b' e.length f'] 26) (.cells #[.slice none 0 0, .slice none 0 0] 26) (.cells #[.slice none 0 0, .slice none 0 0] 26)
          have X1 : Hid (Box w1 w.heap.size (.slice a s.length c) (.slice b d.length f) 26) := Box.keep q1.1 hb
          have Y1 : Hid (Box w1 (w.heap.size + 1) (.slice a' t.length c') (.slice b' e.length f') 26) := Box.keep q1.2.1 hb
          have R1 : Hid (Box w1 (w.heap.size + 1 + 1) (.slice none 0 0) (.slice none 0 0) 26) := Box.keep q1.2.2.1 hb
          have Z1 : Hid (Box w1 (w.heap.size + 1 + 1 + 1) (.slice none 0 0) (.slice none 0 0) 26) := Box.keep q1.2.2.2 hb
          clear hb q1
          rw [HO.out]
          have x0 := X1.out.c0
          have x1 := X1.out.c1
          have y0 := Y1.out.c0
          have y1 := Y1.out.c1
          have r0 := R1.out.c0
          have r1 := R1.out.c1
          have f0 : w1.frozen? ⟨w.heap.size + 1 + 1, 0, none⟩ = false := free_at R1.out 0
          have f1 : w1.frozen? ⟨w.heap.size + 1 + 1, 1, none⟩ = false := free_at R1.out 1
          have z0 := Z1.out.c0
          have z1 := Z1.out.c1
          go_wp2_with fail
          refine (arrOk_spec (K.out.keep HB1.out) HE.out).mono ?_
          rintro r w2 ⟨rfl, hb⟩
          have HB2 : Hid (Below w.heap.size w w2) := bTrans HB1.out hb
          have X2 : Hid (Box w2 w.heap.size (.slice a s.length c) (.slice b d.length f) 26) := X1.out.keep hb
          have Y2 : Hid (Box w2 (w.heap.size + 1) (.slice a' t.length c') (.slice b' e.length f') 26) := Y1.out.keep hb
          have R2 : Hid (Box w2 (w.heap.size + 1 + 1) (.slice none 0 0) (.slice none 0 0) 26) := R1.out.keep hb
          have Z2 : Hid (Box w2 (w.heap.size + 1 + 1 + 1) (.slice none 0 0) (.slice none 0 0) 26) := Z1.out.keep hb
          rw [HO'.out]
          clear hb x0 x1 y0 y1 r0 r1 z0 z1 f0 f1 X1 Y1 R1 Z1 HB1
          have x0 := X2.out.c0
          have y0 := Y2.out.c0
          have r0 := R2.out.c0
          have r1 := R2.out.c1
          have f0 : w2.frozen? ⟨w.heap.size + 1 + 1, 0, none⟩ = false := free_at R2.out 0
          have f1 : w2.frozen? ⟨w.heap.size + 1 + 1, 1, none⟩ = false := free_at R2.out 1
          have z0 := Z2.out.c0
          have z1 := Z2.out.c1
          have HR : Hid (((w2.setCell ⟨w.heap.size + 1 + 1, 0, none⟩ (.slice none 0 0)).setCell ⟨w.heap.size + 1 + 1, 1, none⟩ (.slice none 0 0)).heap[w.heap.size + 1 + 1]? = some (.cells #[.slice none 0 0, .slice none 0 0] 26 (0, 0))) := arr_stored R2.out
          go_wp2
          refine bodyPost_ret (results_arr_tmp Try.results29 _ _ (w.heap.size + 1 + 1) _ _ rfl HR.out) rfl ?_
          exact ⟨_, rfl, arr_zero _ _ _, below_setCell (below_setCell HB2.out (by omega) _ _) (by omega) _ _⟩
        · have n1 : ((t.length : Int) == 0) = false := by simpa using ht0
          rw [if_neg (fun q => q.elim hr ht0)] at EP
          obtain ⟨x, hx⟩ : ∃ x, x = (copyR s d t e).1 := ⟨_, rfl⟩
          obtain ⟨S, hS⟩ : ∃ S, S = (copyR s d t e).2.1 := ⟨_, rfl⟩
          obtain ⟨D, hD⟩ : ∃ D, D = (copyR s d t e).2.2 := ⟨_, rfl⟩
          rw [← hx, ← hS, ← hD]
          rw [EP] at hx hS hD
          obtain ⟨e1, e2⟩ := rowsN_bd ho'
          have eC : copyD d t e = toldTo d (fun i => rowAt t e i) (rowsN t) := rfl
          obtain ⟨NN, hNN⟩ : ∃ N, N = rowsN t := ⟨_, rfl⟩
          rw [eC, e2, ← hNN] at hx hS hD
          have hn : NN ≤ 300 := by omega
          obtain ⟨tl, ct, hra, hti⟩ := tail_cut_ne K1.out ht0 GC.out
          obtain ⟨bY, oY, rfl, hbY, cY⟩ := K1.out.at (k := 0) (List.length_pos_iff.2 ht0)
          rw [Nat.add_zero, e2, ← hNN] at cY
          have CY : Hid (∀ W, Below w.heap.size w W → W.cell? ⟨bY, oY, none⟩ = some (.int .i64 (NN : Int))) := fun W h => (h.cell (p := ⟨bY, oY, none⟩) hbY).trans cY
          have hp0 : (0 : Int) < (t.length : Int) := by have := List.length_pos_iff.2 ht0; omega
          by_cases hl : d.length ≠ 1 ∧ (d.length : Int) ≠ (NN : Int)
          · rw [if_pos hl] at hx hS hD
            have hl1 : ((d.length : Int) != 1) = true := by simp; omega
            have hl2 : ((d.length : Int) != (NN : Int)) = true := by simp; omega
            subst hx hS hD
            clear EP ho ho' e1 e2 hNN cY hti ht0 hra hl
            go_enter Try.func29, Try.ntmps29
            go_wp2_with fail
            refine (arrOk_spec (H.out.keep (bAlloc (bAlloc (bAlloc (bAlloc (Below.refl _ _) _) _) _) _)) HD.out).mono ?_
            rintro r w1 ⟨rfl, hb⟩
            have HB1 : Hid (Below w.heap.size w w1) := bTrans (bAlloc (bAlloc (bAlloc (bAlloc (Below.refl _ _) _) _) _) _) hb
            have q1 := blocks4 w (.cells #[.slice a s.length c, .slice b d.length f] 26) (.cells #[.slice (some ⟨bY, oY, none⟩) t.length c', .slice b' e.length f'] 26) (.cells #[.slice none 0 0, .slice none 0 0] 26) (.cells #[.slice none 0 0, .slice none 0 0] 26)
            have X1 : Hid (Box w1 w.heap.size (.slice a s.length c) (.slice b d.length f) 26) := Box.keep q1.1 hb
            have Y1 : Hid (Box w1 (w.heap.size + 1) (.slice (some ⟨bY, oY, none⟩) t.length c') (.slice b' e.length f') 26) := Box.keep q1.2.1 hb
            have R1 : Hid (Box w1 (w.heap.size + 1 + 1) (.slice none 0 0) (.slice none 0 0) 26) := Box.keep q1.2.2.1 hb
            have Z1 : Hid (Box w1 (w.heap.size + 1 + 1 + 1) (.slice none 0 0) (.slice none 0 0) 26) := Box.keep q1.2.2.2 hb
            clear hb q1
            rw [HO.out]
            have x0 := X1.out.c0
            have x1 := X1.out.c1
            have y0 := Y1.out.c0
            have y1 := Y1.out.c1
            have r0 := R1.out.c0
            have r1 := R1.out.c1
            have f0 : w1.frozen? ⟨w.heap.size + 1 + 1, 0, none⟩ = false := free_at R1.out 0
            have f1 : w1.frozen? ⟨w.heap.size + 1 + 1, 1, none⟩ = false := free_at R1.out 1
            have z0 := Z1.out.c0
            have z1 := Z1.out.c1
            go_wp2_with fail
            refine (arrOk_spec (K.out.keep HB1.out) HE.out).mono ?_
            rintro r w2 ⟨rfl, hb⟩
            have HB2 : Hid (Below w.heap.size w w2) := bTrans HB1.out hb
            have X2 : Hid (Box w2 w.heap.size (.slice a s.length c) (.slice b d.length f) 26) := X1.out.keep hb
            have Y2 : Hid (Box w2 (w.heap.size + 1) (.slice (some ⟨bY, oY, none⟩) t.length c') (.slice b' e.length f') 26) := Y1.out.keep hb
            have R2 : Hid (Box w2 (w.heap.size + 1 + 1) (.slice none 0 0) (.slice none 0 0) 26) := R1.out.keep hb
            have Z2 : Hid (Box w2 (w.heap.size + 1 + 1 + 1) (.slice none 0 0) (.slice none 0 0) 26) := Z1.out.keep hb
            rw [HO'.out]
            clear hb x0 x1 y0 y1 r0 r1 z0 z1 f0 f1 X1 Y1 R1 Z1 HB1
            have cy := CY.out _ HB2.out
            have x0 := X2.out.c0
            have x1 := X2.out.c1
            have y0 := Y2.out.c0
            have r0 := R2.out.c0
            have r1 := R2.out.c1
            have f0 : w2.frozen? ⟨w.heap.size + 1 + 1, 0, none⟩ = false := free_at R2.out 0
            have f1 : w2.frozen? ⟨w.heap.size + 1 + 1, 1, none⟩ = false := free_at R2.out 1
            have z0 := Z2.out.c0
            have z1 := Z2.out.c1
            go_wp2_with fail
            go_region
            all_goals
              have HR : Hid (((w2.drew.setCell ⟨w.heap.size + 1 + 1, 0, none⟩ (.slice none 0 0)).setCell ⟨w.heap.size + 1 + 1, 1, none⟩ (.slice none 0 0)).heap[w.heap.size + 1 + 1]? = some (.cells #[.slice none 0 0, .slice none 0 0] 26 (0, 0))) := arr_stored (Box.keep (w := w2) R2.out ((Below.refl _ _).drew))
              go_wp2
              refine bodyPost_ret (results_arr_tmp Try.results29 _ _ (w.heap.size + 1 + 1) _ _ rfl HR.out) rfl ?_
              exact ⟨_, rfl, arr_zero _ _ _, below_setCell (below_setCell (HB2.out.trans ((Below.refl _ _).drew.mono HB2.out.size)) (by omega) _ _) (by omega) _ _⟩
          · rw [if_neg hl] at hx hS hD
            have DL : Hid (d.length = 1 ∨ d.length = NN) := by show _ ∨ _; omega
            have GD : Hid (((d.length : Int) != 1) = false ∨ (((d.length : Int) != 1) = true ∧ ((d.length : Int) != (NN : Int)) = false)) := by
              show _ ∨ _
              by_cases q : d.length = 1
              · exact .inl (by simp [q])
              · exact .inr ⟨by simp; omega, by simp; omega⟩
            have E2 : Hid (∀ j, j < d.length → d.getD j 0 < 0 → x = 2 ∧ S = [] ∧ D = []) := by
              intro j hj hb
              have q : d.any (fun x => decide (x < 0)) = true := List.any_eq_true.2 ⟨d.getD j 0, by simp [hj], by simpa using hb⟩
              rw [if_pos q] at hx hS hD
              exact ⟨hx, hS, hD⟩
            have hno : (∀ j, j < d.length → 0 ≤ d.getD j 0) → ¬ d.any (fun x => decide (x < 0)) = true := by
              intro hall q
              obtain ⟨y, hy, hb⟩ := List.any_eq_true.1 q
              obtain ⟨j, hj, rfl⟩ := List.getElem_of_mem hy
              have := hall j hj
              rw [List.getD_eq_getElem?_getD, List.getElem?_eq_getElem hj] at this
              simp at this hb
              omega
            obtain ⟨t', ht'⟩ : ∃ t', t' = t.drop 1 := ⟨_, rfl⟩
            rw [← ht'] at hra hti hx hS hD
            have E6 : Hid ((∀ j, j < d.length → 0 ≤ d.getD j 0) → sizeV (tot d NN :: t') < 0 → x = 6 ∧ S = [] ∧ D = []) := by
              intro hall hz
              rw [if_neg (hno hall), if_pos hz] at hx hS hD
              exact ⟨hx, hS, hD⟩
            obtain ⟨F, hF⟩ : ∃ F, F = rowsF t e := ⟨_, rfl⟩
            have E0 : Hid ((∀ j, j < d.length → 0 ≤ d.getD j 0) → 0 ≤ sizeV (tot d NN :: t') → x = 0 ∧ S = tot d NN :: t' ∧ D = toldTo d (fun i => F.getD (2 * i + 1) []) NN) := by
              intro hall hz
              rw [if_neg (hno hall), if_neg (by omega)] at hx hS hD
              refine ⟨hx, hS, ?_⟩
              rw [hD]
              refine told_ext (fun i hi => ?_)
              rw [hF, rowsF_odd ho' ht0 (by rw [← hNN]; exact hi)]
            have HFL : Hid (F.length = 2 * NN) := by show _ = _; rw [hF, rowsF_length, if_pos ⟨ho', ht0⟩, hNN]; rfl
            have HFE : Hid (∀ j, (F.getD j []).length ≤ 300) := by intro j; rw [hF]; exact rowsF_each t e j
            have HL3 : Hid (∀ W, Below w.heap.size w W → Calls Try.prog 57 #[.agg #[.slice (some ⟨bY, oY, none⟩) t.length c', .slice b' e.length f']] W fun r w' => ∃ v', r = .returned v' ∧ Arrs W.heap.size w'.heap.size w' v' F ∧ Below W.heap.size W w') := fun W hb => by rw [hF]; exact l3rows_ne (K.out.keep hb) ho' ht0
            have HTI : Hid (IntsI w (.slice tl t'.length ct) t') := hti
            have ht2 : t'.length ≤ 3 := by have := (sizeV_ok (arrOk_shape ho')).1; rw [ht']; simp; omega
            clear hx hS hD EP ho ho' hno hF e1 e2 hNN cY hti ht' ht0 hl eC
            go_enter Try.func29, Try.ntmps29
            go_wp2_with fail
            refine (arrOk_spec (H.out.keep (bAlloc (bAlloc (bAlloc (bAlloc (Below.refl _ _) _) _) _) _)) HD.out).mono ?_
            rintro r w1 ⟨rfl, hb⟩
            have HB1 : Hid (Below w.heap.size w w1) := bTrans (bAlloc (bAlloc (bAlloc (bAlloc (Below.refl _ _) _) _) _) _) hb
            have q1 := blocks4 w (.cells #[.slice a s.length c, .slice b d.length f] 26) (.cells #[.slice (some ⟨bY, oY, none⟩) t.length c', .slice b' e.length f'] 26) (.cells #[.slice none 0 0, .slice none 0 0] 26) (.cells #[.slice none 0 0, .slice none 0 0] 26)
            have X1 : Hid (Box w1 w.heap.size (.slice a s.length c) (.slice b d.length f) 26) := Box.keep q1.1 hb
            have Y1 : Hid (Box w1 (w.heap.size + 1) (.slice (some ⟨bY, oY, none⟩) t.length c') (.slice b' e.length f') 26) := Box.keep q1.2.1 hb
            have R1 : Hid (Box w1 (w.heap.size + 1 + 1) (.slice none 0 0) (.slice none 0 0) 26) := Box.keep q1.2.2.1 hb
            have Z1 : Hid (Box w1 (w.heap.size + 1 + 1 + 1) (.slice none 0 0) (.slice none 0 0) 26) := Box.keep q1.2.2.2 hb
            clear hb q1
            rw [HO.out]
            have x0 := X1.out.c0
            have x1 := X1.out.c1
            have y0 := Y1.out.c0
            have y1 := Y1.out.c1
            have r0 := R1.out.c0
            have r1 := R1.out.c1
            have f0 : w1.frozen? ⟨w.heap.size + 1 + 1, 0, none⟩ = false := free_at R1.out 0
            have f1 : w1.frozen? ⟨w.heap.size + 1 + 1, 1, none⟩ = false := free_at R1.out 1
            have z0 := Z1.out.c0
            have z1 := Z1.out.c1
            go_wp2_with fail
            refine (arrOk_spec (K.out.keep HB1.out) HE.out).mono ?_
            rintro r w2 ⟨rfl, hb⟩
            have HB2 : Hid (Below w.heap.size w w2) := bTrans HB1.out hb
            have X2 : Hid (Box w2 w.heap.size (.slice a s.length c) (.slice b d.length f) 26) := X1.out.keep hb
            have Y2 : Hid (Box w2 (w.heap.size + 1) (.slice (some ⟨bY, oY, none⟩) t.length c') (.slice b' e.length f') 26) := Y1.out.keep hb
            have R2 : Hid (Box w2 (w.heap.size + 1 + 1) (.slice none 0 0) (.slice none 0 0) 26) := R1.out.keep hb
            have Z2 : Hid (Box w2 (w.heap.size + 1 + 1 + 1) (.slice none 0 0) (.slice none 0 0) 26) := Z1.out.keep hb
            rw [HO'.out]
            clear hb x0 x1 y0 y1 r0 r1 z0 z1 f0 f1 X1 Y1 R1 Z1 HB1
            have cy := CY.out _ HB2.out
            have x0 := X2.out.c0
            have x1 := X2.out.c1
            have y0 := Y2.out.c0
            go_wp2_with fail
            go_cut [16, 26, 38] from 39 (fun _ _ q w' => q = .bool false ∧ w' = w2.drew)
            case first =>
              rcases GD.out with hl1 | ⟨hl1, hl2⟩
              · go_region
                all_goals
                  go_wp2_with fail
                  go_meet
                  case rel => exact ⟨rfl, rfl⟩
              · go_region
                all_goals
                  go_wp2_with fail
                  go_meet
                  case rel => exact ⟨rfl, rfl⟩
            obtain ⟨w3, hwc⟩ : ∃ x, x = wc := ⟨_, rfl⟩
            subst hwc
            obtain ⟨rfl, hw3⟩ := hcut
            have hb3 : Below w2.heap.size w2 w3 := by rw [hw3]; exact (Below.refl _ _).drew
            have HB3 : Hid (Below w.heap.size w w3) := bTrans HB2.out hb3
            have X3 : Hid (Box w3 w.heap.size (.slice a s.length c) (.slice b d.length f) 26) := X2.out.keep hb3
            have Y3 : Hid (Box w3 (w.heap.size + 1) (.slice (some ⟨bY, oY, none⟩) t.length c') (.slice b' e.length f') 26) := Y2.out.keep hb3
            have R3 : Hid (Box w3 (w.heap.size + 1 + 1) (.slice none 0 0) (.slice none 0 0) 26) := R2.out.keep hb3
            have Z3 : Hid (Box w3 (w.heap.size + 1 + 1 + 1) (.slice none 0 0) (.slice none 0 0) 26) := Z2.out.keep hb3
            clear hw3 hb3 cy x0 x1 y0 X2 Y2 R2 Z2 HB2 GD
            have cy := CY.out _ HB3.out
            have x0 := X3.out.c0
            have x1 := X3.out.c1
            have y0 := Y3.out.c0
            go_wp2
            go_loopw [8] (fun i w' => ∃ k : Nat, k ≤ d.length ∧ i = .int .i64 (k : Int) ∧ (∀ j, j < k → 0 ≤ d.getD j 0) ∧ w' = w3) (fun i _ => d.length - (intOf i).toNat)
            case atStart => exact ⟨0, by omega, rfl, fun j hj => by omega, rfl⟩
            case round =>
              obtain ⟨k, hk, rfl, hn', hw⟩ := hrel
              have HN : Hid (∀ j, j < k → 0 ≤ d.getD j 0) := hn'
              clear hn'
              have hw2 := hw.symm
              clear hw
              subst hw2
              by_cases hlt : (k : Int) < (d.length : Int)
              · have L : k < d.length := by omega
                obtain ⟨b1, o1, rfl, hb1, c1⟩ := H2.out.at L
                have c1' : w3.cell? ⟨b1, o1 + k, none⟩ = some (.int .i64 (d.getD k 0)) := (HB3.out.cell (p := ⟨b1, o1 + k, none⟩) hb1).trans c1
                by_cases hb : d.getD k 0 < 0
                · obtain ⟨rfl, rfl, rfl⟩ := E2.out k L hb
                  generalize d.getD k 0 = y at *
                  clear c1 E2 E6 E0 HL3
                  have r0 := R3.out.c0
                  have r1 := R3.out.c1
                  have f0 : w3.frozen? ⟨w.heap.size + 1 + 1, 0, none⟩ = false := free_at R3.out 0
                  have f1 : w3.frozen? ⟨w.heap.size + 1 + 1, 1, none⟩ = false := free_at R3.out 1
                  have z0 := Z3.out.c0
                  have z1 := Z3.out.c1
                  have HR : Hid (((w3.setCell ⟨w.heap.size + 1 + 1, 0, none⟩ (.slice none 0 0)).setCell ⟨w.heap.size + 1 + 1, 1, none⟩ (.slice none 0 0)).heap[w.heap.size + 1 + 1]? = some (.cells #[.slice none 0 0, .slice none 0 0] 26 (0, 0))) := arr_stored R3.out
                  go_wp2
                  refine bodyPost_ret (results_arr_tmp Try.results29 _ _ (w.heap.size + 1 + 1) _ _ rfl HR.out) rfl ?_
                  exact ⟨_, rfl, arr_zero _ _ _, below_setCell (below_setCell HB3.out (by omega) _ _) (by omega) _ _⟩
                · have HN2 : Hid (∀ j, j < k + 1 → 0 ≤ d.getD j 0) := fun j hj => by
                    by_cases e : j = k
                    · rw [e]; omega
                    · exact HN.out j (by omega)
                  generalize d.getD k 0 = y at *
                  clear c1
                  go_wp2
                  go_roundw
                  case rel => exact ⟨k + 1, by omega, by go_num, HN2.out, by first | rfl | trivial⟩
                  case measure => simp [intOf]; omega
              · obtain rfl : k = d.length := by omega
                have EN : Hid (∀ j, j < d.length → 0 ≤ d.getD j 0) := HN.out
                clear HN
                go_wp2
                clear cy x0 x1 y0
                go_loopw [7, 9] (fun z i w' => ∃ k : Nat, k ≤ NN ∧ i = .int .i64 (k : Int) ∧ z = .int .i64 (tot d k) ∧ Below w3.heap.size w3 w') (fun _ i _ => NN - (intOf i).toNat)
                case atStart => exact ⟨0, by omega, rfl, rfl, Below.refl _ _⟩
                case round =>
                  obtain ⟨k, hk, rfl, rfl, hw⟩ := hrel
                  have BR : Hid (Below w3.heap.size w3 wr) := hw
                  have BWr : Hid (Below w.heap.size w wr) := bTrans HB3.out hw
                  clear hw
                  have cy := CY.out _ BWr.out
                  have x1 := (X3.out.keep BR.out).c1
                  have y0 := (Y3.out.keep BR.out).c0
                  by_cases hlt : (k : Int) < (NN : Int)
                  · have hdp : 0 < d.length := by have := DL.out; omega
                    have hM : k % d.length < d.length := Nat.mod_lt _ hdp
                    obtain ⟨b1, o1, rfl, hb1, c1⟩ := H2.out.at hM
                    have c1' : wr.cell? ⟨b1, o1 + k % d.length, none⟩ = some (.int .i64 (often d k)) := (BWr.out.cell (p := ⟨b1, o1 + k % d.length, none⟩) hb1).trans c1
                    have eT : Hid (tot d (k + 1) = tot d k + often d k) := rfl
                    have ob := often_bd HO.out EN.out k
                    have tb := tot_bd HO.out EN.out k
                    have hw1 : IntKind.i64.wrap (tot d k + often d k) = tot d k + often d k := by
                      have h1 : (k : Int) * 1000000000000 ≤ 300 * 1000000000000 := Int.mul_le_mul_of_nonneg_right (by omega) (by decide)
                      rw [IntKind.wrap_i64]
                      omega
                    have hnz : ¬ d.length = 0 := by omega
                    obtain ⟨M, hMe⟩ : ∃ M, M = k % d.length := ⟨_, rfl⟩
                    have eM : Int.tmod (k : Int) (d.length : Int) = (M : Int) := by rw [hMe]; rfl
                    have hMi : (M : Int) < (d.length : Int) := by omega
                    have B2' : Hid (Below w3.heap.size w3 wr.drew) := bTrans BR.out ((Below.refl _ _).drew)
                    rw [← hMe] at c1'
                    generalize often d k = y at *
                    clear c1 hM hMe ob tb
                    go_wp2_with fail
                    go_region
                    all_goals
                      go_wp2
                      go_roundw
                      case rel => exact ⟨k + 1, by omega, by go_num, by rw [eT.out], B2'.out⟩
                      case measure => simp [intOf]; omega
                  · obtain rfl : k = NN := by omega
                    clear x1
                    obtain ⟨T0, hT0⟩ : ∃ T0, T0 = tot d k := ⟨_, rfl⟩
                    obtain ⟨U0, hU0⟩ : ∃ U0, U0 = mn T0 301 := ⟨_, rfl⟩
                    have TB : Hid (0 ≤ T0) := by show _ ≤ _; rw [hT0]; exact (tot_bd HO.out EN.out k).1
                    have EU : Hid (T0 ≤ 300 ∧ U0 = T0 ∨ 300 < T0 ∧ U0 = 301) := by
                      show _ ∨ _
                      rw [hU0]
                      unfold mn
                      by_cases q : T0 ≤ 300
                      · left; refine ⟨q, ?_⟩; split <;> omega
                      · right; refine ⟨by omega, ?_⟩; split <;> omega
                    obtain ⟨SH, hSH⟩ : ∃ SH, SH = [U0] ++ t' := ⟨_, rfl⟩
                    have EZ : Hid (0 ≤ sizeV SH → SH = tot d k :: t') := by
                      intro hz
                      rw [hSH] at hz ⊢
                      rcases EU.out with ⟨q1, q2⟩ | ⟨q1, q2⟩
                      · rw [q2, hT0]; rfl
                      · rw [q2] at hz
                        have := big_shape (x := 301) (u := t') (by decide)
                        exact absurd hz (by show ¬ 0 ≤ sizeV (301 :: t'); omega)
                    have EZ6 : Hid (sizeV SH < 0 → sizeV (tot d k :: t') < 0) := by
                      intro hz
                      rw [hSH] at hz
                      rw [← hT0]
                      rcases EU.out with ⟨q1, q2⟩ | ⟨q1, q2⟩
                      · rw [q2] at hz; exact hz
                      · exact big_shape q1
                    have HMN : Hid (∀ W, Calls Try.prog 77 #[.int .i64 (tot d k), .int .i64 301] W fun r w' => r = .returned (.int .i64 U0) ∧ w' = W) := fun W => by rw [hU0, hT0]; exact min_spec _ 301 W
                    have IT : Hid (∀ W, Below w.heap.size w W → Ints W tl t') := fun W hb => by
                      obtain ⟨q1, q2, q3, q4, q5⟩ := HTI.out
                      cases q3
                      exact q5.keep hb
                    have N5 : NewInts wr.heap.size (wr.drew.alloc (.cells #[.int .i64 U0] 3)) (.slice (some ⟨wr.heap.size, 0, none⟩) 1 1) [U0] := newInts_alloc wr.drew [U0] (Nat.le_refl _) (by simp)
                    obtain ⟨a4, c4, w4, r4, n4, h4⟩ := growL N5 (IT.out _ (bTrans BWr.out (bAlloc ((Below.refl wr.heap.size wr).drew) _))) (by simp) (by simp; omega) ct
                    rw [← hSH] at r4 n4
                    have R4 : Hid (_ = _) := r4
                    have N4 : Hid (NewInts wr.heap.size w4 (.slice a4 SH.length c4) SH) := n4
                    have B4 : Hid (Below wr.heap.size wr w4) := (bAlloc ((Below.refl wr.heap.size wr).drew) _).trans h4
                    have HB4 : Hid (Below w.heap.size w w4) := bTrans BWr.out B4.out
                    have BR4 : Hid (Below w3.heap.size w3 w4) := bTrans BR.out B4.out
                    have t0 := ((Y3.out.keep BR.out).keep B4.out).c0
                    have nw := World.new_ne wr ⟨w.heap.size + 1, 0, none⟩ y0
                    have hLS : Hid (SH.length = t'.length + 1) := by show _ = _; rw [hSH]; simp
                    clear r4 n4 h4 N5 hU0 hSH EU hT0 TB
                    clear T0
                    go_wp2_with fail
                    go_region_held3 (fun w' => w'.cell? ⟨w.heap.size + 1, 0, none⟩ = some (.slice (some ⟨bY, oY, none⟩) t.length c'))
                      (first | with_reducible exact y0 | with_reducible exact t0 | exact y0 | go_keep)
                      (first
                        | (go_at_call 77; refine (HMN.out _).mono ?_; rintro r wm ⟨rfl, hm⟩; subst hm)
                        | refine step_append_ty (by rfl) (.tmp 89) (.tmp 92) 24 24 (by rfl) _ _ _ (by rfl) (by rfl) R4.out ?_)
                    have IH4 : Hid (Ints w4 a4 SH) := by
                      obtain ⟨q1, q2, q3, q4⟩ := N4.out.ints
                      cases q3
                      exact q4
                    have L3w : Hid (w.heap.size + 1 + 1 + 1 < w3.heap.size) := Z3.out.lt
                    have X4 : Hid (Box w4 w.heap.size (.slice a s.length c) (.slice b d.length f) 26) := X3.out.keep BR4.out
                    have Y4 : Hid (Box w4 (w.heap.size + 1) (.slice (some ⟨bY, oY, none⟩) t.length c') (.slice b' e.length f') 26) := Y3.out.keep BR4.out
                    have R4b : Hid (Box w4 (w.heap.size + 1 + 1) (.slice none 0 0) (.slice none 0 0) 26) := R3.out.keep BR4.out
                    have Z4 : Hid (Box w4 (w.heap.size + 1 + 1 + 1) (.slice none 0 0) (.slice none 0 0) 26) := Z3.out.keep BR4.out
                    have S4 : Hid (w3.heap.size ≤ wr.heap.size ∧ wr.heap.size ≤ w4.heap.size) := ⟨BR.out.size, B4.out.size⟩
                    clear y0 t0 nw cy R4 HMN IT HTI hra CY X3 Y3 R3 Z3 BR B4 BWr
                    by_cases hz : 0 ≤ sizeV SH
                    · have ES := EZ.out hz
                      obtain ⟨rfl, eS, eD⟩ := E0.out EN.out (by rw [← ES]; exact hz)
                      have hzb : decide (0 ≤ sizeV SH) = true := by simpa using hz
                      have T3 : Hid (tot d k ≤ 300) := by
                        show _ ≤ _
                        apply Classical.byContradiction
                        intro q
                        have := big_shape (x := tot d k) (u := t') (by omega)
                        rw [← ES] at this
                        omega
                      rw [← ES] at eS
                      subst eS
                      have ED : Hid (D = toldTo d (fun i => F.getD (2 * i + 1) []) k) := eD
                      clear hz E2 E6 E0 EZ EZ6 eD ES
                      go_wp2_with fail
                      refine (ok_spec _ IH4.out).mono ?_
                      rintro r wz ⟨rfl, hw⟩
                      have hw2 := hw.symm
                      clear hw
                      subst hw2
                      rw [hzb]
                      have y0 := Y4.out.c0
                      have y1 := Y4.out.c1
                      go_wp2_with fail
                      refine (HL3.out _ HB4.out).mono ?_
                      rintro r w5 ⟨v5, rfl, ha, hb⟩
                      have AR : Hid (ArrsI w5 v5 F) := ha.arrsI
                      obtain ⟨ra, rn, rc, rfl, e5, _⟩ := ha.arrsI
                      obtain rfl : rn = k := by have := HFL.out; omega
                      have HB5 : Hid (Below w.heap.size w w5) := bTrans HB4.out hb
                      have X5 : Hid (Box w5 w.heap.size (.slice a s.length c) (.slice b d.length f) 26) := X4.out.keep hb
                      have R5 : Hid (Box w5 (w.heap.size + 1 + 1) (.slice none 0 0) (.slice none 0 0) 26) := R4b.out.keep hb
                      have P5 : Hid (Piece w3.heap.size w4.heap.size w5 (.slice a4 S.length c4) S) := (N4.out.piece.keep hb).mono S4.out.1 (Nat.le_refl _)
                      have S5 : Hid (w4.heap.size ≤ w5.heap.size) := hb.size
                      clear ha hb y0 y1 e5 HL3 HFL X4 Y4 R4b Z4 N4 IH4 hzb
                      go_wp2
                      generalize hW : w5.alloc (.cells #[.slice a4 S.length c4, .slice none 0 0] 26) = W6
                      have O6 : Hid (OutAt w5.heap.size w5 W6 (.slice a4 S.length c4) none 0 0 (toldTo d (fun i => F.getD (2 * i + 1) []) 0)) := by rw [← hW]; exact outAt_new
                      clear hW
                      obtain ⟨fr, hf⟩ : ∃ fr : Nat → List Int, fr = (fun i => F.getD (2 * i + 1) []) := ⟨_, rfl⟩
                      rw [← hf] at O6 ED
                      have FE : Hid (∀ i, (fr i).length ≤ 300) := fun i => by rw [hf]; exact HFE.out _
                      have FA : Hid (∀ i, fr i = F.getD (2 * i + 1) []) := fun i => by rw [hf]
                      clear hf
                      go_loopw [13] (fun i w' => ∃ (k q : Nat) (ad : Option Addr) (cd : Nat), k ≤ rn ∧ i = .int .i64 (k : Int) ∧ OutAt w5.heap.size w5 w' (.slice a4 S.length c4) ad cd q (toldTo d fr k)) (fun i _ => rn - (intOf i).toNat)
                      case atStart => exact ⟨0, _, _, _, by omega, rfl, O6.out⟩
                      case round =>
                        obtain ⟨k, q, ad, cd, hk, rfl, hO⟩ := hrel
                        have OK : Hid (OutAt w5.heap.size w5 wr (.slice a4 S.length c4) ad cd q (toldTo d fr k)) := hO
                        clear hO O6
                        by_cases hlt : (k : Int) < (rn : Int)
                        · have ob := often_bd HO.out EN.out k
                          have eT : tot d (k + 1) = tot d k + often d k := rfl
                          have tm := tot_mono HO.out EN.out (i := k + 1) (n := rn) (by omega)
                          have tl := told_len HO.out EN.out fr 300 FE.out k
                          have TL : Hid (((toldTo d fr k).length : Int) + often d k * 300 ≤ 90000) := by show _ ≤ _; have := T3.out; omega
                          have ETL : Hid (toldTo d fr (k + 1) = toldTo d fr k ++ (List.replicate (often d k).toNat (fr k)).flatten) := rfl
                          obtain ⟨n, hn'⟩ : ∃ n : Nat, often d k = (n : Int) := ⟨(often d k).toNat, by omega⟩
                          have EN2 : Hid (often d k = (n : Int)) := hn'
                          rw [hn'] at TL ETL
                          rw [Int.toNat_natCast] at ETL
                          have n3 : n ≤ 300 := by have := T3.out; have := (tot_bd HO.out EN.out k).1; omega
                          clear ob eT tm tl hn'
                          have hdp : 0 < d.length := by have := DL.out; omega
                          have hM : k % d.length < d.length := Nat.mod_lt _ hdp
                          obtain ⟨b1, o1, rfl, hb1, c1⟩ := H2.out.at hM
                          have CC : Hid (∀ W, Below w.heap.size w W → W.cell? ⟨b1, o1 + k % d.length, none⟩ = some (.int .i64 (n : Int))) := fun W h => by rw [← EN2.out]; exact (h.cell (p := ⟨b1, o1 + k % d.length, none⟩) hb1).trans c1
                          obtain ⟨M, hMe⟩ : ∃ M, M = k % d.length := ⟨_, rfl⟩
                          have eM : Int.tmod (k : Int) (d.length : Int) = (M : Int) := by rw [hMe]; rfl
                          have hMi : (M : Int) < (d.length : Int) := by omega
                          have hnz : ¬ d.length = 0 := by omega
                          rw [← hMe] at CC
                          clear c1 hM hMe
                          obtain ⟨L0, hL0⟩ : ∃ L0, L0 = toldTo d fr k := ⟨_, rfl⟩
                          rw [← hL0] at OK TL ETL
                          clear hL0
                          go_wp2
                          go_loopw [14] (fun m w' => ∃ (j q : Nat) (ad : Option Addr) (cd : Nat), j ≤ n ∧ m = .int .i64 (j : Int) ∧ OutAt w5.heap.size w5 w' (.slice a4 S.length c4) ad cd q (L0 ++ (List.replicate j (fr k)).flatten)) (fun m _ => n - (intOf m).toNat)
                          case atStart => exact ⟨0, _, _, _, by omega, rfl, by simpa using OK.out⟩
                          case round =>
                            obtain ⟨j, q, ad, cd, hj, rfl, hO⟩ := hrel
                            have OJ : Hid (OutAt w5.heap.size w5 wr (.slice a4 S.length c4) ad cd q (L0 ++ (List.replicate j (fr k)).flatten)) := hO
                            have BJ : Hid (Below w.heap.size w wr) := bTrans HB5.out OJ.out.below
                            clear hO OK
                            have x1 := (X5.out.keep OJ.out.below).c1
                            have c1' := CC.out _ BJ.out
                            by_cases hjn : (j : Int) < (n : Int)
                            · have QL : Hid (q + (fr k).length ≤ 1048576) := by
                                show _ ≤ _
                                have h1 := OJ.out.len
                                have h2 := FE.out k
                                have h3 := TL.out
                                rw [List.length_append, List.length_flatten] at h1
                                simp at h1
                                have h4 : j * (fr k).length ≤ j * 300 := Nat.mul_le_mul_left _ h2
                                omega
                              have EF : Hid (L0 ++ (List.replicate (j + 1) (fr k)).flatten = (L0 ++ (List.replicate j (fr k)).flatten) ++ fr k) := by
                                show _ = _
                                rw [List.replicate_succ', List.flatten_append, List.append_assoc]; simp
                              obtain ⟨m0, m1, m2, m3⟩ := OJ.out.cells
                              obtain ⟨o, off, sx, sy, rfl, hoo, p0, p1, i0, i1⟩ := (AR.out.keep OJ.out.below).at (k := k) (by omega)
                              rw [← FA.out k] at i1
                              obtain ⟨ax, cx, rfl, gix, ix⟩ := i0
                              obtain ⟨ay, cy, rfl, giy, iy⟩ := i1
                              obtain ⟨a8, c8, w8, hr8, hb8, ho8⟩ := (OJ.out.keep (((Below.refl wr.heap.size wr).drew).drew)).growL (iy.keep (((Below.refl wr.heap.size wr).drew).drew)) QL.out cy
                              rw [← EF.out] at ho8
                              clear ix gix iy giy
                              generalize (F.getD (2 * k) []).length = lx at *
                              generalize (fr k).length = ly at *
                              have R8 : Hid ((Builtin.append_ #[24, 24] 24 #[.slice ad q cd, .slice ay ly cy]).run Try.prog wr.drew.drew = .ok (.slice a8 (q + ly) c8) w8) := hr8
                              have O8 : Hid (OutAt w5.heap.size w5 (w8.setCell ⟨w5.heap.size, 1, none⟩ (.slice a8 (q + ly) c8)) (.slice a4 S.length c4) a8 c8 (q + ly) (L0 ++ (List.replicate (j + 1) (fr k)).flatten)) := ho8
                              have n8 := hb8.c1
                              have n9 : w8.frozen? ⟨w5.heap.size, 1, none⟩ = false := free_at hb8 1
                              clear hr8 hb8 ho8 EF QL TL
                              go_wp2_with fail
                              go_region
                              all_goals
                                go_wp2_with fail
                                go_region_law (refine step_append_ty (by rfl) (.tmp 122) (.tmp 127) 24 24 (by rfl) _ _ _ (by rfl) (by rfl) R8.out ?_)
                                all_goals
                                  go_wp2
                                  go_roundw
                                  case rel => exact ⟨j + 1, _, _, _, by omega, by go_num, O8.out⟩
                                  case measure => simp [intOf]; omega
                            · obtain rfl : j = n := by omega
                              have OE : Hid (OutAt w5.heap.size w5 wr.drew (.slice a4 S.length c4) ad cd q (toldTo d fr (k + 1))) := by
                                show OutAt _ _ _ _ _ _ _ _
                                rw [ETL.out]
                                exact OJ.out.keep ((Below.refl _ _).drew)
                              clear OJ
                              go_wp2_with fail
                              go_region
                              all_goals
                                go_wp2
                                go_roundw
                                case rel => exact ⟨k + 1, _, _, _, by omega, by go_num, OE.out⟩
                                case measure => simp [intOf]; omega
                        · obtain rfl : k = rn := by omega
                          have HA : Hid (Arr w3.heap.size wr.heap.size wr (.agg #[.slice a4 S.length c4, .slice ad q cd]) S (toldTo d fr k)) := OK.out.arr P5.out S5.out (by have := S4.out; have := S5.out; omega)
                          have RR : Hid (Box wr (w.heap.size + 1 + 1) (.slice none 0 0) (.slice none 0 0) 26) := R5.out.keep OK.out.below
                          have BW : Hid (Below w.heap.size w wr) := bTrans HB5.out OK.out.below
                          have g0 := OK.out.box.c0
                          have g1 := OK.out.box.c1
                          have r0 := RR.out.c0
                          have r1 := RR.out.c1
                          have f0 : wr.frozen? ⟨w.heap.size + 1 + 1, 0, none⟩ = false := free_at RR.out 0
                          have f1 : wr.frozen? ⟨w.heap.size + 1 + 1, 1, none⟩ = false := free_at RR.out 1
                          have HR : Hid (((wr.setCell ⟨w.heap.size + 1 + 1, 0, none⟩ (.slice a4 S.length c4)).setCell ⟨w.heap.size + 1 + 1, 1, none⟩ (.slice ad q cd)).heap[w.heap.size + 1 + 1]? = some (.cells #[.slice a4 S.length c4, .slice ad q cd] 26 (0, 0))) := arr_stored RR.out
                          go_wp2
                          refine bodyPost_ret (results_arr_tmp Try.results29 _ _ (w.heap.size + 1 + 1) _ _ rfl HR.out) rfl ?_
                          refine ⟨_, rfl, ?_, below_setCell (below_setCell BW.out (by omega) _ _) (by omega) _ _⟩
                          have L := L3w.out
                          rw [ED.out]
                          exact ((HA.out.setCell (by omega) _ _).setCell (by omega) _ _).mono HB3.out.size (by simp only [size_setCell]; omega)
                    · obtain ⟨rfl, rfl, rfl⟩ := E6.out EN.out (EZ6.out (by omega))
                      have hzb : decide (0 ≤ sizeV SH) = false := by simpa using hz
                      clear hz E2 E6 E0 EZ EZ6
                      have r0 := R4b.out.c0
                      have r1 := R4b.out.c1
                      have f0 : w4.frozen? ⟨w.heap.size + 1 + 1, 0, none⟩ = false := free_at R4b.out 0
                      have f1 : w4.frozen? ⟨w.heap.size + 1 + 1, 1, none⟩ = false := free_at R4b.out 1
                      have z0 := Z4.out.c0
                      have z1 := Z4.out.c1
                      have HR : Hid (((w4.setCell ⟨w.heap.size + 1 + 1, 0, none⟩ (.slice none 0 0)).setCell ⟨w.heap.size + 1 + 1, 1, none⟩ (.slice none 0 0)).heap[w.heap.size + 1 + 1]? = some (.cells #[.slice none 0 0, .slice none 0 0] 26 (0, 0))) := arr_stored R4b.out
                      go_wp2_with (go_at_call 58; refine (ok_spec _ IH4.out).mono ?_; rintro r wz ⟨rfl, rfl⟩)
                      refine bodyPost_ret (results_arr_tmp Try.results29 _ _ (w.heap.size + 1 + 1) _ _ rfl HR.out) rfl ?_
                      exact ⟨_, rfl, arr_zero _ _ _, below_setCell (below_setCell HB4.out (by omega) _ _) (by omega) _ _⟩
    · have HO' : Hid (arrOk t e = false) := by show _ = _; simpa using ho'
      rw [copyR_bad (fun k => ho' k.2)]
      clear ho ho'
      go_enter Try.func29, Try.ntmps29
      go_wp2_with fail
      refine (arrOk_spec (H.out.keep (bAlloc (bAlloc (bAlloc (bAlloc (Below.refl _ _) _) _) _) _)) HD.out).mono ?_
      rintro r w1 ⟨rfl, hb⟩
      have HB1 : Hid (Below w.heap.size w w1) := bTrans (bAlloc (bAlloc (bAlloc (bAlloc (Below.refl _ _) _) _) _) _) hb
      have q1 := blocks4 w (.cells #[.slice a s.length c, .slice b d.length f] 26) (.cells #[.slice a' t.length c', .slice b' e.length f'] 26) (.cells #[.slice none 0 0, .slice none 0 0] 26) (.cells #[.slice none 0 0, .slice none 0 0] 26)
      have X1 : Hid (Box w1 w.heap.size (.slice a s.length c) (.slice b d.length f) 26) := Box.keep q1.1 hb
      have Y1 : Hid (Box w1 (w.heap.size + 1) (.slice a' t.length c') (.slice b' e.length f') 26) := Box.keep q1.2.1 hb
      have R1 : Hid (Box w1 (w.heap.size + 1 + 1) (.slice none 0 0) (.slice none 0 0) 26) := Box.keep q1.2.2.1 hb
      have Z1 : Hid (Box w1 (w.heap.size + 1 + 1 + 1) (.slice none 0 0) (.slice none 0 0) 26) := Box.keep q1.2.2.2 hb
      clear hb q1
      rw [HO.out]
      have x0 := X1.out.c0
      have x1 := X1.out.c1
      have y0 := Y1.out.c0
      have y1 := Y1.out.c1
      have r0 := R1.out.c0
      have r1 := R1.out.c1
      have f0 : w1.frozen? ⟨w.heap.size + 1 + 1, 0, none⟩ = false := free_at R1.out 0
      have f1 : w1.frozen? ⟨w.heap.size + 1 + 1, 1, none⟩ = false := free_at R1.out 1
      have z0 := Z1.out.c0
      have z1 := Z1.out.c1
      go_wp2_with fail
      refine (arrOk_spec (K.out.keep HB1.out) HE.out).mono ?_
      rintro r w2 ⟨rfl, hb⟩
      have HB2 : Hid (Below w.heap.size w w2) := bTrans HB1.out hb
      have X2 : Hid (Box w2 w.heap.size (.slice a s.length c) (.slice b d.length f) 26) := X1.out.keep hb
      have Y2 : Hid (Box w2 (w.heap.size + 1) (.slice a' t.length c') (.slice b' e.length f') 26) := Y1.out.keep hb
      have R2 : Hid (Box w2 (w.heap.size + 1 + 1) (.slice none 0 0) (.slice none 0 0) 26) := R1.out.keep hb
      have Z2 : Hid (Box w2 (w.heap.size + 1 + 1 + 1) (.slice none 0 0) (.slice none 0 0) 26) := Z1.out.keep hb
      rw [HO'.out]
      clear hb x0 x1 y0 y1 r0 r1 z0 z1 f0 f1 X1 Y1 R1 Z1 HB1
      have r0 := R2.out.c0
      have r1 := R2.out.c1
      have f0 : w2.frozen? ⟨w.heap.size + 1 + 1, 0, none⟩ = false := free_at R2.out 0
      have f1 : w2.frozen? ⟨w.heap.size + 1 + 1, 1, none⟩ = false := free_at R2.out 1
      have z0 := Z2.out.c0
      have z1 := Z2.out.c1
      have HR : Hid (((w2.setCell ⟨w.heap.size + 1 + 1, 0, none⟩ (.slice none 0 0)).setCell ⟨w.heap.size + 1 + 1, 1, none⟩ (.slice none 0 0)).heap[w.heap.size + 1 + 1]? = some (.cells #[.slice none 0 0, .slice none 0 0] 26 (0, 0))) := arr_stored R2.out
      go_wp2
      refine bodyPost_ret (results_arr_tmp Try.results29 _ _ (w.heap.size + 1 + 1) _ _ rfl HR.out) rfl ?_
      exact ⟨_, rfl, arr_zero _ _ _, below_setCell (below_setCell HB2.out (by omega) _ _) (by omega) _ _⟩
  · have HO : Hid (arrOk s d = false) := by show _ = _; simpa using ho
    rw [copyR_bad (fun k => ho k.1)]
    clear ho
    go_enter Try.func29, Try.ntmps29
    go_wp2_with fail
    refine (arrOk_spec (H.out.keep (bAlloc (bAlloc (bAlloc (bAlloc (Below.refl _ _) _) _) _) _)) HD.out).mono ?_
    rintro r w1 ⟨rfl, hb⟩
    have HB1 : Hid (Below w.heap.size w w1) := bTrans (bAlloc (bAlloc (bAlloc (bAlloc (Below.refl _ _) _) _) _) _) hb
    have q1 := blocks4 w (.cells #[.slice a s.length c, .slice b d.length f] 26) (.cells #[.slice a' t.length c', .slice b' e.length f'] 26) (.cells #[.slice none 0 0, .slice none 0 0] 26) (.cells #[.slice none 0 0, .slice none 0 0] 26)
    have X1 : Hid (Box w1 w.heap.size (.slice a s.length c) (.slice b d.length f) 26) := Box.keep q1.1 hb
    have Y1 : Hid (Box w1 (w.heap.size + 1) (.slice a' t.length c') (.slice b' e.length f') 26) := Box.keep q1.2.1 hb
    have R1 : Hid (Box w1 (w.heap.size + 1 + 1) (.slice none 0 0) (.slice none 0 0) 26) := Box.keep q1.2.2.1 hb
    have Z1 : Hid (Box w1 (w.heap.size + 1 + 1 + 1) (.slice none 0 0) (.slice none 0 0) 26) := Box.keep q1.2.2.2 hb
    clear hb q1
    rw [HO.out]
    have x0 := X1.out.c0
    have x1 := X1.out.c1
    have y0 := Y1.out.c0
    have y1 := Y1.out.c1
    have r0 := R1.out.c0
    have r1 := R1.out.c1
    have f0 : w1.frozen? ⟨w.heap.size + 1 + 1, 0, none⟩ = false := free_at R1.out 0
    have f1 : w1.frozen? ⟨w.heap.size + 1 + 1, 1, none⟩ = false := free_at R1.out 1
    have z0 := Z1.out.c0
    have z1 := Z1.out.c1
    clear x0 x1 y0 y1 r0 r1 z0 z1 f0 f1
    have r0 := R1.out.c0
    have r1 := R1.out.c1
    have f0 : w1.frozen? ⟨w.heap.size + 1 + 1, 0, none⟩ = false := free_at R1.out 0
    have f1 : w1.frozen? ⟨w.heap.size + 1 + 1, 1, none⟩ = false := free_at R1.out 1
    have z0 := Z1.out.c0
    have z1 := Z1.out.c1
    have HR : Hid (((w1.setCell ⟨w.heap.size + 1 + 1, 0, none⟩ (.slice none 0 0)).setCell ⟨w.heap.size + 1 + 1, 1, none⟩ (.slice none 0 0)).heap[w.heap.size + 1 + 1]? = some (.cells #[.slice none 0 0, .slice none 0 0] 26 (0, 0))) := arr_stored R1.out
    go_wp2
    refine bodyPost_ret (results_arr_tmp Try.results29 _ _ (w.heap.size + 1 + 1) _ _ rfl HR.out) rfl ?_
    exact ⟨_, rfl, arr_zero _ _ _, below_setCell (below_setCell HB1.out (by omega) _ _) (by omega) _ _⟩
end Go.Proofs.Ythjjjnapcbkhjaa
