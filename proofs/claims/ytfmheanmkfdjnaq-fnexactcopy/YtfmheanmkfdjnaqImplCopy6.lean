/-
  Walks: the program's Copy (Chapter 6).
-/
import Derived.Test.YtfmheanmkfdjnaqImplCopy1
import Derived.Test.YtfmheanmkfdjnaqImplMake1
import Derived.Test.YtfmheanmkfdjnaqCuts2
import Derived.Deep.Cut
namespace Go.Proofs.Ytfmheanmkfdjnaq
open Go.RowKit
set_option linter.unusedVariables false
set_option linter.unusedSimpArgs false
set_option maxRecDepth 20000 in
set_option maxHeartbeats 8000000 in
/-- Copy. -/
theorem copy6_impl {s d t e : List Int} {w : World} {v u : Value} (h : ArrI w v s d) (k : ArrI w u t e) (hs : s.length ≤ 1048576) (hd : d.length ≤ 1048576) (ht : t.length ≤ 1048576) (he : e.length ≤ 1048576) :
    Calls Try.prog 12 #[v, u] w fun r w' => ∃ v', r = .returned (.tuple #[v', .int .i64 (copyR s d t e).1]) ∧ Arr w.heap.size w'.heap.size w' v' (copyR s d t e).2.1 (copyR s d t e).2.2 ∧ Below w.heap.size w w' := by
  have H : Hid (ArrI w v s d) := h
  have K : Hid (ArrI w u t e) := k
  obtain ⟨a, c, b, f, rfl, h1, h2, g1, g2⟩ := h
  obtain ⟨a', c', b', f', rfl, k1, k2, g3, g4⟩ := k
  have HOK : Hid (∀ (W : World) (o : Nat), Below w.heap.size w W → W.heap[o]? = some (.cells #[.slice a s.length c, .slice b d.length f, .slice a' t.length c', .slice b' e.length f'] 26 (0, 0)) → Calls Try.prog 32 #[.slice (some ⟨o, 0, none⟩) 2 2] W fun r w' => r = .returned (.bool (arrOk s d && arrOk t e)) ∧ Below W.heap.size W w') := fun W o hb ho => allOk2_impl (H.out.keep hb) (K.out.keep hb) hs hd ht he ho
  obtain ⟨x, hx⟩ : ∃ x, x = (copyR s d t e).1 := ⟨_, rfl⟩
  obtain ⟨S, hS⟩ : ∃ S, S = (copyR s d t e).2.1 := ⟨_, rfl⟩
  obtain ⟨D, hD⟩ : ∃ D, D = (copyR s d t e).2.2 := ⟨_, rfl⟩
  rw [← hx, ← hS, ← hD]
  have E1 : Hid (¬ (arrOk s d = true ∧ arrOk t e = true) → x = 1 ∧ S = [] ∧ D = []) := fun h => by
    rw [hx, hS, hD, copyR_bad h]; exact ⟨rfl, rfl, rfl⟩
  have I2 : Hid (Ints w b d) := h2
  by_cases ho : arrOk s d = true ∧ arrOk t e = true
  · have hd3 : d.length ≤ 300 := by have := arrOk_len ho.1; omega
    have EP := copyR_told ho.1 ho.2
    have hoo : (arrOk s d && arrOk t e) = true := by rw [ho.1, ho.2]; rfl
    rw [hoo] at HOK
    rw [EP] at hx hS hD
    by_cases hr : 1 < s.length
    · have hri : (1 : Int) < (s.length : Int) := by omega
      rw [if_pos (.inl hr)] at hx hS hD
      subst hx hS hD
      clear EP E1 ho hoo
      go_enter Try.func12, Try.ntmps12
      go_wp2_with fail
      refine (HOK.out _ _ (bAlloc (bAlloc (bAlloc (bAlloc (Below.refl _ _) _) _) _) _) (by exact (four5 w _ _ _ _).2.2.2)).mono ?_
      rintro r w1 ⟨rfl, hb⟩
      have q4 := four5 w (.cells #[.slice a s.length c, .slice b d.length f] 26) (.cells #[.slice a' t.length c', .slice b' e.length f'] 26) (.cells #[.slice none 0 0, .slice none 0 0] 26) (.cells #[.slice a s.length c, .slice b d.length f, .slice a' t.length c', .slice b' e.length f'] 26)
      have HB1 : Hid (Below w.heap.size w w1) := bTrans (bAlloc (bAlloc (bAlloc (bAlloc (Below.refl _ _) _) _) _) _) hb
      have X1 : Hid (Box w1 w.heap.size (.slice a s.length c) (.slice b d.length f) 26) := Box.keep q4.1 hb
      have Y1 : Hid (Box w1 (w.heap.size + 1) (.slice a' t.length c') (.slice b' e.length f') 26) := Box.keep q4.2.1 hb
      have R1 : Hid (Box w1 (w.heap.size + 1 + 1) (.slice none 0 0) (.slice none 0 0) 26) := Box.keep q4.2.2.1 hb
      have LT : Hid (w.heap.size + 1 + 1 < w1.heap.size) := R1.out.lt
      clear hb q4 HOK
      have x0 := X1.out.c0
      have z0 := Y1.out.c0
      have y0 := R1.out.c0
      have y1 := R1.out.c1
      have f0 : w1.frozen? ⟨w.heap.size + 1 + 1, 0, none⟩ = false := free_at R1.out 0
      have f1 : w1.frozen? ⟨w.heap.size + 1 + 1, 1, none⟩ = false := free_at R1.out 1
      have HR : Hid (((w1.setCell ⟨w.heap.size + 1 + 1, 0, none⟩ (.slice none 0 0)).setCell ⟨w.heap.size + 1 + 1, 1, none⟩ (.slice none 0 0)).heap[w.heap.size + 1 + 1]? = some (.cells #[.slice none 0 0, .slice none 0 0] 26 (0, 0))) := arr_stored R1.out
      go_wp2
      refine bodyPost_ret (results_arr_tmp Try.results12 _ _ (w.heap.size + 1 + 1) _ _ rfl HR.out) rfl ?_
      exact ⟨_, rfl, arr_zero _ _ _, below_setCell (below_setCell HB1.out (by omega) _ _) (by omega) _ _⟩
    · have hri : ¬ (1 : Int) < (s.length : Int) := by omega
      by_cases ht0 : t = []
      · have n1 : ((t.length : Int) == 0) = true := by simp [ht0]
        rw [if_pos (.inr ht0)] at hx hS hD
        subst hx hS hD
        clear EP E1 ho hoo ht0
        go_enter Try.func12, Try.ntmps12
        go_wp2_with fail
        refine (HOK.out _ _ (bAlloc (bAlloc (bAlloc (bAlloc (Below.refl _ _) _) _) _) _) (by exact (four5 w _ _ _ _).2.2.2)).mono ?_
        rintro r w1 ⟨rfl, hb⟩
        have q4 := four5 w (.cells #[.slice a s.length c, .slice b d.length f] 26) (.cells #[.slice a' t.length c', .slice b' e.length f'] 26) (.cells #[.slice none 0 0, .slice none 0 0] 26) (.cells #[.slice a s.length c, .slice b d.length f, .slice a' t.length c', .slice b' e.length f'] 26)
        have HB1 : Hid (Below w.heap.size w w1) := bTrans (bAlloc (bAlloc (bAlloc (bAlloc (Below.refl _ _) _) _) _) _) hb
        have X1 : Hid (Box w1 w.heap.size (.slice a s.length c) (.slice b d.length f) 26) := Box.keep q4.1 hb
        have Y1 : Hid (Box w1 (w.heap.size + 1) (.slice a' t.length c') (.slice b' e.length f') 26) := Box.keep q4.2.1 hb
        have R1 : Hid (Box w1 (w.heap.size + 1 + 1) (.slice none 0 0) (.slice none 0 0) 26) := Box.keep q4.2.2.1 hb
        have LT : Hid (w.heap.size + 1 + 1 < w1.heap.size) := R1.out.lt
        clear hb q4 HOK
        have x0 := X1.out.c0
        have z0 := Y1.out.c0
        have y0 := R1.out.c0
        have y1 := R1.out.c1
        have f0 : w1.frozen? ⟨w.heap.size + 1 + 1, 0, none⟩ = false := free_at R1.out 0
        have f1 : w1.frozen? ⟨w.heap.size + 1 + 1, 1, none⟩ = false := free_at R1.out 1
        have HR : Hid (((w1.setCell ⟨w.heap.size + 1 + 1, 0, none⟩ (.slice none 0 0)).setCell ⟨w.heap.size + 1 + 1, 1, none⟩ (.slice none 0 0)).heap[w.heap.size + 1 + 1]? = some (.cells #[.slice none 0 0, .slice none 0 0] 26 (0, 0))) := arr_stored R1.out
        go_wp2
        refine bodyPost_ret (results_arr_tmp Try.results12 _ _ (w.heap.size + 1 + 1) _ _ rfl HR.out) rfl ?_
        exact ⟨_, rfl, arr_zero _ _ _, below_setCell (below_setCell HB1.out (by omega) _ _) (by omega) _ _⟩
      · have n1 : ((t.length : Int) == 0) = false := by simpa using ht0
        rw [if_neg (fun q => q.elim hr ht0)] at hx hS hD
        obtain ⟨e1, e2⟩ := rowsN5 ho.2
        obtain ⟨NN, hNN⟩ : ∃ N, N = rowsN t := ⟨_, rfl⟩
        rw [← hNN] at e1 e2
        have hn : NN ≤ 300 := e1
        have KS : Hid (IntsI w (.slice a' t.length c') t) := ⟨a', c', rfl, g3, k1⟩
        obtain ⟨bY, oY, rfl, hbY, cY⟩ := k1.at (k := 0) (List.length_pos_iff.2 ht0)
        rw [Nat.add_zero, e2] at cY
        have CY : Hid (∀ W, Below w.heap.size w W → W.cell? ⟨bY, oY, none⟩ = some (.int .i64 (NN : Int))) := fun W h => (h.cell (p := ⟨bY, oY, none⟩) hbY).trans cY
        have hp0 : (0 : Int) < (t.length : Int) := by have := List.length_pos_iff.2 ht0; omega
        have HP0 : Hid ((0 : Int) < (t.length : Int)) := hp0
        rw [e2, ← hNN] at hx hS hD
        by_cases hl : d.length ≠ 1 ∧ (d.length : Int) ≠ (NN : Int)
        · rw [if_pos hl] at hx hS hD
          have hl1 : ((d.length : Int) != 1) = true := by simp; omega
          have hl2 : ((d.length : Int) != (NN : Int)) = true := by simp; omega
          subst hx hS hD
          clear EP E1 ho hoo e1 e2 hNN cY ht0 hl KS
          go_enter Try.func12, Try.ntmps12
          go_wp2_with fail
          refine (HOK.out _ _ (bAlloc (bAlloc (bAlloc (bAlloc (Below.refl _ _) _) _) _) _) (by exact (four5 w _ _ _ _).2.2.2)).mono ?_
          rintro r w1 ⟨rfl, hb⟩
          have q4 := four5 w (.cells #[.slice a s.length c, .slice b d.length f] 26) (.cells #[.slice (some ⟨bY, oY, none⟩) t.length c', .slice b' e.length f'] 26) (.cells #[.slice none 0 0, .slice none 0 0] 26) (.cells #[.slice a s.length c, .slice b d.length f, .slice (some ⟨bY, oY, none⟩) t.length c', .slice b' e.length f'] 26)
          have HB1 : Hid (Below w.heap.size w w1) := bTrans (bAlloc (bAlloc (bAlloc (bAlloc (Below.refl _ _) _) _) _) _) hb
          have X1 : Hid (Box w1 w.heap.size (.slice a s.length c) (.slice b d.length f) 26) := Box.keep q4.1 hb
          have Y1 : Hid (Box w1 (w.heap.size + 1) (.slice (some ⟨bY, oY, none⟩) t.length c') (.slice b' e.length f') 26) := Box.keep q4.2.1 hb
          have R1 : Hid (Box w1 (w.heap.size + 1 + 1) (.slice none 0 0) (.slice none 0 0) 26) := Box.keep q4.2.2.1 hb
          have LT : Hid (w.heap.size + 1 + 1 < w1.heap.size) := R1.out.lt
          clear hb q4 HOK
          have x0 := X1.out.c0
          have z0 := Y1.out.c0
          have x1 := X1.out.c1
          have cy := CY.out _ HB1.out
          have y0 := R1.out.c0
          have y1 := R1.out.c1
          have f0 : w1.frozen? ⟨w.heap.size + 1 + 1, 0, none⟩ = false := free_at R1.out 0
          have f1 : w1.frozen? ⟨w.heap.size + 1 + 1, 1, none⟩ = false := free_at R1.out 1
          go_wp2_with fail
          go_region
          all_goals
            have HR : Hid (((w1.drew.setCell ⟨w.heap.size + 1 + 1, 0, none⟩ (.slice none 0 0)).setCell ⟨w.heap.size + 1 + 1, 1, none⟩ (.slice none 0 0)).heap[w.heap.size + 1 + 1]? = some (.cells #[.slice none 0 0, .slice none 0 0] 26 (0, 0))) := arr_stored (Box.keep (w := w1) R1.out ((Below.refl _ _).drew))
            go_wp2
            refine bodyPost_ret (results_arr_tmp Try.results12 _ _ (w.heap.size + 1 + 1) _ _ rfl HR.out) rfl ?_
            exact ⟨_, rfl, arr_zero _ _ _, below_setCell (below_setCell (HB1.out.trans ((Below.refl _ _).drew.mono HB1.out.size)) (by omega) _ _) (by omega) _ _⟩
        · rw [if_neg hl] at hx hS hD
          have GD : Hid (((d.length : Int) != 1) = false ∨ (((d.length : Int) != 1) = true ∧ ((d.length : Int) != (NN : Int)) = false)) := by
            show _ ∨ _
            by_cases q : d.length = 1
            · exact .inl (by simp [q])
            · exact .inr ⟨by simp; omega, by simp; omega⟩
          obtain ⟨t', ht'⟩ : ∃ t', t' = t.drop 1 := ⟨_, rfl⟩
          rw [← ht'] at hx hS hD
          have E2 : Hid (d.any (fun x => decide (x < 0)) = true → x = 2 ∧ S = [] ∧ D = []) := fun q => by
            rw [if_pos q] at hx hS hD; exact ⟨hx, hS, hD⟩
          have E6 : Hid (d.any (fun x => decide (x < 0)) = false → sizeV (tot d NN :: t') < 0 → x = 6 ∧ S = [] ∧ D = []) := fun q q2 => by
            rw [if_neg (by rw [q]; decide), if_pos q2] at hx hS hD; exact ⟨hx, hS, hD⟩
          have E0 : Hid (d.any (fun x => decide (x < 0)) = false → 0 ≤ sizeV (tot d NN :: t') → x = 0 ∧ S = tot d NN :: t' ∧ D = copyD d t e) := fun q q2 => by
            rw [if_neg (by rw [q]; decide), if_neg (by omega)] at hx hS hD; exact ⟨hx, hS, hD⟩
          have OKS : Hid (arrOk s d = true) := ho.1
          have HT' : Hid (t' = t.drop 1) := ht'
          have HTN : Hid (t ≠ []) := ht0
          have HCH : Hid ((∀ j, j < d.length → 0 ≤ d.getD j 0) → 0 ≤ sizeV (tot d NN :: t') → ∀ (W : World) (o : Nat) (a6 : Option Addr) (c6 : Nat), Below w.heap.size w W → W.cell? ⟨o, 0, none⟩ = some (.slice a6 (toldP (againD d NN) NN).length c6) → o < W.heap.size → Ints W a6 (toldP (againD d NN) NN) → Calls Try.prog 40 #[.agg #[.slice (some ⟨bY, oY, none⟩) t.length c', .slice b' e.length f'], .int .i64 (tot d NN), .func (.func 41) #[] #[.pointer (some ⟨o, 0, none⟩)]] W fun r w' => ∃ v', r = .returned v' ∧ Arr W.heap.size w'.heap.size w' v' (tot d NN :: t') (copyD d t e) ∧ Below W.heap.size W w') := fun q q2 W o a6 c6 hb hc hlt hi => by
            have hal := again_len d NN
            have e3 : tot d NN = ((toldP (againD d NN) NN).length : Int) := by
              rw [toldP_len (l := againD d NN) (fun j hj => by rw [again_often (by omega)]; exact (often_bd ho.1 q j).1) (by omega)]
              exact (sumL_tot (Nat.le_refl _)).symm
            have qq := chosen_impl (s := t) (d := e) (w := W) (v := .agg #[.slice (some ⟨bY, oY, none⟩) t.length c', .slice b' e.length f']) (p := .pointer (some ⟨o, 0, none⟩)) (f := 41) (n := (toldP (againD d NN) NN).length) (φ := fun k => (toldP (againD d NN) NN).getD k 0) e3 (enters_of Try.func41 (by kernel_rfl) rfl) (K.out.keep hb) ho.2 ht0 (by rw [← e3, ← ht']; exact q2) (fun W' k hk hb' => copy1_impl ((hb'.cell (p := ⟨o, 0, none⟩) hlt).trans hc) (hi.keep hb') hk)
            have cc := copy_chosen (d := d) ho.2
            rw [← hNN] at cc
            rw [cc, ← e3, ← ht'] at qq
            exact qq
          clear EP E1 ho hoo ht0 hx hS hD e1 e2 hNN cY ht' h1 h2 k1 k2 g1 g2 g3 g4 hl
          go_enter Try.func12, Try.ntmps12
          go_wp2_with fail
          refine (HOK.out _ _ (bAlloc (bAlloc (bAlloc (bAlloc (Below.refl _ _) _) _) _) _) (by exact (four5 w _ _ _ _).2.2.2)).mono ?_
          rintro r w1 ⟨rfl, hb⟩
          have q4 := four5 w (.cells #[.slice a s.length c, .slice b d.length f] 26) (.cells #[.slice (some ⟨bY, oY, none⟩) t.length c', .slice b' e.length f'] 26) (.cells #[.slice none 0 0, .slice none 0 0] 26) (.cells #[.slice a s.length c, .slice b d.length f, .slice (some ⟨bY, oY, none⟩) t.length c', .slice b' e.length f'] 26)
          have HB1 : Hid (Below w.heap.size w w1) := bTrans (bAlloc (bAlloc (bAlloc (bAlloc (Below.refl _ _) _) _) _) _) hb
          have X1 : Hid (Box w1 w.heap.size (.slice a s.length c) (.slice b d.length f) 26) := Box.keep q4.1 hb
          have Y1 : Hid (Box w1 (w.heap.size + 1) (.slice (some ⟨bY, oY, none⟩) t.length c') (.slice b' e.length f') 26) := Box.keep q4.2.1 hb
          have R1 : Hid (Box w1 (w.heap.size + 1 + 1) (.slice none 0 0) (.slice none 0 0) 26) := Box.keep q4.2.2.1 hb
          have LT : Hid (w.heap.size + 1 + 1 < w1.heap.size) := R1.out.lt
          clear hb q4 HOK
          have x0 := X1.out.c0
          have z0 := Y1.out.c0
          have x1 := X1.out.c1
          have cy := CY.out _ HB1.out
          have S11 : Hid (w1.heap.size ≤ w1.heap.size) := Nat.le_refl _
          go_wp2_with fail
          go_cut [9, 16, 28] from 29 (fun _ _ q w' => q = .bool false ∧ w' = w1.drew)
          case first =>
            rcases GD.out with hl1 | ⟨hl1, hl2⟩
            · go_region
              all_goals
                go_wp2_with fail
                go_meet
                case rel => exact ⟨rfl, rfl⟩
            · go_region
              all_goals
                go_wp2_with fail
                go_meet
                case rel => exact ⟨rfl, rfl⟩
          obtain ⟨w2, hwc⟩ : ∃ x, x = wc := ⟨_, rfl⟩
          subst hwc
          obtain ⟨rfl, hw2⟩ := hcut
          have hb : Below w1.heap.size w1 w2 := by rw [hw2]; exact (Below.refl _ _).drew
          have X2 : Hid (Box w2 w.heap.size (.slice a s.length c) (.slice b d.length f) 26) := X1.out.keep hb
          have Y2 : Hid (Box w2 (w.heap.size + 1) (.slice (some ⟨bY, oY, none⟩) t.length c') (.slice b' e.length f') 26) := Y1.out.keep hb
          have R2 : Hid (Box w2 (w.heap.size + 1 + 1) (.slice none 0 0) (.slice none 0 0) 26) := R1.out.keep hb
          have HB2 : Hid (Below w.heap.size w w2) := bTrans HB1.out hb
          have S12 : Hid (w1.heap.size ≤ w2.heap.size) := Nat.le_trans S11.out hb.size
          clear hb hw2 x0 x1 z0 cy X1 Y1 R1 HB1 GD
          have x1 := X2.out.c1
          have HCF : Hid (Calls Try.prog 33 #[.slice b d.length f, .func (.func 34) #[] #[]] w2 fun r w' => r = .returned (.bool (d.any fun x => decide (x < 0))) ∧ w' = w2) := containsBelow_impl (I2.out.keep HB2.out) (by omega)
          go_wp2_with fail
          refine (HCF.out).mono ?_
          rintro r wz ⟨rfl, hw⟩
          have hw2 := hw.symm
          clear hw
          subst hw2
          clear HCF x1
          cases hany : d.any (fun x => decide (x < 0)) with
          | true =>
            obtain ⟨rfl, rfl, rfl⟩ := E2.out hany
            clear E2 E6 E0 hany
            have y0 := R2.out.c0
            have y1 := R2.out.c1
            have f0 : w2.frozen? ⟨w.heap.size + 1 + 1, 0, none⟩ = false := free_at R2.out 0
            have f1 : w2.frozen? ⟨w.heap.size + 1 + 1, 1, none⟩ = false := free_at R2.out 1
            have HR : Hid (((w2.setCell ⟨w.heap.size + 1 + 1, 0, none⟩ (.slice none 0 0)).setCell ⟨w.heap.size + 1 + 1, 1, none⟩ (.slice none 0 0)).heap[w.heap.size + 1 + 1]? = some (.cells #[.slice none 0 0, .slice none 0 0] 26 (0, 0))) := arr_stored R2.out
            go_wp2
            refine bodyPost_ret (results_arr_tmp Try.results12 _ _ (w.heap.size + 1 + 1) _ _ rfl HR.out) rfl ?_
            exact ⟨_, rfl, arr_zero _ _ _, below_setCell (below_setCell HB2.out (by omega) _ _) (by omega) _ _⟩
          | false =>
            have EA : Hid (∀ j, j < d.length → 0 ≤ d.getD j 0) := any_below.1 hany
            have EAN : Hid (d.any (fun x => decide (x < 0)) = false) := hany
            clear hany
            have x1 := X2.out.c1
            have z0 := Y2.out.c0
            have cy := CY.out _ HB2.out
            have HAG : Hid (∀ W, Below w.heap.size w W → Calls Try.prog 35 #[.slice b d.length f, .int .i64 (NN : Int)] W fun r w' => r = .returned (.slice (some ⟨W.heap.size, 0, none⟩) NN NN) ∧ OwnInts w' W.heap.size (againD d NN) ∧ Below W.heap.size W w') := fun W hb => again_impl (I2.out.keep hb) (by omega) (by omega)
            go_wp2_with fail
            have hp1 : (0 : Int) < (t.length : Int) := HP0.out
            have hp2 : 0 < t.length := by omega
            have hp3 : ¬ ((t.length : Int) ≤ 0) := by omega
            go_region_held3 (fun w' => w'.cell? ⟨w.heap.size, 1, none⟩ = some (.slice b d.length f) ∧ w'.cell? ⟨w.heap.size + 1, 0, none⟩ = some (.slice (some ⟨bY, oY, none⟩) t.length c') ∧ w'.cell? ⟨bY, oY, none⟩ = some (.int .i64 (NN : Int)))
              (first | with_reducible exact ⟨u0, u1, u2⟩ | with_reducible exact ⟨x1, z0, cy⟩ | exact ⟨x1, z0, cy⟩)
              ((go_at_call 35; refine (HAG.out _ (bTrans HB2.out ((Below.refl w2.heap.size w2).drew))).mono ?_; rintro r w3 ⟨rfl, ho3, hbb⟩; have O3 : Hid (OwnInts w3 w2.heap.size (againD d NN)) := ho3; have B3 : Hid (Below w2.heap.size w2 w3) := bTrans ((Below.refl w2.heap.size w2).drew) hbb; have u0 := (X2.out.keep B3.out).c1; have u1 := (Y2.out.keep B3.out).c0; have u2 := CY.out _ (bTrans HB2.out B3.out); clear ho3 hbb))
            have hb := B3.out
            have X3 : Hid (Box w3 w.heap.size (.slice a s.length c) (.slice b d.length f) 26) := X2.out.keep hb
            have Y3 : Hid (Box w3 (w.heap.size + 1) (.slice (some ⟨bY, oY, none⟩) t.length c') (.slice b' e.length f') 26) := Y2.out.keep hb
            have R3 : Hid (Box w3 (w.heap.size + 1 + 1) (.slice none 0 0) (.slice none 0 0) 26) := R2.out.keep hb
            have HB3 : Hid (Below w.heap.size w w3) := bTrans HB2.out hb
            have S13 : Hid (w1.heap.size ≤ w3.heap.size) := Nat.le_trans S12.out hb.size
            have L3 : Hid (w2.heap.size < w3.heap.size) := lt_of_heapA O3.out
            clear hb x1 z0 cy u0 u1 u2 X2 Y2 R2 B3 HAG
            obtain ⟨T, hT⟩ : ∃ T, T = againD d NN := ⟨_, rfl⟩
            have TL : Hid (T.length = NN) := by show _ = _; rw [hT]; exact again_len d NN
            have TB : Hid (∀ j, j < T.length → 0 ≤ T.getD j 0 ∧ T.getD j 0 ≤ 1000000000000) := fun j hj => by
              have := TL.out
              rw [hT, again_often (by omega)]
              exact often_bd OKS.out EA.out j
            have TS : Hid (sumL T T.length = tot d NN) := by show _ = _; rw [TL.out, hT]; exact sumL_tot (Nat.le_refl _)
            have IT : Hid (∀ W, Below w3.heap.size w3 W → Ints W (some ⟨w2.heap.size, 0, none⟩) T) := fun W hb => by
              have p := OwnInts.piece (by rw [← hT] at O3; exact O3.out) (Nat.le_refl w2.heap.size) L3.out T.length
              obtain ⟨_, _, ev, hi⟩ := p.ints
              cases ev
              exact hi.keep hb
            have HSM : Hid (Calls Try.prog 36 #[.slice (some ⟨w2.heap.size, 0, none⟩) NN NN] w3 fun r w' => r = .returned (.int .i64 (tot d NN)) ∧ w' = w3) := by
              have q := sumOf_impl (c := NN) (IT.out _ (Below.refl _ _)) (by have := TL.out; omega) TB.out
              rw [TS.out, TL.out] at q
              exact q
            go_wp2_with fail
            refine (HSM.out).mono ?_
            rintro r wz ⟨rfl, hw⟩
            have hw2 := hw.symm
            clear hw
            subst hw2
            obtain ⟨SH, hSH⟩ : ∃ SH, SH = tot d NN :: t' := ⟨_, rfl⟩
            have HOF : Hid (Calls Try.prog 38 #[.slice (some ⟨bY, oY, none⟩) t.length c', .int .i64 (tot d NN)] w3 fun r w' => ∃ a' c', r = .returned (.slice a' SH.length c') ∧ Piece w3.heap.size w'.heap.size w' (.slice a' SH.length c') SH ∧ Below w3.heap.size w3 w') := by
              rw [hSH, HT'.out]
              exact ofRows_impl (tot d NN) (KS.out.keep HB3.out) ht HTN.out
            have z0 := Y3.out.c0
            have HSH : Hid (SH = tot d NN :: t') := hSH
            have HTT : Hid (T = againD d NN) := hT
            clear HSM hSH hT
            go_wp2_with fail
            refine (HOF.out).mono ?_
            rintro r w4 ⟨a4, c4, rfl, hp, hb⟩
            have X4 : Hid (Box w4 w.heap.size (.slice a s.length c) (.slice b d.length f) 26) := X3.out.keep hb
            have Y4 : Hid (Box w4 (w.heap.size + 1) (.slice (some ⟨bY, oY, none⟩) t.length c') (.slice b' e.length f') 26) := Y3.out.keep hb
            have R4 : Hid (Box w4 (w.heap.size + 1 + 1) (.slice none 0 0) (.slice none 0 0) 26) := R3.out.keep hb
            have HB4 : Hid (Below w.heap.size w w4) := bTrans HB3.out hb
            have S14 : Hid (w1.heap.size ≤ w4.heap.size) := Nat.le_trans S13.out hb.size
            obtain ⟨_, _, ev, i4⟩ := hp.ints
            cases ev
            have B34 : Hid (Below w3.heap.size w3 w4) := hb
            have HSO : Hid (Calls Try.prog 37 #[.slice a4 SH.length c4] w4 fun r w' => r = .returned (.bool (decide (0 ≤ sizeV SH))) ∧ Below w4.heap.size w4 w') := ok_impl c4 i4
            clear hp hb z0 X3 Y3 R3 HB3 i4 HOF
            go_wp2_with fail
            refine (HSO.out).mono ?_
            rintro r w5 ⟨rfl, hb⟩
            have X5 : Hid (Box w5 w.heap.size (.slice a s.length c) (.slice b d.length f) 26) := X4.out.keep hb
            have Y5 : Hid (Box w5 (w.heap.size + 1) (.slice (some ⟨bY, oY, none⟩) t.length c') (.slice b' e.length f') 26) := Y4.out.keep hb
            have R5 : Hid (Box w5 (w.heap.size + 1 + 1) (.slice none 0 0) (.slice none 0 0) 26) := R4.out.keep hb
            have HB5 : Hid (Below w.heap.size w w5) := bTrans HB4.out hb
            have S15 : Hid (w1.heap.size ≤ w5.heap.size) := Nat.le_trans S14.out hb.size
            have B35 : Hid (Below w3.heap.size w3 w5) := bTrans B34.out hb
            clear hb X4 Y4 R4 HB4 HSO B34
            by_cases hz : 0 ≤ sizeV SH
            · have hdz : decide (0 ≤ sizeV SH) = true := by simpa using hz
              rw [hdz]
              rw [HSH.out] at hz
              obtain ⟨rfl, eS', eD'⟩ := E0.out EAN.out hz
              have EE : Hid (S = tot d NN :: t' ∧ D = copyD d t e) := ⟨eS', eD'⟩
              clear eS' eD'
              have HCC := HCH.out EA.out hz
              have tb := dim5 hz
              obtain ⟨n, hn'⟩ : ∃ n : Nat, tot d NN = (n : Int) := ⟨(tot d NN).toNat, by omega⟩
              have HTO : Hid (∀ W, Below w3.heap.size w3 W → Calls Try.prog 39 #[.slice (some ⟨w2.heap.size, 0, none⟩) NN NN, .int .i64 (tot d NN)] W fun r w' => ∃ a' c', r = .returned (.slice a' (toldP T NN).length c') ∧ NewInts W.heap.size w' (.slice a' (toldP T NN).length c') (toldP T NN) ∧ Below W.heap.size W w') := fun W hb => by
                have q := told_impl (c := NN) (n := n) (IT.out W hb) (by have := TL.out; omega) (fun j hj => (TB.out j hj).1) (by rw [TS.out, hn']) (by omega)
                rw [TL.out, ← hn'] at q
                exact q
              rw [← HTT.out] at HCC
              obtain ⟨P, hP⟩ : ∃ P, P = toldP T NN := ⟨_, rfl⟩
              rw [← hP] at HTO HCC
              have HCD : Hid (∀ (W : World) (o : Nat) (a6 : Option Addr) (c6 : Nat), Below w.heap.size w W → W.cell? ⟨o, 0, none⟩ = some (.slice a6 P.length c6) → o < W.heap.size → Ints W a6 P → _) := HCC
              clear HCC E2 E6 E0 hdz hz HCH hP TS TB IT tb hn'
              go_wp2_with fail
              refine (HTO.out _ B35.out).mono ?_
              rintro r w6 ⟨a6, c6, rfl, hn6, hb⟩
              have X6 : Hid (Box w6 w.heap.size (.slice a s.length c) (.slice b d.length f) 26) := X5.out.keep hb
              have Y6 : Hid (Box w6 (w.heap.size + 1) (.slice (some ⟨bY, oY, none⟩) t.length c') (.slice b' e.length f') 26) := Y5.out.keep hb
              have R6 : Hid (Box w6 (w.heap.size + 1 + 1) (.slice none 0 0) (.slice none 0 0) 26) := R5.out.keep hb
              have HB6 : Hid (Below w.heap.size w w6) := bTrans HB5.out hb
              have S16 : Hid (w1.heap.size ≤ w6.heap.size) := Nat.le_trans S15.out hb.size
              obtain ⟨_, _, ev, i6⟩ := hn6.ints
              cases ev
              have I6 : Hid (Ints w6 a6 P) := i6
              clear hn6 hb i6 X5 Y5 R5 HB5 HTO
              generalize hW : w6.alloc (.cells #[.slice a6 P.length c6] 22) = w7
              have hb : Below w6.heap.size w6 w7 := by rw [← hW]; exact bAlloc (Below.refl _ _) _
              have C7 : Hid (w7.cell? ⟨w6.heap.size, 0, none⟩ = some (.slice a6 P.length c6)) := by show _ = _; rw [← hW]; exact cell_at (heap_alloc_new w6 _) rfl
              have L7 : Hid (w6.heap.size < w7.heap.size) := by show _ < _; rw [← hW]; simp
              have X7 : Hid (Box w7 w.heap.size (.slice a s.length c) (.slice b d.length f) 26) := X6.out.keep hb
              have Y7 : Hid (Box w7 (w.heap.size + 1) (.slice (some ⟨bY, oY, none⟩) t.length c') (.slice b' e.length f') 26) := Y6.out.keep hb
              have R7 : Hid (Box w7 (w.heap.size + 1 + 1) (.slice none 0 0) (.slice none 0 0) 26) := R6.out.keep hb
              have HB7 : Hid (Below w.heap.size w w7) := bTrans HB6.out hb
              have S17 : Hid (w1.heap.size ≤ w7.heap.size) := Nat.le_trans S16.out hb.size
              have I7 : Hid (Ints w7 a6 P) := I6.out.keep hb
              have HC7 := HCD.out w7 w6.heap.size a6 c6 HB7.out C7.out L7.out I7.out
              have HC8 : Hid (Calls _ _ _ _ _) := HC7
              subst hW
              have y0 := Y7.out.c0
              have y1 := Y7.out.c1
              clear HC7 HCD hb C7 X6 Y6 R6 HB6 I6 I7
              go_wp2_with fail
              refine (HC8.out).mono ?_
              rintro r w8 ⟨v8, rfl, ha, hb⟩
              obtain ⟨eS, eD⟩ := EE.out
              obtain ⟨a8, c8, b8, f8, rfl, _, _, _, _⟩ := ha.arrI
              have ES : Hid (S = tot d NN :: t' ∧ D = copyD d t e) := ⟨eS, eD⟩
              rw [← eS, ← eD] at ha ⊢
              have HA8 : Hid (Arr w1.heap.size w8.heap.size w8 (.agg #[.slice a8 S.length c8, .slice b8 D.length f8]) S D) := ha.mono S17.out (Nat.le_refl _)
              have R8 : Hid (Box w8 (w.heap.size + 1 + 1) (.slice none 0 0) (.slice none 0 0) 26) := R7.out.keep hb
              have HB8 : Hid (Below w.heap.size w w8) := bTrans HB7.out hb
              clear ha hb HC8 y0 y1 eS eD X7 Y7 R7 HB7
              have y0 := R8.out.c0
              have y1 := R8.out.c1
              have f0 : w8.frozen? ⟨w.heap.size + 1 + 1, 0, none⟩ = false := free_at R8.out 0
              have f1 : w8.frozen? ⟨w.heap.size + 1 + 1, 1, none⟩ = false := free_at R8.out 1
              have HR : Hid (((w8.setCell ⟨w.heap.size + 1 + 1, 0, none⟩ (.slice a8 S.length c8)).setCell ⟨w.heap.size + 1 + 1, 1, none⟩ (.slice b8 D.length f8)).heap[w.heap.size + 1 + 1]? = some (.cells #[.slice a8 S.length c8, .slice b8 D.length f8] 26 (0, 0))) := arr_stored R8.out
              go_wp2
              refine bodyPost_ret (results_arr_tmp Try.results12 _ _ (w.heap.size + 1 + 1) _ _ rfl HR.out) rfl ?_
              refine ⟨_, rfl, ?_, below_setCell (below_setCell HB8.out (by omega) _ _) (by omega) _ _⟩
              have L := LT.out
              exact ((HA8.out.setCell L _ _).setCell L _ _).mono (by omega) (by simp [size_setCell])
            · have hdz : decide (0 ≤ sizeV SH) = false := by simpa using hz
              rw [hdz]
              obtain ⟨rfl, rfl, rfl⟩ := E6.out EAN.out (by rw [← HSH.out]; omega)
              clear E2 E6 E0 hdz HCH hz
              have y0 := R5.out.c0
              have y1 := R5.out.c1
              have f0 : w5.frozen? ⟨w.heap.size + 1 + 1, 0, none⟩ = false := free_at R5.out 0
              have f1 : w5.frozen? ⟨w.heap.size + 1 + 1, 1, none⟩ = false := free_at R5.out 1
              have HR : Hid (((w5.setCell ⟨w.heap.size + 1 + 1, 0, none⟩ (.slice none 0 0)).setCell ⟨w.heap.size + 1 + 1, 1, none⟩ (.slice none 0 0)).heap[w.heap.size + 1 + 1]? = some (.cells #[.slice none 0 0, .slice none 0 0] 26 (0, 0))) := arr_stored R5.out
              go_wp2
              refine bodyPost_ret (results_arr_tmp Try.results12 _ _ (w.heap.size + 1 + 1) _ _ rfl HR.out) rfl ?_
              exact ⟨_, rfl, arr_zero _ _ _, below_setCell (below_setCell HB5.out (by omega) _ _) (by omega) _ _⟩
  · obtain ⟨rfl, rfl, rfl⟩ := E1.out ho
    have hoo : (arrOk s d && arrOk t e) = false := by
      cases h1 : arrOk s d <;> cases h2 : arrOk t e <;> simp_all
    rw [hoo] at HOK
    clear E1 ho hoo hx hS hD
    go_enter Try.func12, Try.ntmps12
    go_wp2_with fail
    refine (HOK.out _ _ (bAlloc (bAlloc (bAlloc (bAlloc (Below.refl _ _) _) _) _) _) (by exact (four5 w _ _ _ _).2.2.2)).mono ?_
    rintro r w1 ⟨rfl, hb⟩
    have q4 := four5 w (.cells #[.slice a s.length c, .slice b d.length f] 26) (.cells #[.slice a' t.length c', .slice b' e.length f'] 26) (.cells #[.slice none 0 0, .slice none 0 0] 26) (.cells #[.slice a s.length c, .slice b d.length f, .slice a' t.length c', .slice b' e.length f'] 26)
    have HB1 : Hid (Below w.heap.size w w1) := bTrans (bAlloc (bAlloc (bAlloc (bAlloc (Below.refl _ _) _) _) _) _) hb
    have X1 : Hid (Box w1 w.heap.size (.slice a s.length c) (.slice b d.length f) 26) := Box.keep q4.1 hb
    have Y1 : Hid (Box w1 (w.heap.size + 1) (.slice a' t.length c') (.slice b' e.length f') 26) := Box.keep q4.2.1 hb
    have R1 : Hid (Box w1 (w.heap.size + 1 + 1) (.slice none 0 0) (.slice none 0 0) 26) := Box.keep q4.2.2.1 hb
    have LT : Hid (w.heap.size + 1 + 1 < w1.heap.size) := R1.out.lt
    clear hb q4 HOK
    have x0 := X1.out.c0
    have z0 := Y1.out.c0
    have y0 := R1.out.c0
    have y1 := R1.out.c1
    have f0 : w1.frozen? ⟨w.heap.size + 1 + 1, 0, none⟩ = false := free_at R1.out 0
    have f1 : w1.frozen? ⟨w.heap.size + 1 + 1, 1, none⟩ = false := free_at R1.out 1
    have HR : Hid (((w1.setCell ⟨w.heap.size + 1 + 1, 0, none⟩ (.slice none 0 0)).setCell ⟨w.heap.size + 1 + 1, 1, none⟩ (.slice none 0 0)).heap[w.heap.size + 1 + 1]? = some (.cells #[.slice none 0 0, .slice none 0 0] 26 (0, 0))) := arr_stored R1.out
    go_wp2
    refine bodyPost_ret (results_arr_tmp Try.results12 _ _ (w.heap.size + 1 + 1) _ _ rfl HR.out) rfl ?_
    exact ⟨_, rfl, arr_zero _ _ _, below_setCell (below_setCell HB1.out (by omega) _ _) (by omega) _ _⟩
end Go.Proofs.Ytfmheanmkfdjnaq
