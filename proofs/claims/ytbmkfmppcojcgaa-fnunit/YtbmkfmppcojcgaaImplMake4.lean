/-
  Walks: the program's Reshape.
-/
import Derived.Test.YtbmkfmppcojcgaaImplMake3
import Derived.Test.YtbmkfmppcojcgaaPair5
namespace Go.Proofs.Ytbmkfmppcojcgaa
open Go.RowKit
set_option linter.unusedVariables false
set_option linter.unusedSimpArgs false
theorem againD_length (e : List Int) (n : Nat) : (againD e n).length = n := by simp [againD]
set_option maxRecDepth 20000 in
set_option maxHeartbeats 4000000 in
/-- Reshape. -/
theorem reshape_impl {s d t e : List Int} {w : World} {v u : Value} (h : ArrI w v s d) (k : ArrI w u t e) (hs : s.length ≤ 1048576) (hd : d.length ≤ 1048576) (ht : t.length ≤ 1048576) (he : e.length ≤ 1048576) :
    Calls Try.prog 113 #[v, u] w fun r w' => ∃ v', r = .returned (.tuple #[v', .int .i64 (reshapeR s d t e).1]) ∧ Arr w.heap.size w'.heap.size w' v' (reshapeR s d t e).2.1 (reshapeR s d t e).2.2 ∧ Below w.heap.size w w' := by
  have H : Hid (ArrI w v s d) := h
  have K : Hid (ArrI w u t e) := k
  obtain ⟨a, c, b, f, rfl, h1, h2, g1, g2⟩ := h
  obtain ⟨a', c', b', f', rfl, k1, k2, g3, g4⟩ := k
  have HOK : Hid (∀ (W : World) (o : Nat), Below w.heap.size w W → W.heap[o]? = some (.cells #[.slice a s.length c, .slice b d.length f, .slice a' t.length c', .slice b' e.length f'] 26 (0, 0)) → Calls Try.prog 33 #[.slice (some ⟨o, 0, none⟩) 2 2] W fun r w' => r = .returned (.bool (arrOk s d && arrOk t e)) ∧ Below W.heap.size W w') := fun W o hb ho => allOk2_impl (H.out.keep hb) (K.out.keep hb) hs hd ht he ho
  have HCF : Hid (∀ W, Below w.heap.size w W → Calls Try.prog 123 #[.slice b d.length f, .func (.func 124) #[] #[]] W fun r w' => r = .returned (.bool (d.any fun x => decide (x < 0))) ∧ w' = W) := fun W hb => containsBelow_impl (h2.keep hb) hd
  have HSO : Hid (∀ W, Below w.heap.size w W → Calls Try.prog 35 #[.slice b d.length f] W fun r w' => r = .returned (.bool (decide (0 ≤ sizeV d))) ∧ Below W.heap.size W w') := fun W hb => ok_impl f (h2.keep hb)
  have HCL : Hid (∀ W, Below w.heap.size w W → Calls Try.prog 68 #[.slice b d.length f] W fun r w' => ∃ a' c', r = .returned (.slice a' d.length c') ∧ Piece W.heap.size w'.heap.size w' (.slice a' d.length c') d ∧ Below W.heap.size W w') := fun W hb => copied_new (IntsI.keep ⟨b, f, rfl, g2, h2⟩ hb) hd
  have HSZ : Hid (∀ W, Below w.heap.size w W → Calls Try.prog 26 #[.slice b d.length f] W fun r w' => r = .returned (.int .i64 (sizeV d)) ∧ Below W.heap.size W w') := fun W hb => size_impl f (h2.keep hb)
  have HAG : Hid (0 ≤ sizeV d → ∀ W, Below w.heap.size w W → Calls Try.prog 125 #[.slice b' e.length f', .int .i64 (sizeV d)] W fun r w' => ∃ a' c', r = .returned (.slice a' (againD e (sizeV d).toNat).length c') ∧ Piece W.heap.size w'.heap.size w' (.slice a' (againD e (sizeV d).toNat).length c') (againD e (sizeV d).toNat) ∧ Below W.heap.size W w') := fun h0 W hb => by
    have hz := sizeV_bd d
    have q := again_impl (c := f') (n := (sizeV d).toNat) (k2.keep hb) he (by omega)
    rw [Int.toNat_of_nonneg h0] at q
    refine q.mono ?_
    rintro r w' ⟨rfl, ho, hb'⟩
    refine ⟨some ⟨W.heap.size, 0, none⟩, (sizeV d).toNat, by rw [againD_length], ?_, hb'⟩
    exact OwnInts.piece ho (Nat.le_refl _) (lt_of_heapA ho) _ (by rw [againD_length]; exact Nat.le_refl _)
  obtain ⟨x, hx⟩ : ∃ x, x = (reshapeR s d t e).1 := ⟨_, rfl⟩
  obtain ⟨S, hS⟩ : ∃ S, S = (reshapeR s d t e).2.1 := ⟨_, rfl⟩
  obtain ⟨D, hD⟩ : ∃ D, D = (reshapeR s d t e).2.2 := ⟨_, rfl⟩
  rw [← hx, ← hS, ← hD]
  have E1 : Hid ((arrOk s d && arrOk t e) = false → x = 1 ∧ S = [] ∧ D = []) := fun h => by
    rw [hx, hS, hD]; unfold reshapeR reshapeC; rw [if_neg (by intro q; rw [q.1, q.2] at h; cases h), mkR_bad (by decide)]; exact ⟨rfl, rfl, rfl⟩
  have E2 : Hid ((arrOk s d && arrOk t e) = true → 1 < s.length → x = 4 ∧ S = [] ∧ D = []) := fun h h1 => by
    rw [hx, hS, hD]; unfold reshapeR reshapeC; rw [if_pos (by simpa using h), if_pos h1, mkR_bad (by decide)]; exact ⟨rfl, rfl, rfl⟩
  have E3 : Hid ((arrOk s d && arrOk t e) = true → ¬ 1 < s.length → (d.any fun x => decide (x < 0)) = true → x = 2 ∧ S = [] ∧ D = []) := fun h h1 h2 => by
    rw [hx, hS, hD]; unfold reshapeR reshapeC; rw [if_pos (by simpa using h), if_neg h1, if_pos h2, mkR_bad (by decide)]; exact ⟨rfl, rfl, rfl⟩
  have E4 : Hid ((arrOk s d && arrOk t e) = true → ¬ 1 < s.length → (d.any fun x => decide (x < 0)) = false → sizeV d < 0 → x = 6 ∧ S = [] ∧ D = []) := fun h h1 h2 h3 => by
    rw [hx, hS, hD]; unfold reshapeR reshapeC; rw [if_pos (by simpa using h), if_neg h1, if_neg (by rw [h2]; simp), if_pos h3, mkR_bad (by decide)]; exact ⟨rfl, rfl, rfl⟩
  have E5 : Hid ((arrOk s d && arrOk t e) = true → ¬ 1 < s.length → (d.any fun x => decide (x < 0)) = false → 0 ≤ sizeV d → x = 0 ∧ S = d ∧ D = againD e (sizeV d).toNat) := fun h h1 h2 h3 => by
    rw [hx, hS, hD]; unfold reshapeR reshapeC; rw [if_pos (by simpa using h), if_neg h1, if_neg (by rw [h2]; simp), if_neg (by omega), mkR_good]; exact ⟨rfl, rfl, rfl⟩
  clear hx hS hD hs hd ht he h1 h2 k1 k2 g1 g2 g3 g4
  generalize (arrOk s d && arrOk t e) = q at *
  generalize (d.any fun x => decide (x < 0)) = m at *
  generalize againD e (sizeV d).toNat = A at *
  generalize sizeV d = z at *
  go_enter Try.func113, Try.ntmps113
  go_wp2_with fail
  refine (HOK.out _ _ (bAlloc (bAlloc (bAlloc (bAlloc (Below.refl _ _) _) _) _) _) (by exact (four5 w _ _ _ _).2.2.2)).mono ?_
  rintro r w1 ⟨rfl, hb⟩
  have q4 := four5 w (.cells #[.slice a s.length c, .slice b d.length f] 26) (.cells #[.slice a' t.length c', .slice b' e.length f'] 26) (.cells #[.slice none 0 0, .slice none 0 0] 26) (.cells #[.slice a s.length c, .slice b d.length f, .slice a' t.length c', .slice b' e.length f'] 26)
  have HB1 : Hid (Below w.heap.size w w1) := bTrans (bAlloc (bAlloc (bAlloc (bAlloc (Below.refl _ _) _) _) _) _) hb
  have X1 : Hid (Box w1 w.heap.size (.slice a s.length c) (.slice b d.length f) 26) := Box.keep q4.1 hb
  have Y1 : Hid (Box w1 (w.heap.size + 1) (.slice a' t.length c') (.slice b' e.length f') 26) := Box.keep q4.2.1 hb
  have R1 : Hid (Box w1 (w.heap.size + 1 + 1) (.slice none 0 0) (.slice none 0 0) 26) := Box.keep q4.2.2.1 hb
  clear hb q4
  cases q
  · obtain ⟨rfl, rfl, rfl⟩ := E1.out (by trivial)
    clear E1 E2 E3 E4 E5
    have y0 := R1.out.c0
    have y1 := R1.out.c1
    have f0 : w1.frozen? ⟨w.heap.size + 1 + 1, 0, none⟩ = false := free_at R1.out 0
    have f1 : w1.frozen? ⟨w.heap.size + 1 + 1, 1, none⟩ = false := free_at R1.out 1
    have HR : Hid (((w1.setCell ⟨w.heap.size + 1 + 1, 0, none⟩ (.slice none 0 0)).setCell ⟨w.heap.size + 1 + 1, 1, none⟩ (.slice none 0 0)).heap[w.heap.size + 1 + 1]? = some (.cells #[.slice none 0 0, .slice none 0 0] 26 (0, 0))) := arr_stored R1.out
    go_wp2
    refine bodyPost_ret (results_arr_tmp Try.results113 _ _ (w.heap.size + 1 + 1) _ _ rfl HR.out) rfl ?_
    exact ⟨_, rfl, arr_zero _ _ _, below_setCell (below_setCell HB1.out (by omega) _ _) (by omega) _ _⟩
  · have x0 := X1.out.c0
    by_cases hr : (1 : Int) < (s.length : Int)
    · obtain ⟨rfl, rfl, rfl⟩ := E2.out (by trivial) (by omega)
      clear E1 E2 E3 E4 E5
      have y0 := R1.out.c0
      have y1 := R1.out.c1
      have f0 : w1.frozen? ⟨w.heap.size + 1 + 1, 0, none⟩ = false := free_at R1.out 0
      have f1 : w1.frozen? ⟨w.heap.size + 1 + 1, 1, none⟩ = false := free_at R1.out 1
      have HR : Hid (((w1.setCell ⟨w.heap.size + 1 + 1, 0, none⟩ (.slice none 0 0)).setCell ⟨w.heap.size + 1 + 1, 1, none⟩ (.slice none 0 0)).heap[w.heap.size + 1 + 1]? = some (.cells #[.slice none 0 0, .slice none 0 0] 26 (0, 0))) := arr_stored R1.out
      go_wp2
      refine bodyPost_ret (results_arr_tmp Try.results113 _ _ (w.heap.size + 1 + 1) _ _ rfl HR.out) rfl ?_
      exact ⟨_, rfl, arr_zero _ _ _, below_setCell (below_setCell HB1.out (by omega) _ _) (by omega) _ _⟩
    · have x1 := X1.out.c1
      have E3' : Hid (m = true → x = 2 ∧ S = [] ∧ D = []) := E3.out (by trivial) (by omega)
      have E4' : Hid (m = false → z < 0 → x = 6 ∧ S = [] ∧ D = []) := E4.out (by trivial) (by omega)
      have E5' : Hid (m = false → 0 ≤ z → x = 0 ∧ S = d ∧ D = A) := E5.out (by trivial) (by omega)
      clear E1 E2 E3 E4 E5
      go_wp2_with fail
      refine (HCF.out _ HB1.out).mono ?_
      rintro r w2 ⟨rfl, hw⟩
      subst w2
      cases m
      · go_wp2_with fail
        refine (HSO.out _ HB1.out).mono ?_
        rintro r w2 ⟨rfl, hb⟩
        have HB2 : Hid (Below w.heap.size w w2) := bTrans HB1.out hb
        have X2 : Hid (Box w2 w.heap.size (.slice a s.length c) (.slice b d.length f) 26) := X1.out.keep hb
        have Y2 : Hid (Box w2 (w.heap.size + 1) (.slice a' t.length c') (.slice b' e.length f') 26) := Y1.out.keep hb
        have R2 : Hid (Box w2 (w.heap.size + 1 + 1) (.slice none 0 0) (.slice none 0 0) 26) := R1.out.keep hb
        clear hb x0 x1 hr
        by_cases hz : 0 ≤ z
        · obtain ⟨rfl, eS, eD⟩ := E5'.out (by trivial) hz
          have ES : Hid (S = d ∧ D = A) := ⟨eS, eD⟩
          have HAG' := HAG.out hz
          have HAH : Hid (∀ W, Below w.heap.size w W → Calls Try.prog 125 #[.slice b' e.length f', .int .i64 z] W fun r w' => ∃ a' c', r = .returned (.slice a' A.length c') ∧ Piece W.heap.size w'.heap.size w' (.slice a' A.length c') A ∧ Below W.heap.size W w') := HAG'
          have hdz : decide (0 ≤ z) = true := by simpa using hz
          clear E3' E4' E5' eS eD HAG' HAG HSO HCF HOK hz
          rw [hdz]
          have x1 := X2.out.c1
          have y1 := Y2.out.c1
          have LT : Hid (w.heap.size + 1 + 1 < w2.heap.size) := R2.out.lt
          go_wp2
          go_region_held3 (fun w' => w'.cell? ⟨w.heap.size, 1, none⟩ = some (.slice b d.length f) ∧ w'.cell? ⟨w.heap.size + 1, 1, none⟩ = some (.slice b' e.length f'))
            (first | exact ⟨z0 _ _, z1 _ _⟩ | exact ⟨q0, q1⟩ | exact ⟨p0, p1⟩ | exact ⟨v0, v1⟩ | exact ⟨x1, y1⟩)
            (first
              | (go_at_call_of 68 (Value.slice b d.length f); refine (HCL.out _ (bTrans HB2.out ((Below.refl w2.heap.size w2).drew))).mono ?_; rintro r w3 ⟨ax, cx, rfl, ha, hb⟩; have PX : Hid (Piece w2.heap.size w3.heap.size w3 (.slice ax d.length cx) d) := ha; have HB3 : Hid (Below w2.heap.size w2 w3) := bTrans ((Below.refl w2.heap.size w2).drew) hb; have v0 := (X2.out.keep HB3.out).c1; have v1 := (Y2.out.keep HB3.out).c1; clear ha hb)
              | (go_at_call_of 26 (Value.slice b d.length f); refine (HSZ.out _ (bTrans HB2.out HB3.out)).mono ?_; rintro r w4 ⟨rfl, hb⟩; have HB4 : Hid (Below w2.heap.size w2 w4) := bTrans HB3.out hb; have PX4 : Hid (Piece w2.heap.size w3.heap.size w4 (.slice ax d.length cx) d) := PX.out.keep hb; have S34 : Hid (w3.heap.size ≤ w4.heap.size) := hb.size; have p0 := (X2.out.keep HB4.out).c1; have p1 := (Y2.out.keep HB4.out).c1; clear hb)
              | (go_at_call_of 125 (Value.slice b' e.length f'); refine (HAH.out _ (bTrans HB2.out HB4.out)).mono ?_; rintro r w5 ⟨ay, cy, rfl, ha, hb⟩; have PY : Hid (Piece w4.heap.size w5.heap.size w5 (.slice ay A.length cy) A) := ha; have PX5 : Hid (Piece w2.heap.size w3.heap.size w5 (.slice ax d.length cx) d) := PX4.out.keep hb; have S45 : Hid (w4.heap.size ≤ w5.heap.size) := hb.size; have HB5 : Hid (Below w2.heap.size w2 w5) := bTrans HB4.out hb; have q0 := (X2.out.keep HB5.out).c1; have q1 := (Y2.out.keep HB5.out).c1; have r0 := (R2.out.keep HB5.out).c0; have r1 := (R2.out.keep HB5.out).c1; have f0 : w5.frozen? ⟨w.heap.size + 1 + 1, 0, none⟩ = false := free_at (R2.out.keep HB5.out) 0; have f1 : w5.frozen? ⟨w.heap.size + 1 + 1, 1, none⟩ = false := free_at (R2.out.keep HB5.out) 1; have zx : ∀ u v, Box ((w5.setCell ⟨w.heap.size + 1 + 1, 0, none⟩ u).setCell ⟨w.heap.size + 1 + 1, 1, none⟩ v) w.heap.size (.slice a s.length c) (.slice b d.length f) 26 := (fun u v => ((X2.out.keep HB5.out).win (win_setCell _ _ _ _) (.inl (by omega))).win (win_setCell _ _ _ _) (.inl (by omega))); have zy : ∀ u v, Box ((w5.setCell ⟨w.heap.size + 1 + 1, 0, none⟩ u).setCell ⟨w.heap.size + 1 + 1, 1, none⟩ v) (w.heap.size + 1) (.slice a' t.length c') (.slice b' e.length f') 26 := (fun u v => ((Y2.out.keep HB5.out).win (win_setCell _ _ _ _) (.inl (by omega))).win (win_setCell _ _ _ _) (.inl (by omega))); have z0 := (fun u v => (zx u v).c1); have z1 := (fun u v => (zy u v).c1); have HR : Hid (((w5.setCell ⟨w.heap.size + 1 + 1, 0, none⟩ (.slice ax d.length cx)).setCell ⟨w.heap.size + 1 + 1, 1, none⟩ (.slice ay A.length cy)).heap[w.heap.size + 1 + 1]? = some (.cells #[.slice ax d.length cx, .slice ay A.length cy] 26 (0, 0))) := arr_stored (R2.out.keep HB5.out); clear ha hb zx zy))
          go_wp2
          refine bodyPost_ret (results_arr_tmp Try.results113 _ _ (w.heap.size + 1 + 1) _ _ rfl HR.out) rfl ?_
          refine ⟨_, rfl, ?_, below_setCell (below_setCell (bTrans HB2.out HB5.out) (by omega) _ _) (by omega) _ _⟩
          have S1 := HB3.out.size
          have S2 := S34.out
          have S3 := S45.out
          have S4 := LT.out
          rw [ES.out.1, ES.out.2]
          have A2 : Arr w2.heap.size w5.heap.size w5 (.agg #[.slice ax d.length cx, .slice ay A.length cy]) d A := ⟨_, _, rfl, PX5.out.mono (Nat.le_refl _) (by omega), PY.out.mono (by omega) (Nat.le_refl _), PX5.out.apart PY.out (.inl (by omega))⟩
          exact ((A2.setCell S4 _ _).setCell S4 _ _).mono (by omega) (by simp [size_setCell])
        · obtain ⟨rfl, rfl, rfl⟩ := E4'.out (by trivial) (by omega)
          have hdz : decide (0 ≤ z) = false := by simpa using hz
          clear E3' E4' E5' hz
          rw [hdz]
          have y0 := R2.out.c0
          have y1 := R2.out.c1
          have f0 : w2.frozen? ⟨w.heap.size + 1 + 1, 0, none⟩ = false := free_at R2.out 0
          have f1 : w2.frozen? ⟨w.heap.size + 1 + 1, 1, none⟩ = false := free_at R2.out 1
          have HR : Hid (((w2.setCell ⟨w.heap.size + 1 + 1, 0, none⟩ (.slice none 0 0)).setCell ⟨w.heap.size + 1 + 1, 1, none⟩ (.slice none 0 0)).heap[w.heap.size + 1 + 1]? = some (.cells #[.slice none 0 0, .slice none 0 0] 26 (0, 0))) := arr_stored R2.out
          go_wp2
          refine bodyPost_ret (results_arr_tmp Try.results113 _ _ (w.heap.size + 1 + 1) _ _ rfl HR.out) rfl ?_
          exact ⟨_, rfl, arr_zero _ _ _, below_setCell (below_setCell HB2.out (by omega) _ _) (by omega) _ _⟩
      · obtain ⟨rfl, rfl, rfl⟩ := E3'.out (by trivial)
        clear E3' E4' E5' x0 x1 hr
        have y0 := R1.out.c0
        have y1 := R1.out.c1
        have f0 : w1.frozen? ⟨w.heap.size + 1 + 1, 0, none⟩ = false := free_at R1.out 0
        have f1 : w1.frozen? ⟨w.heap.size + 1 + 1, 1, none⟩ = false := free_at R1.out 1
        have HR : Hid (((w1.setCell ⟨w.heap.size + 1 + 1, 0, none⟩ (.slice none 0 0)).setCell ⟨w.heap.size + 1 + 1, 1, none⟩ (.slice none 0 0)).heap[w.heap.size + 1 + 1]? = some (.cells #[.slice none 0 0, .slice none 0 0] 26 (0, 0))) := arr_stored R1.out
        go_wp2
        refine bodyPost_ret (results_arr_tmp Try.results113 _ _ (w.heap.size + 1 + 1) _ _ rfl HR.out) rfl ?_
        exact ⟨_, rfl, arr_zero _ _ _, below_setCell (below_setCell HB1.out (by omega) _ _) (by omega) _ _⟩
end Go.Proofs.Ytbmkfmppcojcgaa
