/-
  Several texts, one behind the other: ImplMake4, NeutralI, ImplRed5.
-/
import Derived.Test.YtbmkfmppcojcgaaY25
import Derived.Test.YtbmkfmppcojcgaaY35
import Derived.Test.YtbmkfmppcojcgaaRows
import Derived.Test.YtbmkfmppcojcgaaY3
import Derived.WalkKit
import Derived.WalkSpells
import Derived.WalkLawsBesides
import Derived.Test.YtbmkfmppcojcgaaY17
namespace Go.Proofs.Ytbmkfmppcojcgaa
open Go.RowKit
set_option linter.unusedVariables false
set_option linter.unusedSimpArgs false
theorem againD_length (e : List Int) (n : Nat) : (againD e n).length = n := by simp [againD]
set_option maxRecDepth 20000 in
set_option maxHeartbeats 4000000 in
/-- Reshape. -/
theorem reshape_impl {s d t e : List Int} {w : World} {v u : Value} (h : ArrI w v s d) (k : ArrI w u t e) (hs : s.length ≤ 1048576) (hd : d.length ≤ 1048576) (ht : t.length ≤ 1048576) (he : e.length ≤ 1048576) :
    Calls Try.prog 113 #[v, u] w fun r w' => ∃ v', r = .returned (.tuple #[v', .int .i64 (reshapeR s d t e).1]) ∧ Arr w.heap.size w'.heap.size w' v' (reshapeR s d t e).2.1 (reshapeR s d t e).2.2 ∧ Below w.heap.size w w' := by
  have H : Hid (ArrI w v s d) := h
  have K : Hid (ArrI w u t e) := k
  obtain ⟨a, c, b, f, rfl, h1, h2, g1, g2⟩ := h
  obtain ⟨a', c', b', f', rfl, k1, k2, g3, g4⟩ := k
  have HOK : Hid (∀ (W : World) (o : Nat), Below w.heap.size w W → W.heap[o]? = some (.cells #[.slice a s.length c, .slice b d.length f, .slice a' t.length c', .slice b' e.length f'] 26 (0, 0)) → Calls Try.prog 33 #[.slice (some ⟨o, 0, none⟩) 2 2] W fun r w' => r = .returned (.bool (arrOk s d && arrOk t e)) ∧ Below W.heap.size W w') := fun W o hb ho => allOk2_impl (H.out.keep hb) (K.out.keep hb) hs hd ht he ho
  have HCF : Hid (∀ W, Below w.heap.size w W → Calls Try.prog 123 #[.slice b d.length f, .func (.func 124) #[] #[]] W fun r w' => r = .returned (.bool (d.any fun x => decide (x < 0))) ∧ w' = W) := fun W hb => containsBelow_impl (h2.keep hb) hd
  have HSO : Hid (∀ W, Below w.heap.size w W → Calls Try.prog 35 #[.slice b d.length f] W fun r w' => r = .returned (.bool (decide (0 ≤ sizeV d))) ∧ Below W.heap.size W w') := fun W hb => ok_impl f (h2.keep hb)
  have HCL : Hid (∀ W, Below w.heap.size w W → Calls Try.prog 68 #[.slice b d.length f] W fun r w' => ∃ a' c', r = .returned (.slice a' d.length c') ∧ Piece W.heap.size w'.heap.size w' (.slice a' d.length c') d ∧ Below W.heap.size W w') := fun W hb => copied_new (IntsI.keep ⟨b, f, rfl, g2, h2⟩ hb) hd
  have HSZ : Hid (∀ W, Below w.heap.size w W → Calls Try.prog 26 #[.slice b d.length f] W fun r w' => r = .returned (.int .i64 (sizeV d)) ∧ Below W.heap.size W w') := fun W hb => size_impl f (h2.keep hb)
  have HAG : Hid (0 ≤ sizeV d → ∀ W, Below w.heap.size w W → Calls Try.prog 125 #[.slice b' e.length f', .int .i64 (sizeV d)] W fun r w' => ∃ a' c', r = .returned (.slice a' (againD e (sizeV d).toNat).length c') ∧ Piece W.heap.size w'.heap.size w' (.slice a' (againD e (sizeV d).toNat).length c') (againD e (sizeV d).toNat) ∧ Below W.heap.size W w') := fun h0 W hb => by
    have hz := sizeV_bd d
    have q := again_impl (c := f') (n := (sizeV d).toNat) (k2.keep hb) he (by omega)
    rw [Int.toNat_of_nonneg h0] at q
    refine q.mono ?_
    rintro r w' ⟨rfl, ho, hb'⟩
    refine ⟨some ⟨W.heap.size, 0, none⟩, (sizeV d).toNat, by rw [againD_length], ?_, hb'⟩
    exact OwnInts.piece ho (Nat.le_refl _) (lt_of_heapA ho) _ (by rw [againD_length]; exact Nat.le_refl _)
  obtain ⟨x, hx⟩ : ∃ x, x = (reshapeR s d t e).1 := ⟨_, rfl⟩
  obtain ⟨S, hS⟩ : ∃ S, S = (reshapeR s d t e).2.1 := ⟨_, rfl⟩
  obtain ⟨D, hD⟩ : ∃ D, D = (reshapeR s d t e).2.2 := ⟨_, rfl⟩
  rw [← hx, ← hS, ← hD]
  have E1 : Hid ((arrOk s d && arrOk t e) = false → x = 1 ∧ S = [] ∧ D = []) := fun h => by
    rw [hx, hS, hD]; unfold reshapeR reshapeC; rw [if_neg (by intro q; rw [q.1, q.2] at h; cases h), mkR_bad (by decide)]; exact ⟨rfl, rfl, rfl⟩
  have E2 : Hid ((arrOk s d && arrOk t e) = true → 1 < s.length → x = 4 ∧ S = [] ∧ D = []) := fun h h1 => by
    rw [hx, hS, hD]; unfold reshapeR reshapeC; rw [if_pos (by simpa using h), if_pos h1, mkR_bad (by decide)]; exact ⟨rfl, rfl, rfl⟩
  have E3 : Hid ((arrOk s d && arrOk t e) = true → ¬ 1 < s.length → (d.any fun x => decide (x < 0)) = true → x = 2 ∧ S = [] ∧ D = []) := fun h h1 h2 => by
    rw [hx, hS, hD]; unfold reshapeR reshapeC; rw [if_pos (by simpa using h), if_neg h1, if_pos h2, mkR_bad (by decide)]; exact ⟨rfl, rfl, rfl⟩
  have E4 : Hid ((arrOk s d && arrOk t e) = true → ¬ 1 < s.length → (d.any fun x => decide (x < 0)) = false → sizeV d < 0 → x = 6 ∧ S = [] ∧ D = []) := fun h h1 h2 h3 => by
    rw [hx, hS, hD]; unfold reshapeR reshapeC; rw [if_pos (by simpa using h), if_neg h1, if_neg (by rw [h2]; simp), if_pos h3, mkR_bad (by decide)]; exact ⟨rfl, rfl, rfl⟩
  have E5 : Hid ((arrOk s d && arrOk t e) = true → ¬ 1 < s.length → (d.any fun x => decide (x < 0)) = false → 0 ≤ sizeV d → x = 0 ∧ S = d ∧ D = againD e (sizeV d).toNat) := fun h h1 h2 h3 => by
    rw [hx, hS, hD]; unfold reshapeR reshapeC; rw [if_pos (by simpa using h), if_neg h1, if_neg (by rw [h2]; simp), if_neg (by omega), mkR_good]; exact ⟨rfl, rfl, rfl⟩
  clear hx hS hD hs hd ht he h1 h2 k1 k2 g1 g2 g3 g4
  generalize (arrOk s d && arrOk t e) = q at *
  generalize (d.any fun x => decide (x < 0)) = m at *
  generalize againD e (sizeV d).toNat = A at *
  generalize sizeV d = z at *
  go_enter Try.func113, Try.ntmps113
  go_wp2_with fail
  refine (HOK.out _ _ (bAlloc (bAlloc (bAlloc (bAlloc (Below.refl _ _) _) _) _) _) (by exact (four5 w _ _ _ _).2.2.2)).mono ?_
  rintro r w1 ⟨rfl, hb⟩
  have q4 := four5 w (.cells #[.slice a s.length c, .slice b d.length f] 26) (.cells #[.slice a' t.length c', .slice b' e.length f'] 26) (.cells #[.slice none 0 0, .slice none 0 0] 26) (.cells #[.slice a s.length c, .slice b d.length f, .slice a' t.length c', .slice b' e.length f'] 26)
  have HB1 : Hid (Below w.heap.size w w1) := bTrans (bAlloc (bAlloc (bAlloc (bAlloc (Below.refl _ _) _) _) _) _) hb
  have X1 : Hid (Box w1 w.heap.size (.slice a s.length c) (.slice b d.length f) 26) := Box.keep q4.1 hb
  have Y1 : Hid (Box w1 (w.heap.size + 1) (.slice a' t.length c') (.slice b' e.length f') 26) := Box.keep q4.2.1 hb
  have R1 : Hid (Box w1 (w.heap.size + 1 + 1) (.slice none 0 0) (.slice none 0 0) 26) := Box.keep q4.2.2.1 hb
  clear hb q4
  cases q
  · obtain ⟨rfl, rfl, rfl⟩ := E1.out (by trivial)
    clear E1 E2 E3 E4 E5
    have y0 := R1.out.c0
    have y1 := R1.out.c1
    have f0 : w1.frozen? ⟨w.heap.size + 1 + 1, 0, none⟩ = false := free_at R1.out 0
    have f1 : w1.frozen? ⟨w.heap.size + 1 + 1, 1, none⟩ = false := free_at R1.out 1
    have HR : Hid (((w1.setCell ⟨w.heap.size + 1 + 1, 0, none⟩ (.slice none 0 0)).setCell ⟨w.heap.size + 1 + 1, 1, none⟩ (.slice none 0 0)).heap[w.heap.size + 1 + 1]? = some (.cells #[.slice none 0 0, .slice none 0 0] 26 (0, 0))) := arr_stored R1.out
    go_wp2
    refine bodyPost_ret (results_arr_tmp Try.results113 _ _ (w.heap.size + 1 + 1) _ _ rfl HR.out) rfl ?_
    exact ⟨_, rfl, arr_zero _ _ _, below_setCell (below_setCell HB1.out (by omega) _ _) (by omega) _ _⟩
  · have x0 := X1.out.c0
    by_cases hr : (1 : Int) < (s.length : Int)
    · obtain ⟨rfl, rfl, rfl⟩ := E2.out (by trivial) (by omega)
      clear E1 E2 E3 E4 E5
      have y0 := R1.out.c0
      have y1 := R1.out.c1
      have f0 : w1.frozen? ⟨w.heap.size + 1 + 1, 0, none⟩ = false := free_at R1.out 0
      have f1 : w1.frozen? ⟨w.heap.size + 1 + 1, 1, none⟩ = false := free_at R1.out 1
      have HR : Hid (((w1.setCell ⟨w.heap.size + 1 + 1, 0, none⟩ (.slice none 0 0)).setCell ⟨w.heap.size + 1 + 1, 1, none⟩ (.slice none 0 0)).heap[w.heap.size + 1 + 1]? = some (.cells #[.slice none 0 0, .slice none 0 0] 26 (0, 0))) := arr_stored R1.out
      go_wp2
      refine bodyPost_ret (results_arr_tmp Try.results113 _ _ (w.heap.size + 1 + 1) _ _ rfl HR.out) rfl ?_
      exact ⟨_, rfl, arr_zero _ _ _, below_setCell (below_setCell HB1.out (by omega) _ _) (by omega) _ _⟩
    · have x1 := X1.out.c1
      have E3' : Hid (m = true → x = 2 ∧ S = [] ∧ D = []) := E3.out (by trivial) (by omega)
      have E4' : Hid (m = false → z < 0 → x = 6 ∧ S = [] ∧ D = []) := E4.out (by trivial) (by omega)
      have E5' : Hid (m = false → 0 ≤ z → x = 0 ∧ S = d ∧ D = A) := E5.out (by trivial) (by omega)
      clear E1 E2 E3 E4 E5
      go_wp2_with fail
      refine (HCF.out _ HB1.out).mono ?_
      rintro r w2 ⟨rfl, hw⟩
      subst w2
      cases m
      · go_wp2_with fail
        refine (HSO.out _ HB1.out).mono ?_
        rintro r w2 ⟨rfl, hb⟩
        have HB2 : Hid (Below w.heap.size w w2) := bTrans HB1.out hb
        have X2 : Hid (Box w2 w.heap.size (.slice a s.length c) (.slice b d.length f) 26) := X1.out.keep hb
        have Y2 : Hid (Box w2 (w.heap.size + 1) (.slice a' t.length c') (.slice b' e.length f') 26) := Y1.out.keep hb
        have R2 : Hid (Box w2 (w.heap.size + 1 + 1) (.slice none 0 0) (.slice none 0 0) 26) := R1.out.keep hb
        clear hb x0 x1 hr
        by_cases hz : 0 ≤ z
        · obtain ⟨rfl, eS, eD⟩ := E5'.out (by trivial) hz
          have ES : Hid (S = d ∧ D = A) := ⟨eS, eD⟩
          have HAG' := HAG.out hz
          have HAH : Hid (∀ W, Below w.heap.size w W → Calls Try.prog 125 #[.slice b' e.length f', .int .i64 z] W fun r w' => ∃ a' c', r = .returned (.slice a' A.length c') ∧ Piece W.heap.size w'.heap.size w' (.slice a' A.length c') A ∧ Below W.heap.size W w') := HAG'
          have hdz : decide (0 ≤ z) = true := by simpa using hz
          clear E3' E4' E5' eS eD HAG' HAG HSO HCF HOK hz
          rw [hdz]
          have x1 := X2.out.c1
          have y1 := Y2.out.c1
          have LT : Hid (w.heap.size + 1 + 1 < w2.heap.size) := R2.out.lt
          go_wp2
          go_region_held3 (fun w' => w'.cell? ⟨w.heap.size, 1, none⟩ = some (.slice b d.length f) ∧ w'.cell? ⟨w.heap.size + 1, 1, none⟩ = some (.slice b' e.length f'))
            (first | exact ⟨z0 _ _, z1 _ _⟩ | exact ⟨q0, q1⟩ | exact ⟨p0, p1⟩ | exact ⟨v0, v1⟩ | exact ⟨x1, y1⟩)
            (first
              | (go_at_call_of 68 (Value.slice b d.length f); refine (HCL.out _ (bTrans HB2.out ((Below.refl w2.heap.size w2).drew))).mono ?_; rintro r w3 ⟨ax, cx, rfl, ha, hb⟩; have PX : Hid (Piece w2.heap.size w3.heap.size w3 (.slice ax d.length cx) d) := ha; have HB3 : Hid (Below w2.heap.size w2 w3) := bTrans ((Below.refl w2.heap.size w2).drew) hb; have v0 := (X2.out.keep HB3.out).c1; have v1 := (Y2.out.keep HB3.out).c1; clear ha hb)
              | (go_at_call_of 26 (Value.slice b d.length f); refine (HSZ.out _ (bTrans HB2.out HB3.out)).mono ?_; rintro r w4 ⟨rfl, hb⟩; have HB4 : Hid (Below w2.heap.size w2 w4) := bTrans HB3.out hb; have PX4 : Hid (Piece w2.heap.size w3.heap.size w4 (.slice ax d.length cx) d) := PX.out.keep hb; have S34 : Hid (w3.heap.size ≤ w4.heap.size) := hb.size; have p0 := (X2.out.keep HB4.out).c1; have p1 := (Y2.out.keep HB4.out).c1; clear hb)
              | (go_at_call_of 125 (Value.slice b' e.length f'); refine (HAH.out _ (bTrans HB2.out HB4.out)).mono ?_; rintro r w5 ⟨ay, cy, rfl, ha, hb⟩; have PY : Hid (Piece w4.heap.size w5.heap.size w5 (.slice ay A.length cy) A) := ha; have PX5 : Hid (Piece w2.heap.size w3.heap.size w5 (.slice ax d.length cx) d) := PX4.out.keep hb; have S45 : Hid (w4.heap.size ≤ w5.heap.size) := hb.size; have HB5 : Hid (Below w2.heap.size w2 w5) := bTrans HB4.out hb; have q0 := (X2.out.keep HB5.out).c1; have q1 := (Y2.out.keep HB5.out).c1; have r0 := (R2.out.keep HB5.out).c0; have r1 := (R2.out.keep HB5.out).c1; have f0 : w5.frozen? ⟨w.heap.size + 1 + 1, 0, none⟩ = false := free_at (R2.out.keep HB5.out) 0; have f1 : w5.frozen? ⟨w.heap.size + 1 + 1, 1, none⟩ = false := free_at (R2.out.keep HB5.out) 1; have zx : ∀ u v, Box ((w5.setCell ⟨w.heap.size + 1 + 1, 0, none⟩ u).setCell ⟨w.heap.size + 1 + 1, 1, none⟩ v) w.heap.size (.slice a s.length c) (.slice b d.length f) 26 := (fun u v => ((X2.out.keep HB5.out).win (win_setCell _ _ _ _) (.inl (by omega))).win (win_setCell _ _ _ _) (.inl (by omega))); have zy : ∀ u v, Box ((w5.setCell ⟨w.heap.size + 1 + 1, 0, none⟩ u).setCell ⟨w.heap.size + 1 + 1, 1, none⟩ v) (w.heap.size + 1) (.slice a' t.length c') (.slice b' e.length f') 26 := (fun u v => ((Y2.out.keep HB5.out).win (win_setCell _ _ _ _) (.inl (by omega))).win (win_setCell _ _ _ _) (.inl (by omega))); have z0 := (fun u v => (zx u v).c1); have z1 := (fun u v => (zy u v).c1); have HR : Hid (((w5.setCell ⟨w.heap.size + 1 + 1, 0, none⟩ (.slice ax d.length cx)).setCell ⟨w.heap.size + 1 + 1, 1, none⟩ (.slice ay A.length cy)).heap[w.heap.size + 1 + 1]? = some (.cells #[.slice ax d.length cx, .slice ay A.length cy] 26 (0, 0))) := arr_stored (R2.out.keep HB5.out); clear ha hb zx zy))
          go_wp2
          refine bodyPost_ret (results_arr_tmp Try.results113 _ _ (w.heap.size + 1 + 1) _ _ rfl HR.out) rfl ?_
          refine ⟨_, rfl, ?_, below_setCell (below_setCell (bTrans HB2.out HB5.out) (by omega) _ _) (by omega) _ _⟩
          have S1 := HB3.out.size
          have S2 := S34.out
          have S3 := S45.out
          have S4 := LT.out
          rw [ES.out.1, ES.out.2]
          have A2 : Arr w2.heap.size w5.heap.size w5 (.agg #[.slice ax d.length cx, .slice ay A.length cy]) d A := ⟨_, _, rfl, PX5.out.mono (Nat.le_refl _) (by omega), PY.out.mono (by omega) (Nat.le_refl _), PX5.out.apart PY.out (.inl (by omega))⟩
          exact ((A2.setCell S4 _ _).setCell S4 _ _).mono (by omega) (by simp [size_setCell])
        · obtain ⟨rfl, rfl, rfl⟩ := E4'.out (by trivial) (by omega)
          have hdz : decide (0 ≤ z) = false := by simpa using hz
          clear E3' E4' E5' hz
          rw [hdz]
          have y0 := R2.out.c0
          have y1 := R2.out.c1
          have f0 : w2.frozen? ⟨w.heap.size + 1 + 1, 0, none⟩ = false := free_at R2.out 0
          have f1 : w2.frozen? ⟨w.heap.size + 1 + 1, 1, none⟩ = false := free_at R2.out 1
          have HR : Hid (((w2.setCell ⟨w.heap.size + 1 + 1, 0, none⟩ (.slice none 0 0)).setCell ⟨w.heap.size + 1 + 1, 1, none⟩ (.slice none 0 0)).heap[w.heap.size + 1 + 1]? = some (.cells #[.slice none 0 0, .slice none 0 0] 26 (0, 0))) := arr_stored R2.out
          go_wp2
          refine bodyPost_ret (results_arr_tmp Try.results113 _ _ (w.heap.size + 1 + 1) _ _ rfl HR.out) rfl ?_
          exact ⟨_, rfl, arr_zero _ _ _, below_setCell (below_setCell HB2.out (by omega) _ _) (by omega) _ _⟩
      · obtain ⟨rfl, rfl, rfl⟩ := E3'.out (by trivial)
        clear E3' E4' E5' x0 x1 hr
        have y0 := R1.out.c0
        have y1 := R1.out.c1
        have f0 : w1.frozen? ⟨w.heap.size + 1 + 1, 0, none⟩ = false := free_at R1.out 0
        have f1 : w1.frozen? ⟨w.heap.size + 1 + 1, 1, none⟩ = false := free_at R1.out 1
        have HR : Hid (((w1.setCell ⟨w.heap.size + 1 + 1, 0, none⟩ (.slice none 0 0)).setCell ⟨w.heap.size + 1 + 1, 1, none⟩ (.slice none 0 0)).heap[w.heap.size + 1 + 1]? = some (.cells #[.slice none 0 0, .slice none 0 0] 26 (0, 0))) := arr_stored R1.out
        go_wp2
        refine bodyPost_ret (results_arr_tmp Try.results113 _ _ (w.heap.size + 1 + 1) _ _ rfl HR.out) rfl ?_
        exact ⟨_, rfl, arr_zero _ _ _, below_setCell (below_setCell HB1.out (by omega) _ _) (by omega) _ _⟩
end Go.Proofs.Ytbmkfmppcojcgaa
namespace Go.Proofs.Ytbmkfmppcojcgaa
open Go.RowKit
set_option maxHeartbeats 400000 in
theorem neutral_impl (s : Int) (w : World) :
    Calls Try.prog 112 #[.int .i64 s] w fun e w' => e = .returned (.tuple #[.int .i64 (neu s).1, .bool (neu s).2]) ∧ w' = w := by
  go_enter Try.func112, Try.ntmps112
  go_wp2
  all_goals
    go_ret2
    refine ⟨?_, rfl⟩
    simp_all [neu]
end Go.Proofs.Ytbmkfmppcojcgaa
namespace Go.Proofs.Ytbmkfmppcojcgaa
open Go.RowKit
set_option linter.unusedVariables false
set_option linter.unusedSimpArgs false
/-- A row of which there is none. -/
def redN (g : Int) (t : List Int) : Int × List Int × List Int := reshapeR [(t.length : Int)] t [] [(neu g).1]
def reduceR (g : Int) (s d : List Int) : Int × List Int × List Int := if sign2 g = true ∧ arrOk s d = true then (if s = [] then (0, [], d) else if 0 < s.getD 0 0 then mkR (redL g (s.drop 1) (rowsD s d)).1 (s.drop 1) (redL g (s.drop 1) (rowsD s d)).2 else redN g (s.drop 1)) else (1, [], [])
set_option maxRecDepth 20000 in
set_option maxHeartbeats 4000000 in
/-- neutralRow. -/
theorem neutralRow_impl {g : Int} {t : List Int} {w : World} {u : Value} (h : IntsI w u t) (ht : t.length ≤ 1000) :
    Calls Try.prog 90 #[.int .i64 g, u] w fun r w' => ∃ v', r = .returned (.tuple #[v', .int .i64 (redN g t).1]) ∧ Arr w.heap.size w'.heap.size w' v' (redN g t).2.1 (redN g t).2.2 ∧ Below w.heap.size w w' := by
  have H : Hid (IntsI w u t) := h
  have HRS : Hid (∀ W v o', ArrI W v [(t.length : Int)] t → Ints W (some ⟨o', 0, none⟩) [(neu g).1] → Calls Try.prog 113 #[v, .agg #[.slice none 0 0, .slice (some ⟨o', 0, none⟩) 1 1]] W fun r w' => ∃ v', r = .returned (.tuple #[v', .int .i64 (redN g t).1]) ∧ Arr W.heap.size w'.heap.size w' v' (redN g t).2.1 (redN g t).2.2 ∧ Below W.heap.size W w') := fun W v o' hv hi => reshape_impl hv ⟨none, 0, _, 1, rfl, .inl rfl, hi, Nat.le_refl _, Nat.le_refl _⟩ (by simp) (by omega) (by simp) (by simp)
  have HNE : Hid (∀ W, Calls Try.prog 112 #[.int .i64 g] W fun e w' => e = .returned (.tuple #[.int .i64 (neu g).1, .bool (neu g).2]) ∧ w' = W) := neutral_impl g
  obtain ⟨a, c, rfl, _, _⟩ := h
  have HVC : Hid (∀ W, Below w.heap.size w W → Calls Try.prog 114 #[.slice a t.length c] W fun r w' => ∃ v', r = .returned v' ∧ Arr W.heap.size w'.heap.size w' v' [(t.length : Int)] t ∧ Below W.heap.size W w') := fun W hb => vecCopy_impl (H.out.keep hb) (by omega)
  generalize (neu g).1 = x at *
  generalize (neu g).2 = y at *
  generalize redN g t = RR at *
  obtain ⟨C, S, D⟩ := RR
  simp only at HRS ⊢
  clear ht
  go_enter Try.func90, Try.ntmps90
  go_wp2_with fail
  refine (HNE.out _).mono ?_
  rintro r w1 ⟨rfl, hw1⟩
  subst hw1
  go_wp2_with fail
  refine (HVC.out _ (bAlloc (Below.refl _ _) _)).mono ?_
  rintro r w2 ⟨v2, rfl, ha, hb⟩
  obtain ⟨xa, xc, ya, yc, rfl, _, _, _, _⟩ := ha.arrI
  have B2 : Hid (Below w.heap.size w w2) := bTrans (bAlloc (Below.refl _ _) _) hb
  have Y2 : Hid (Box w2 w.heap.size (.slice none 0 0) (.slice none 0 0) 26) := (box_new w _ _ _).keep hb
  have A2 : Hid (ArrI w2 (.agg #[.slice xa [(t.length : Int)].length xc, .slice ya t.length yc]) [(t.length : Int)] t) := ha.arrI
  clear ha hb
  have I2 : Hid (Ints (w2.alloc (.cells #[.int .i64 x] 3)) (some ⟨w2.heap.size, 0, none⟩) [x]) := ints_new w2 [x] 3
  go_wp2_with fail
  refine (HRS.out _ _ _ (A2.out.keep (bAlloc (Below.refl _ _) _)) I2.out).mono ?_
  rintro r w3 ⟨v3, rfl, ha, hb⟩
  obtain ⟨ua, uc, va, vc, rfl, _, _, _, _⟩ := ha.arrI
  have hb2 : Below w2.heap.size w2 w3 := bTrans (bAlloc (Below.refl _ _) _) hb
  have B3 : Hid (Below w.heap.size w w3) := bTrans B2.out hb2
  have Y3 : Hid (Box w3 w.heap.size (.slice none 0 0) (.slice none 0 0) 26) := Y2.out.keep hb2
  have A3 : Hid (Arr w2.heap.size w3.heap.size w3 (.agg #[.slice ua S.length uc, .slice va D.length vc]) S D) := ha.mono (by simp) (Nat.le_refl _)
  clear ha hb hb2
  have y3 := Y3.out.c0
  have y4 := Y3.out.c1
  have f0 := free_at Y3.out 0
  have f1 := free_at Y3.out 1
  have HRR : Hid (_ = _) := arr_stored (x' := .slice ua S.length uc) (y' := .slice va D.length vc) Y3.out
  go_wp2
  refine bodyPost_ret (results_arr_tmp Try.results90 _ _ w.heap.size _ _ rfl HRR.out) rfl ?_
  refine ⟨_, rfl, ?_, below_setCell (below_setCell B3.out (Nat.le_refl _) _ _) (Nat.le_refl _) _ _⟩
  have L := Y2.out.lt
  exact ((A3.out.setCell (by omega) _ _).setCell (by omega) _ _).mono (by omega) (by simp only [size_setCell]; omega)
/-- Behind the stores of an answer, in whichever order they were done. -/
theorem red0_end {w W : World} {N0 B : Nat} {x y : Value} {C : Int} {S D : List Int} (hB : Below N0 w W) (h1 : Box W (N0 + 1) (.slice none 0 0) (.slice none 0 0) 26) (h2 : W.heap[N0 + 2]? = some (.cells #[.int .i64 0] 3 (0, 0))) (ha : Arr B W.heap.size W (.agg #[x, y]) S D) (hN : N0 + 3 ≤ B) :
    (∀ V, V = (((W.setCell ⟨N0 + 1, 0, none⟩ x).setCell ⟨N0 + 1, 1, none⟩ y).setCell ⟨N0 + 1 + 1, 0, none⟩ (.int .i64 C)) ∨ V = (((W.setCell ⟨N0 + 1 + 1, 0, none⟩ (.int .i64 C)).setCell ⟨N0 + 1, 0, none⟩ x).setCell ⟨N0 + 1, 1, none⟩ y) →
      V.heap[N0 + 1]? = some (.cells #[x, y] 26 (0, 0)) ∧ V.cell? ⟨N0 + 1 + 1, 0, none⟩ = some (.int .i64 C) ∧ Arr N0 V.heap.size V (.agg #[x, y]) S D ∧ Below N0 w V) := by
  rintro V (rfl | rfl)
  · refine ⟨?_, ?_, ?_, ?_⟩
    · have q : Box ((W.setCell ⟨N0 + 1, 0, none⟩ x).setCell ⟨N0 + 1, 1, none⟩ y) (N0 + 1) x y 26 := arr_stored h1
      exact q.win (win_setCell _ (N0 + 1 + 1) 0 _) (.inl (by omega))
    · have q : ((W.setCell ⟨N0 + 1, 0, none⟩ x).setCell ⟨N0 + 1, 1, none⟩ y).heap[N0 + 1 + 1]? = some (.cells #[.int .i64 0] 3 (0, 0)) := by
        rw [heap_setCell_other _ _ _ _ (by show N0 + 1 + 1 ≠ N0 + 1; omega), heap_setCell_other _ _ _ _ (by show N0 + 1 + 1 ≠ N0 + 1; omega)]
        exact h2
      exact cell_at (heap_setCell_same _ (N0 + 1 + 1) 0 _ _ (.int .i64 C) q) rfl
    · exact (((ha.setCell (by omega) _ _).setCell (by omega) _ _).setCell (by omega) _ _).mono (by omega) (by simp only [size_setCell]; exact Nat.le_refl _)
    · exact below_setCell (below_setCell (below_setCell hB (by omega) _ _) (by omega) _ _) (by omega) _ _
  · have q0 := heap_setCell_same W (N0 + 1 + 1) 0 _ _ (.int .i64 C) h2
    have b1 : Box (W.setCell ⟨N0 + 1 + 1, 0, none⟩ (.int .i64 C)) (N0 + 1) (.slice none 0 0) (.slice none 0 0) 26 := h1.win (win_setCell _ (N0 + 1 + 1) 0 _) (.inl (by omega))
    refine ⟨arr_stored b1, ?_, ?_, ?_⟩
    · refine cell_at (cs := (#[Value.int .i64 0].set 0 (.int .i64 C))) (t := 3) (fr := (0, 0)) ?_ rfl
      rw [heap_setCell_other _ _ _ _ (by show N0 + 1 + 1 ≠ N0 + 1; omega), heap_setCell_other _ _ _ _ (by show N0 + 1 + 1 ≠ N0 + 1; omega)]
      exact q0
    · exact (((ha.setCell (by omega) _ _).setCell (by omega) _ _).setCell (by omega) _ _).mono (by omega) (by simp only [size_setCell]; exact Nat.le_refl _)
    · exact below_setCell (below_setCell (below_setCell hB (by omega) _ _) (by omega) _ _) (by omega) _ _
set_option maxRecDepth 20000 in
set_option maxHeartbeats 4000000 in
/-- reducing's closure, of an array without rows. -/
theorem reduce0_impl {g : Int} {t d : List Int} {w : World} {v : Value} {o : Nat} (h : ArrI w v (0 :: t) d) (ho : arrOk (0 :: t) d = true) (hg : w.cell? ⟨o, 0, none⟩ = some (.int .i64 g)) (hol : o < w.heap.size) :
    Calls Try.prog 89 #[v, .pointer (some ⟨o, 0, none⟩)] w fun r w' => ∃ v', r = .returned (.tuple #[v', .int .i64 (redN g t).1]) ∧ Arr w.heap.size w'.heap.size w' v' (redN g t).2.1 (redN g t).2.2 ∧ Below w.heap.size w w' := by
  have H : Hid (ArrI w v (0 :: t) d) := h
  obtain ⟨a, c, b, f, rfl, h1, _, g1, _⟩ := h
  have k1 := (sizeV_ok (arrOk_shape ho)).1
  simp at k1
  have HCO : Hid (∀ W q, Below w.heap.size w W → Box W q (.slice a (t.length + 1) c) (.slice b d.length f) 26 → Calls Try.prog 72 #[.func (.func 88) #[] #[.pointer (some ⟨q, 0, none⟩)]] W fun e w' => ∃ a' c', e = .returned (.slice a' 0 c') ∧ Below W.heap.size W w') := fun W q hb hB => by
    refine (collect_rows (H.out.keep hb) ho hB).mono ?_
    rintro e w' ⟨v, xs, rfl, hL⟩
    have e0 : rowsN (0 :: t) = 0 := rfl
    rw [e0] at hL
    rcases hL.own.2 with ⟨rfl, _⟩ | ⟨g', cap, cur, rfl, _⟩
    · exact ⟨_, _, rfl, hL.below⟩
    · exact ⟨_, _, rfl, hL.below⟩
  obtain ⟨tl, ct, hcut, hti⟩ := tail_cut h1 g1
  have HTI : Hid (IntsI w (.slice tl t.length ct) t) := hti
  have HNR : Hid (∀ W, Below w.heap.size w W → Calls Try.prog 90 #[.int .i64 g, .slice tl t.length ct] W fun r w' => ∃ v', r = .returned (.tuple #[v', .int .i64 (redN g t).1]) ∧ Arr W.heap.size w'.heap.size w' v' (redN g t).2.1 (redN g t).2.2 ∧ Below W.heap.size W w') := fun W hb => neutralRow_impl (HTI.out.keep hb) (by omega)
  have HCR : Hid (∀ W x y, x.oneCell' = true → y.oneCell' = true → Calls Try.prog 73 #[.agg #[x, y]] W fun e w' => e = .returned (.func (.func 88) #[] #[.pointer (some ⟨W.heap.size, 0, none⟩)]) ∧ w' = W.alloc (.cells #[x, y] 26)) := fun W x y hx hy => (callsIn_wide (n := 5)).1 (cutRows_in 5 x y W hx hy)
  generalize redN g t = RR at *
  obtain ⟨C, S, D⟩ := RR
  simp only at HNR ⊢
  have HGC : Hid (w.cell? ⟨o, 0, none⟩ = some (.int .i64 g) ∧ o < w.heap.size) := ⟨hg, hol⟩
  clear ho hti h1 g1 k1 hg hol
  go_enter Try.func89, Try.ntmps89
  go_wp2_with fail
  refine (HCR.out _ _ _ rfl rfl).mono ?_
  rintro rr w2 ⟨rfl, hw⟩
  have hsz2 : w2.heap.size = w.heap.size + 4 := by rw [hw]; simp
  have BK : Hid (w2.heap[w.heap.size + 1]? = some (.cells #[.slice none 0 0, .slice none 0 0] 26 (0, 0)) ∧ w2.heap[w.heap.size + 2]? = some (.cells #[.int .i64 0] 3 (0, 0)) ∧ w2.heap[w.heap.size + 3]? = some (.cells #[.slice a (t.length + 1) c, .slice b d.length f] 26 (0, 0))) := by rw [hw]; exact blocks4r w _ _ _ _
  have X2 : Hid (Box w2 w.heap.size (.slice a (t.length + 1) c) (.slice b d.length f) 26) := by rw [hw]; exact Box.keep (box_new w _ _ _) (bAlloc (bAlloc (bAlloc (Below.refl _ _) _) _) _)
  have B2 : Hid (Below w.heap.size w w2) := by rw [hw]; exact bAlloc (bAlloc (bAlloc (bAlloc (Below.refl _ _) _) _) _) _
  clear hw
  go_wp2_with fail
  refine (HCO.out w2 (w.heap.size + 3) B2.out BK.out.2.2).mono ?_
  rintro rr w3 ⟨a3, c3, rfl, hb3⟩
  have X3 : Hid (Box w3 w.heap.size (.slice a (t.length + 1) c) (.slice b d.length f) 26) := X2.out.keep hb3
  have Y3 : Hid (Box w3 (w.heap.size + 1) (.slice none 0 0) (.slice none 0 0) 26) := Box.keep (w := w2) BK.out.1 hb3
  have I3 : Hid (w3.heap[w.heap.size + 2]? = some (.cells #[.int .i64 0] 3 (0, 0))) := (hb3.block _ (by omega)).trans BK.out.2.1
  have B3 : Hid (Below w.heap.size w w3) := bTrans B2.out hb3
  have L3 : Hid (w.heap.size + 4 ≤ w3.heap.size) := by have := hb3.size; show _ ≤ _; omega
  clear hb3
  have x0 := X3.out.c0
  have g3 : w3.cell? ⟨o, 0, none⟩ = some (.int .i64 g) := (B3.out.cell (p := ⟨o, 0, none⟩) HGC.out.2).trans HGC.out.1
  go_wp2_with fail
  go_region_with (go_at_call 90; refine (HNR.out _ (B3.out.drew)).mono ?_; rintro r w4 ⟨v4, rfl, ha, hb⟩; obtain ⟨s1, d1, rfl, p1, p2, p3⟩ := ha; obtain ⟨ta, tc, rfl, _⟩ := p1.ints; obtain ⟨da, dc, rfl, _⟩ := p2.ints; have hb4 : Below w3.heap.size w3 w4 := bTrans ((Below.refl w3.heap.size w3).drew) hb; have B4 : Hid (Below w.heap.size w w4) := bTrans B3.out hb4; have Y4 : Hid (Box w4 (w.heap.size + 1) (.slice none 0 0) (.slice none 0 0) 26) := Y3.out.keep hb4; have I4 : Hid (w4.heap[w.heap.size + 2]? = some (.cells #[.int .i64 0] 3 (0, 0))) := (hb4.block _ (by have := L3.out; omega)).trans I3.out; have A4 : Hid (Arr w3.heap.size w4.heap.size w4 (.agg #[.slice ta S.length tc, .slice da D.length dc]) S D) := ⟨_, _, rfl, p1, p2, p3⟩; clear p1 p2 p3 hb hb4; have y3 := Y4.out.c0; have y4 := Y4.out.c1; have f0 := free_at Y4.out 0; have f1 := free_at Y4.out 1; have y5 : w4.cell? ⟨w.heap.size + 1 + 1, 0, none⟩ = some (.int .i64 0) := cell_at I4.out rfl; have f2 : w4.frozen? ⟨w.heap.size + 1 + 1, 0, none⟩ = false := free_at I4.out 0)
  all_goals
    go_wp2
    have L := L3.out
    first
      | (obtain ⟨k1, k2, k3, k4⟩ := red0_end (w := w) (C := C) B4.out Y4.out I4.out A4.out (by omega) _ (.inl rfl)
         refine bodyPost_ret (results_arr_int rfl _ _ (w.heap.size + 1) (w.heap.size + 1 + 1) _ _ _ rfl rfl k1 k2) rfl ?_
         exact ⟨_, rfl, k3, k4⟩)
      | (obtain ⟨k1, k2, k3, k4⟩ := red0_end (w := w) (C := C) B4.out Y4.out I4.out A4.out (by omega) _ (.inr rfl)
         refine bodyPost_ret (results_arr_int rfl _ _ (w.heap.size + 1) (w.heap.size + 1 + 1) _ _ _ rfl rfl k1 k2) rfl ?_
         exact ⟨_, rfl, k3, k4⟩)
theorem reduceR_bad {g : Int} {s d : List Int} (h : ¬ (sign2 g = true ∧ arrOk s d = true)) : reduceR g s d = (1, [], []) := by unfold reduceR; rw [if_neg h]
theorem reduceR_nil {g : Int} {d : List Int} (h : sign2 g = true ∧ arrOk [] d = true) : reduceR g [] d = (0, [], d) := by unfold reduceR; rw [if_pos h, if_pos rfl]
theorem reduceR_some {g n0 : Int} {t d : List Int} (h : sign2 g = true ∧ arrOk (n0 :: t) d = true) (hn : 0 < n0) : reduceR g (n0 :: t) d = ((redL g t (rowsD (n0 :: t) d)).1, (if (redL g t (rowsD (n0 :: t) d)).1 = 0 then t else []), (redL g t (rowsD (n0 :: t) d)).2) := by
  unfold reduceR
  rw [if_pos h, if_neg (by simp), if_pos (by simpa using hn)]
  show mkR (redL g t (rowsD (n0 :: t) d)).1 t (redL g t (rowsD (n0 :: t) d)).2 = _
  unfold mkR
  by_cases h0 : (redL g t (rowsD (n0 :: t) d)).1 = 0
  · rw [if_pos h0, if_pos h0, h0]
  · rw [if_neg h0, if_neg h0, redL_none h0]
theorem reduceR_none {g : Int} {t d : List Int} (h : sign2 g = true ∧ arrOk (0 :: t) d = true) : reduceR g (0 :: t) d = redN g t := by
  unfold reduceR
  rw [if_pos h, if_neg (by simp), if_neg (by simp)]
  rfl
theorem reducing2_impl (g : Int) (w : World) :
    Calls Try.prog 74 #[.int .i64 g] w fun r w' => r = .returned (.func (.func 89) #[] #[.pointer (some ⟨w.heap.size, 0, none⟩)]) ∧ w'.cell? ⟨w.heap.size, 0, none⟩ = some (.int .i64 g) ∧ Below w.heap.size w w' ∧ w.heap.size < w'.heap.size := by
  refine (reducing_impl g w).mono ?_
  rintro r w' ⟨rfl, rfl⟩
  exact ⟨rfl, cell_at (heap_alloc_new w _) rfl, bAlloc (Below.refl _ _) _, by simp⟩
end Go.Proofs.Ytbmkfmppcojcgaa
