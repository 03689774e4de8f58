/-
  Several walks, one behind the other: ImplMake4, NeutralI, ImplRed4, OuterM, CountF, MakeP, MakeQ, JoinM, JoinL, SpecMake1, SpecMake5, SpecMake2, SpecMake6, Cuts, SpecMake7, SpecMake3, Cuts2, TakenF, JoinF, SumsF, Grow2, SpecJoin0, SpecJoin, ImplMake5, ImplMake9, ImplMake10, ImplJoin.
-/
import Derived.Test.YtdobohobhpailaaZ1
import Derived.Test.YtdobohobhpailaaRows
import Derived.Test.YtdobohobhpailaaMath
import Derived.WalkKit
import Derived.WalkSpells
import Derived.WalkLawsBesides
import Derived.Test.YtdobohobhpailaaMakeM
import Derived.Test.YtdobohobhpailaaEachM
import Derived.Test.YtdobohobhpailaaLaw3
import Derived.Test.YtdobohobhpailaaSpecCopy
import Derived.Deep.Cut
import Derived.Shelf.Abstract
import Derived.Test.YtdobohobhpailaaImplArr1
namespace Go.Proofs.Ytdobohobhpailaa
open Go.RowKit
set_option linter.unusedVariables false
set_option linter.unusedSimpArgs false
theorem againD_length (e : List Int) (n : Nat) : (againD e n).length = n := by simp [againD]
set_option maxRecDepth 20000 in
set_option maxHeartbeats 4000000 in
/-- Reshape. -/
theorem reshape_impl {s d t e : List Int} {w : World} {v u : Value} (h : ArrI w v s d) (k : ArrI w u t e) (hs : s.length ≤ 1048576) (hd : d.length ≤ 1048576) (ht : t.length ≤ 1048576) (he : e.length ≤ 1048576) :
    Calls Try.prog 65 #[v, u] w fun r w' => ∃ v', r = .returned (.tuple #[v', .int .i64 (reshapeR s d t e).1]) ∧ Arr w.heap.size w'.heap.size w' v' (reshapeR s d t e).2.1 (reshapeR s d t e).2.2 ∧ Below w.heap.size w w' := by
  have H : Hid (ArrI w v s d) := h
  have K : Hid (ArrI w u t e) := k
  obtain ⟨a, c, b, f, rfl, h1, h2, g1, g2⟩ := h
  obtain ⟨a', c', b', f', rfl, k1, k2, g3, g4⟩ := k
  have HOK : Hid (∀ (W : World) (o : Nat), Below w.heap.size w W → W.heap[o]? = some (.cells #[.slice a s.length c, .slice b d.length f, .slice a' t.length c', .slice b' e.length f'] 26 (0, 0)) → Calls Try.prog 18 #[.slice (some ⟨o, 0, none⟩) 2 2] W fun r w' => r = .returned (.bool (arrOk s d && arrOk t e)) ∧ Below W.heap.size W w') := fun W o hb ho => allOk2_impl (H.out.keep hb) (K.out.keep hb) hs hd ht he ho
  have HCF : Hid (∀ W, Below w.heap.size w W → Calls Try.prog 80 #[.slice b d.length f, .func (.func 81) #[] #[]] W fun r w' => r = .returned (.bool (d.any fun x => decide (x < 0))) ∧ w' = W) := fun W hb => containsBelow_impl (h2.keep hb) hd
  have HSO : Hid (∀ W, Below w.heap.size w W → Calls Try.prog 22 #[.slice b d.length f] W fun r w' => r = .returned (.bool (decide (0 ≤ sizeV d))) ∧ Below W.heap.size W w') := fun W hb => ok_impl f (h2.keep hb)
  have HCL : Hid (∀ W, Below w.heap.size w W → Calls Try.prog 42 #[.slice b d.length f] W fun r w' => ∃ a' c', r = .returned (.slice a' d.length c') ∧ Piece W.heap.size w'.heap.size w' (.slice a' d.length c') d ∧ Below W.heap.size W w') := fun W hb => copied_new (IntsI.keep ⟨b, f, rfl, g2, h2⟩ hb) hd
  have HSZ : Hid (∀ W, Below w.heap.size w W → Calls Try.prog 56 #[.slice b d.length f] W fun r w' => r = .returned (.int .i64 (sizeV d)) ∧ Below W.heap.size W w') := fun W hb => size_impl f (h2.keep hb)
  have HAG : Hid (0 ≤ sizeV d → ∀ W, Below w.heap.size w W → Calls Try.prog 82 #[.slice b' e.length f', .int .i64 (sizeV d)] W fun r w' => ∃ a' c', r = .returned (.slice a' (againD e (sizeV d).toNat).length c') ∧ Piece W.heap.size w'.heap.size w' (.slice a' (againD e (sizeV d).toNat).length c') (againD e (sizeV d).toNat) ∧ Below W.heap.size W w') := fun h0 W hb => by
    have hz := sizeV_bd d
    have q := again_impl (c := f') (n := (sizeV d).toNat) (k2.keep hb) he (by omega)
    rw [Int.toNat_of_nonneg h0] at q
    refine q.mono ?_
    rintro r w' ⟨rfl, ho, hb'⟩
    refine ⟨some ⟨W.heap.size, 0, none⟩, (sizeV d).toNat, by rw [againD_length], ?_, hb'⟩
    exact OwnInts.piece ho (Nat.le_refl _) (lt_of_heapA ho) _ (by rw [againD_length]; exact Nat.le_refl _)
  obtain ⟨x, hx⟩ : ∃ x, x = (reshapeR s d t e).1 := ⟨_, rfl⟩
  obtain ⟨S, hS⟩ : ∃ S, S = (reshapeR s d t e).2.1 := ⟨_, rfl⟩
  obtain ⟨D, hD⟩ : ∃ D, D = (reshapeR s d t e).2.2 := ⟨_, rfl⟩
  rw [← hx, ← hS, ← hD]
  have E1 : Hid ((arrOk s d && arrOk t e) = false → x = 1 ∧ S = [] ∧ D = []) := fun h => by
    rw [hx, hS, hD]; unfold reshapeR reshapeC; rw [if_neg (by intro q; rw [q.1, q.2] at h; cases h), mkR_bad (by decide)]; exact ⟨rfl, rfl, rfl⟩
  have E2 : Hid ((arrOk s d && arrOk t e) = true → 1 < s.length → x = 4 ∧ S = [] ∧ D = []) := fun h h1 => by
    rw [hx, hS, hD]; unfold reshapeR reshapeC; rw [if_pos (by simpa using h), if_pos h1, mkR_bad (by decide)]; exact ⟨rfl, rfl, rfl⟩
  have E3 : Hid ((arrOk s d && arrOk t e) = true → ¬ 1 < s.length → (d.any fun x => decide (x < 0)) = true → x = 2 ∧ S = [] ∧ D = []) := fun h h1 h2 => by
    rw [hx, hS, hD]; unfold reshapeR reshapeC; rw [if_pos (by simpa using h), if_neg h1, if_pos h2, mkR_bad (by decide)]; exact ⟨rfl, rfl, rfl⟩
  have E4 : Hid ((arrOk s d && arrOk t e) = true → ¬ 1 < s.length → (d.any fun x => decide (x < 0)) = false → sizeV d < 0 → x = 6 ∧ S = [] ∧ D = []) := fun h h1 h2 h3 => by
    rw [hx, hS, hD]; unfold reshapeR reshapeC; rw [if_pos (by simpa using h), if_neg h1, if_neg (by rw [h2]; simp), if_pos h3, mkR_bad (by decide)]; exact ⟨rfl, rfl, rfl⟩
  have E5 : Hid ((arrOk s d && arrOk t e) = true → ¬ 1 < s.length → (d.any fun x => decide (x < 0)) = false → 0 ≤ sizeV d → x = 0 ∧ S = d ∧ D = againD e (sizeV d).toNat) := fun h h1 h2 h3 => by
    rw [hx, hS, hD]; unfold reshapeR reshapeC; rw [if_pos (by simpa using h), if_neg h1, if_neg (by rw [h2]; simp), if_neg (by omega), mkR_good]; exact ⟨rfl, rfl, rfl⟩
  clear hx hS hD hs hd ht he h1 h2 k1 k2 g1 g2 g3 g4
  generalize (arrOk s d && arrOk t e) = q at *
  generalize (d.any fun x => decide (x < 0)) = m at *
  generalize againD e (sizeV d).toNat = A at *
  generalize sizeV d = z at *
  go_enter Try.func65, Try.ntmps65
  go_wp2_with fail
  refine (HOK.out _ _ (bAlloc (bAlloc (bAlloc (bAlloc (Below.refl _ _) _) _) _) _) (by exact (four5 w _ _ _ _).2.2.2)).mono ?_
  rintro r w1 ⟨rfl, hb⟩
  have q4 := four5 w (.cells #[.slice a s.length c, .slice b d.length f] 26) (.cells #[.slice a' t.length c', .slice b' e.length f'] 26) (.cells #[.slice none 0 0, .slice none 0 0] 26) (.cells #[.slice a s.length c, .slice b d.length f, .slice a' t.length c', .slice b' e.length f'] 26)
  have HB1 : Hid (Below w.heap.size w w1) := bTrans (bAlloc (bAlloc (bAlloc (bAlloc (Below.refl _ _) _) _) _) _) hb
  have X1 : Hid (Box w1 w.heap.size (.slice a s.length c) (.slice b d.length f) 26) := Box.keep q4.1 hb
  have Y1 : Hid (Box w1 (w.heap.size + 1) (.slice a' t.length c') (.slice b' e.length f') 26) := Box.keep q4.2.1 hb
  have R1 : Hid (Box w1 (w.heap.size + 1 + 1) (.slice none 0 0) (.slice none 0 0) 26) := Box.keep q4.2.2.1 hb
  clear hb q4
  cases q
  · obtain ⟨rfl, rfl, rfl⟩ := E1.out (by trivial)
    clear E1 E2 E3 E4 E5
    have y0 := R1.out.c0
    have y1 := R1.out.c1
    have f0 : w1.frozen? ⟨w.heap.size + 1 + 1, 0, none⟩ = false := free_at R1.out 0
    have f1 : w1.frozen? ⟨w.heap.size + 1 + 1, 1, none⟩ = false := free_at R1.out 1
    have HR : Hid (((w1.setCell ⟨w.heap.size + 1 + 1, 0, none⟩ (.slice none 0 0)).setCell ⟨w.heap.size + 1 + 1, 1, none⟩ (.slice none 0 0)).heap[w.heap.size + 1 + 1]? = some (.cells #[.slice none 0 0, .slice none 0 0] 26 (0, 0))) := arr_stored R1.out
    go_wp2
    refine bodyPost_ret (results_arr_tmp Try.results65 _ _ (w.heap.size + 1 + 1) _ _ rfl HR.out) rfl ?_
    exact ⟨_, rfl, arr_zero _ _ _, below_setCell (below_setCell HB1.out (by omega) _ _) (by omega) _ _⟩
  · have x0 := X1.out.c0
    by_cases hr : (1 : Int) < (s.length : Int)
    · obtain ⟨rfl, rfl, rfl⟩ := E2.out (by trivial) (by omega)
      clear E1 E2 E3 E4 E5
      have y0 := R1.out.c0
      have y1 := R1.out.c1
      have f0 : w1.frozen? ⟨w.heap.size + 1 + 1, 0, none⟩ = false := free_at R1.out 0
      have f1 : w1.frozen? ⟨w.heap.size + 1 + 1, 1, none⟩ = false := free_at R1.out 1
      have HR : Hid (((w1.setCell ⟨w.heap.size + 1 + 1, 0, none⟩ (.slice none 0 0)).setCell ⟨w.heap.size + 1 + 1, 1, none⟩ (.slice none 0 0)).heap[w.heap.size + 1 + 1]? = some (.cells #[.slice none 0 0, .slice none 0 0] 26 (0, 0))) := arr_stored R1.out
      go_wp2
      refine bodyPost_ret (results_arr_tmp Try.results65 _ _ (w.heap.size + 1 + 1) _ _ rfl HR.out) rfl ?_
      exact ⟨_, rfl, arr_zero _ _ _, below_setCell (below_setCell HB1.out (by omega) _ _) (by omega) _ _⟩
    · have x1 := X1.out.c1
      have E3' : Hid (m = true → x = 2 ∧ S = [] ∧ D = []) := E3.out (by trivial) (by omega)
      have E4' : Hid (m = false → z < 0 → x = 6 ∧ S = [] ∧ D = []) := E4.out (by trivial) (by omega)
      have E5' : Hid (m = false → 0 ≤ z → x = 0 ∧ S = d ∧ D = A) := E5.out (by trivial) (by omega)
      clear E1 E2 E3 E4 E5
      go_wp2_with fail
      refine (HCF.out _ HB1.out).mono ?_
      rintro r w2 ⟨rfl, hw⟩
      subst w2
      cases m
      · go_wp2_with fail
        refine (HSO.out _ HB1.out).mono ?_
        rintro r w2 ⟨rfl, hb⟩
        have HB2 : Hid (Below w.heap.size w w2) := bTrans HB1.out hb
        have X2 : Hid (Box w2 w.heap.size (.slice a s.length c) (.slice b d.length f) 26) := X1.out.keep hb
        have Y2 : Hid (Box w2 (w.heap.size + 1) (.slice a' t.length c') (.slice b' e.length f') 26) := Y1.out.keep hb
        have R2 : Hid (Box w2 (w.heap.size + 1 + 1) (.slice none 0 0) (.slice none 0 0) 26) := R1.out.keep hb
        clear hb x0 x1 hr
        by_cases hz : 0 ≤ z
        · obtain ⟨rfl, eS, eD⟩ := E5'.out (by trivial) hz
          have ES : Hid (S = d ∧ D = A) := ⟨eS, eD⟩
          have HAG' := HAG.out hz
          have HAH : Hid (∀ W, Below w.heap.size w W → Calls Try.prog 82 #[.slice b' e.length f', .int .i64 z] W fun r w' => ∃ a' c', r = .returned (.slice a' A.length c') ∧ Piece W.heap.size w'.heap.size w' (.slice a' A.length c') A ∧ Below W.heap.size W w') := HAG'
          have hdz : decide (0 ≤ z) = true := by simpa using hz
          clear E3' E4' E5' eS eD HAG' HAG HSO HCF HOK hz
          rw [hdz]
          have x1 := X2.out.c1
          have y1 := Y2.out.c1
          have LT : Hid (w.heap.size + 1 + 1 < w2.heap.size) := R2.out.lt
          go_wp2
          go_region_held3 (fun w' => w'.cell? ⟨w.heap.size, 1, none⟩ = some (.slice b d.length f) ∧ w'.cell? ⟨w.heap.size + 1, 1, none⟩ = some (.slice b' e.length f'))
            (first | exact ⟨z0 _ _, z1 _ _⟩ | exact ⟨q0, q1⟩ | exact ⟨p0, p1⟩ | exact ⟨v0, v1⟩ | exact ⟨x1, y1⟩)
            (first
              | (go_at_call_of 42 (Value.slice b d.length f); refine (HCL.out _ (bTrans HB2.out ((Below.refl w2.heap.size w2).drew))).mono ?_; rintro r w3 ⟨ax, cx, rfl, ha, hb⟩; have PX : Hid (Piece w2.heap.size w3.heap.size w3 (.slice ax d.length cx) d) := ha; have HB3 : Hid (Below w2.heap.size w2 w3) := bTrans ((Below.refl w2.heap.size w2).drew) hb; have v0 := (X2.out.keep HB3.out).c1; have v1 := (Y2.out.keep HB3.out).c1; clear ha hb)
              | (go_at_call_of 56 (Value.slice b d.length f); refine (HSZ.out _ (bTrans HB2.out HB3.out)).mono ?_; rintro r w4 ⟨rfl, hb⟩; have HB4 : Hid (Below w2.heap.size w2 w4) := bTrans HB3.out hb; have PX4 : Hid (Piece w2.heap.size w3.heap.size w4 (.slice ax d.length cx) d) := PX.out.keep hb; have S34 : Hid (w3.heap.size ≤ w4.heap.size) := hb.size; have p0 := (X2.out.keep HB4.out).c1; have p1 := (Y2.out.keep HB4.out).c1; clear hb)
              | (go_at_call_of 82 (Value.slice b' e.length f'); refine (HAH.out _ (bTrans HB2.out HB4.out)).mono ?_; rintro r w5 ⟨ay, cy, rfl, ha, hb⟩; have PY : Hid (Piece w4.heap.size w5.heap.size w5 (.slice ay A.length cy) A) := ha; have PX5 : Hid (Piece w2.heap.size w3.heap.size w5 (.slice ax d.length cx) d) := PX4.out.keep hb; have S45 : Hid (w4.heap.size ≤ w5.heap.size) := hb.size; have HB5 : Hid (Below w2.heap.size w2 w5) := bTrans HB4.out hb; have q0 := (X2.out.keep HB5.out).c1; have q1 := (Y2.out.keep HB5.out).c1; have r0 := (R2.out.keep HB5.out).c0; have r1 := (R2.out.keep HB5.out).c1; have f0 : w5.frozen? ⟨w.heap.size + 1 + 1, 0, none⟩ = false := free_at (R2.out.keep HB5.out) 0; have f1 : w5.frozen? ⟨w.heap.size + 1 + 1, 1, none⟩ = false := free_at (R2.out.keep HB5.out) 1; have zx : ∀ u v, Box ((w5.setCell ⟨w.heap.size + 1 + 1, 0, none⟩ u).setCell ⟨w.heap.size + 1 + 1, 1, none⟩ v) w.heap.size (.slice a s.length c) (.slice b d.length f) 26 := (fun u v => ((X2.out.keep HB5.out).win (win_setCell _ _ _ _) (.inl (by omega))).win (win_setCell _ _ _ _) (.inl (by omega))); have zy : ∀ u v, Box ((w5.setCell ⟨w.heap.size + 1 + 1, 0, none⟩ u).setCell ⟨w.heap.size + 1 + 1, 1, none⟩ v) (w.heap.size + 1) (.slice a' t.length c') (.slice b' e.length f') 26 := (fun u v => ((Y2.out.keep HB5.out).win (win_setCell _ _ _ _) (.inl (by omega))).win (win_setCell _ _ _ _) (.inl (by omega))); have z0 := (fun u v => (zx u v).c1); have z1 := (fun u v => (zy u v).c1); have HR : Hid (((w5.setCell ⟨w.heap.size + 1 + 1, 0, none⟩ (.slice ax d.length cx)).setCell ⟨w.heap.size + 1 + 1, 1, none⟩ (.slice ay A.length cy)).heap[w.heap.size + 1 + 1]? = some (.cells #[.slice ax d.length cx, .slice ay A.length cy] 26 (0, 0))) := arr_stored (R2.out.keep HB5.out); clear ha hb zx zy))
          go_wp2
          refine bodyPost_ret (results_arr_tmp Try.results65 _ _ (w.heap.size + 1 + 1) _ _ rfl HR.out) rfl ?_
          refine ⟨_, rfl, ?_, below_setCell (below_setCell (bTrans HB2.out HB5.out) (by omega) _ _) (by omega) _ _⟩
          have S1 := HB3.out.size
          have S2 := S34.out
          have S3 := S45.out
          have S4 := LT.out
          rw [ES.out.1, ES.out.2]
          have A2 : Arr w2.heap.size w5.heap.size w5 (.agg #[.slice ax d.length cx, .slice ay A.length cy]) d A := ⟨_, _, rfl, PX5.out.mono (Nat.le_refl _) (by omega), PY.out.mono (by omega) (Nat.le_refl _), PX5.out.apart PY.out (.inl (by omega))⟩
          exact ((A2.setCell S4 _ _).setCell S4 _ _).mono (by omega) (by simp [size_setCell])
        · obtain ⟨rfl, rfl, rfl⟩ := E4'.out (by trivial) (by omega)
          have hdz : decide (0 ≤ z) = false := by simpa using hz
          clear E3' E4' E5' hz
          rw [hdz]
          have y0 := R2.out.c0
          have y1 := R2.out.c1
          have f0 : w2.frozen? ⟨w.heap.size + 1 + 1, 0, none⟩ = false := free_at R2.out 0
          have f1 : w2.frozen? ⟨w.heap.size + 1 + 1, 1, none⟩ = false := free_at R2.out 1
          have HR : Hid (((w2.setCell ⟨w.heap.size + 1 + 1, 0, none⟩ (.slice none 0 0)).setCell ⟨w.heap.size + 1 + 1, 1, none⟩ (.slice none 0 0)).heap[w.heap.size + 1 + 1]? = some (.cells #[.slice none 0 0, .slice none 0 0] 26 (0, 0))) := arr_stored R2.out
          go_wp2
          refine bodyPost_ret (results_arr_tmp Try.results65 _ _ (w.heap.size + 1 + 1) _ _ rfl HR.out) rfl ?_
          exact ⟨_, rfl, arr_zero _ _ _, below_setCell (below_setCell HB2.out (by omega) _ _) (by omega) _ _⟩
      · obtain ⟨rfl, rfl, rfl⟩ := E3'.out (by trivial)
        clear E3' E4' E5' x0 x1 hr
        have y0 := R1.out.c0
        have y1 := R1.out.c1
        have f0 : w1.frozen? ⟨w.heap.size + 1 + 1, 0, none⟩ = false := free_at R1.out 0
        have f1 : w1.frozen? ⟨w.heap.size + 1 + 1, 1, none⟩ = false := free_at R1.out 1
        have HR : Hid (((w1.setCell ⟨w.heap.size + 1 + 1, 0, none⟩ (.slice none 0 0)).setCell ⟨w.heap.size + 1 + 1, 1, none⟩ (.slice none 0 0)).heap[w.heap.size + 1 + 1]? = some (.cells #[.slice none 0 0, .slice none 0 0] 26 (0, 0))) := arr_stored R1.out
        go_wp2
        refine bodyPost_ret (results_arr_tmp Try.results65 _ _ (w.heap.size + 1 + 1) _ _ rfl HR.out) rfl ?_
        exact ⟨_, rfl, arr_zero _ _ _, below_setCell (below_setCell HB1.out (by omega) _ _) (by omega) _ _⟩
end Go.Proofs.Ytdobohobhpailaa
namespace Go.Proofs.Ytdobohobhpailaa
open Go.RowKit
set_option maxHeartbeats 400000 in
theorem neutral_impl (s : Int) (w : World) :
    Calls Try.prog 64 #[.int .i64 s] w fun e w' => e = .returned (.tuple #[.int .i64 (neu s).1, .bool (neu s).2]) ∧ w' = w := by
  go_enter Try.func64, Try.ntmps64
  go_wp2
  all_goals
    go_ret2
    refine ⟨?_, rfl⟩
    simp_all [neu]
end Go.Proofs.Ytdobohobhpailaa
namespace Go.Proofs.Ytdobohobhpailaa
open Go.RowKit
set_option linter.unusedVariables false
set_option linter.unusedSimpArgs false
/-- A row of which there is none. -/
def redN (g : Int) (t : List Int) : Int × List Int × List Int := reshapeR [(t.length : Int)] t [] [(neu g).1]
def reduceR (g : Int) (s d : List Int) : Int × List Int × List Int := if sign2 g = true ∧ arrOk s d = true then (if s = [] then (0, [], d) else if 0 < s.getD 0 0 then mkR (redL g (s.drop 1) (rowsD s d)).1 (s.drop 1) (redL g (s.drop 1) (rowsD s d)).2 else redN g (s.drop 1)) else (1, [], [])
set_option maxRecDepth 20000 in
set_option maxHeartbeats 4000000 in
/-- neutralRow. -/
theorem neutralRow_impl {g : Int} {t : List Int} {w : World} {u : Value} (h : IntsI w u t) (ht : t.length ≤ 1000) :
    Calls Try.prog 49 #[.int .i64 g, u] w fun r w' => ∃ v', r = .returned (.tuple #[v', .int .i64 (redN g t).1]) ∧ Arr w.heap.size w'.heap.size w' v' (redN g t).2.1 (redN g t).2.2 ∧ Below w.heap.size w w' := by
  have H : Hid (IntsI w u t) := h
  have HRS : Hid (∀ W v o', ArrI W v [(t.length : Int)] t → Ints W (some ⟨o', 0, none⟩) [(neu g).1] → Calls Try.prog 65 #[v, .agg #[.slice none 0 0, .slice (some ⟨o', 0, none⟩) 1 1]] W fun r w' => ∃ v', r = .returned (.tuple #[v', .int .i64 (redN g t).1]) ∧ Arr W.heap.size w'.heap.size w' v' (redN g t).2.1 (redN g t).2.2 ∧ Below W.heap.size W w') := fun W v o' hv hi => reshape_impl hv ⟨none, 0, _, 1, rfl, .inl rfl, hi, Nat.le_refl _, Nat.le_refl _⟩ (by simp) (by omega) (by simp) (by simp)
  have HNE : Hid (∀ W, Calls Try.prog 64 #[.int .i64 g] W fun e w' => e = .returned (.tuple #[.int .i64 (neu g).1, .bool (neu g).2]) ∧ w' = W) := neutral_impl g
  obtain ⟨a, c, rfl, _, _⟩ := h
  have HVC : Hid (∀ W, Below w.heap.size w W → Calls Try.prog 66 #[.slice a t.length c] W fun r w' => ∃ v', r = .returned v' ∧ Arr W.heap.size w'.heap.size w' v' [(t.length : Int)] t ∧ Below W.heap.size W w') := fun W hb => vecCopy_impl (H.out.keep hb) (by omega)
  generalize (neu g).1 = x at *
  generalize (neu g).2 = y at *
  generalize redN g t = RR at *
  obtain ⟨C, S, D⟩ := RR
  simp only at HRS ⊢
  clear ht
  go_enter Try.func49, Try.ntmps49
  go_wp2_with fail
  refine (HNE.out _).mono ?_
  rintro r w1 ⟨rfl, hw1⟩
  subst hw1
  go_wp2_with fail
  refine (HVC.out _ (bAlloc (Below.refl _ _) _)).mono ?_
  rintro r w2 ⟨v2, rfl, ha, hb⟩
  obtain ⟨xa, xc, ya, yc, rfl, _, _, _, _⟩ := ha.arrI
  have B2 : Hid (Below w.heap.size w w2) := bTrans (bAlloc (Below.refl _ _) _) hb
  have Y2 : Hid (Box w2 w.heap.size (.slice none 0 0) (.slice none 0 0) 26) := (box_new w _ _ _).keep hb
  have A2 : Hid (ArrI w2 (.agg #[.slice xa [(t.length : Int)].length xc, .slice ya t.length yc]) [(t.length : Int)] t) := ha.arrI
  clear ha hb
  have I2 : Hid (Ints (w2.alloc (.cells #[.int .i64 x] 3)) (some ⟨w2.heap.size, 0, none⟩) [x]) := ints_new w2 [x] 3
  go_wp2_with fail
  refine (HRS.out _ _ _ (A2.out.keep (bAlloc (Below.refl _ _) _)) I2.out).mono ?_
  rintro r w3 ⟨v3, rfl, ha, hb⟩
  obtain ⟨ua, uc, va, vc, rfl, _, _, _, _⟩ := ha.arrI
  have hb2 : Below w2.heap.size w2 w3 := bTrans (bAlloc (Below.refl _ _) _) hb
  have B3 : Hid (Below w.heap.size w w3) := bTrans B2.out hb2
  have Y3 : Hid (Box w3 w.heap.size (.slice none 0 0) (.slice none 0 0) 26) := Y2.out.keep hb2
  have A3 : Hid (Arr w2.heap.size w3.heap.size w3 (.agg #[.slice ua S.length uc, .slice va D.length vc]) S D) := ha.mono (by simp) (Nat.le_refl _)
  clear ha hb hb2
  have y3 := Y3.out.c0
  have y4 := Y3.out.c1
  have f0 := free_at Y3.out 0
  have f1 := free_at Y3.out 1
  have HRR : Hid (_ = _) := arr_stored (x' := .slice ua S.length uc) (y' := .slice va D.length vc) Y3.out
  go_wp2
  refine bodyPost_ret (results_arr_tmp Try.results49 _ _ w.heap.size _ _ rfl HRR.out) rfl ?_
  refine ⟨_, rfl, ?_, below_setCell (below_setCell B3.out (Nat.le_refl _) _ _) (Nat.le_refl _) _ _⟩
  have L := Y2.out.lt
  exact ((A3.out.setCell (by omega) _ _).setCell (by omega) _ _).mono (by omega) (by simp only [size_setCell]; omega)
/-- Behind the stores of an answer, in whichever order they were done. -/
theorem red0_end {w W : World} {N0 B : Nat} {x y : Value} {C : Int} {S D : List Int} (hB : Below N0 w W) (h1 : Box W (N0 + 1) (.slice none 0 0) (.slice none 0 0) 26) (h2 : W.heap[N0 + 2]? = some (.cells #[.int .i64 0] 3 (0, 0))) (ha : Arr B W.heap.size W (.agg #[x, y]) S D) (hN : N0 + 3 ≤ B) :
    (∀ V, V = (((W.setCell ⟨N0 + 1, 0, none⟩ x).setCell ⟨N0 + 1, 1, none⟩ y).setCell ⟨N0 + 1 + 1, 0, none⟩ (.int .i64 C)) ∨ V = (((W.setCell ⟨N0 + 1 + 1, 0, none⟩ (.int .i64 C)).setCell ⟨N0 + 1, 0, none⟩ x).setCell ⟨N0 + 1, 1, none⟩ y) →
      V.heap[N0 + 1]? = some (.cells #[x, y] 26 (0, 0)) ∧ V.cell? ⟨N0 + 1 + 1, 0, none⟩ = some (.int .i64 C) ∧ Arr N0 V.heap.size V (.agg #[x, y]) S D ∧ Below N0 w V) := by
  rintro V (rfl | rfl)
  · refine ⟨?_, ?_, ?_, ?_⟩
    · have q : Box ((W.setCell ⟨N0 + 1, 0, none⟩ x).setCell ⟨N0 + 1, 1, none⟩ y) (N0 + 1) x y 26 := arr_stored h1
      exact q.win (win_setCell _ (N0 + 1 + 1) 0 _) (.inl (by omega))
    · have q : ((W.setCell ⟨N0 + 1, 0, none⟩ x).setCell ⟨N0 + 1, 1, none⟩ y).heap[N0 + 1 + 1]? = some (.cells #[.int .i64 0] 3 (0, 0)) := by
        rw [heap_setCell_other _ _ _ _ (by show N0 + 1 + 1 ≠ N0 + 1; omega), heap_setCell_other _ _ _ _ (by show N0 + 1 + 1 ≠ N0 + 1; omega)]
        exact h2
      exact cell_at (heap_setCell_same _ (N0 + 1 + 1) 0 _ _ (.int .i64 C) q) rfl
    · exact (((ha.setCell (by omega) _ _).setCell (by omega) _ _).setCell (by omega) _ _).mono (by omega) (by simp only [size_setCell]; exact Nat.le_refl _)
    · exact below_setCell (below_setCell (below_setCell hB (by omega) _ _) (by omega) _ _) (by omega) _ _
  · have q0 := heap_setCell_same W (N0 + 1 + 1) 0 _ _ (.int .i64 C) h2
    have b1 : Box (W.setCell ⟨N0 + 1 + 1, 0, none⟩ (.int .i64 C)) (N0 + 1) (.slice none 0 0) (.slice none 0 0) 26 := h1.win (win_setCell _ (N0 + 1 + 1) 0 _) (.inl (by omega))
    refine ⟨arr_stored b1, ?_, ?_, ?_⟩
    · refine cell_at (cs := (#[Value.int .i64 0].set 0 (.int .i64 C))) (t := 3) (fr := (0, 0)) ?_ rfl
      rw [heap_setCell_other _ _ _ _ (by show N0 + 1 + 1 ≠ N0 + 1; omega), heap_setCell_other _ _ _ _ (by show N0 + 1 + 1 ≠ N0 + 1; omega)]
      exact q0
    · exact (((ha.setCell (by omega) _ _).setCell (by omega) _ _).setCell (by omega) _ _).mono (by omega) (by simp only [size_setCell]; exact Nat.le_refl _)
    · exact below_setCell (below_setCell (below_setCell hB (by omega) _ _) (by omega) _ _) (by omega) _ _
set_option maxRecDepth 20000 in
set_option maxHeartbeats 4000000 in
/-- reducing's closure, of an array without rows. -/
theorem reduce0_impl {g : Int} {t d : List Int} {w : World} {v : Value} {o : Nat} (h : ArrI w v (0 :: t) d) (ho : arrOk (0 :: t) d = true) (hg : w.cell? ⟨o, 0, none⟩ = some (.int .i64 g)) (hol : o < w.heap.size) :
    Calls Try.prog 46 #[v, .pointer (some ⟨o, 0, none⟩)] w fun r w' => ∃ v', r = .returned (.tuple #[v', .int .i64 (redN g t).1]) ∧ Arr w.heap.size w'.heap.size w' v' (redN g t).2.1 (redN g t).2.2 ∧ Below w.heap.size w w' := by
  have H : Hid (ArrI w v (0 :: t) d) := h
  obtain ⟨a, c, b, f, rfl, h1, _, g1, _⟩ := h
  have k1 := (sizeV_ok (arrOk_shape ho)).1
  simp at k1
  have HCO : Hid (∀ W q, Below w.heap.size w W → Box W q (.slice a (t.length + 1) c) (.slice b d.length f) 26 → Calls Try.prog 47 #[.func (.func 63) #[] #[.pointer (some ⟨q, 0, none⟩)]] W fun e w' => ∃ a' c', e = .returned (.slice a' 0 c') ∧ Below W.heap.size W w') := fun W q hb hB => by
    refine (collect_rows (H.out.keep hb) ho hB).mono ?_
    rintro e w' ⟨v, xs, rfl, hL⟩
    have e0 : rowsN (0 :: t) = 0 := rfl
    rw [e0] at hL
    rcases hL.own.2 with ⟨rfl, _⟩ | ⟨g', cap, cur, rfl, _⟩
    · exact ⟨_, _, rfl, hL.below⟩
    · exact ⟨_, _, rfl, hL.below⟩
  obtain ⟨tl, ct, hcut, hti⟩ := tail_cut h1 g1
  have HTI : Hid (IntsI w (.slice tl t.length ct) t) := hti
  have HNR : Hid (∀ W, Below w.heap.size w W → Calls Try.prog 49 #[.int .i64 g, .slice tl t.length ct] W fun r w' => ∃ v', r = .returned (.tuple #[v', .int .i64 (redN g t).1]) ∧ Arr W.heap.size w'.heap.size w' v' (redN g t).2.1 (redN g t).2.2 ∧ Below W.heap.size W w') := fun W hb => neutralRow_impl (HTI.out.keep hb) (by omega)
  have HCR : Hid (∀ W x y, x.oneCell' = true → y.oneCell' = true → Calls Try.prog 48 #[.agg #[x, y]] W fun e w' => e = .returned (.func (.func 63) #[] #[.pointer (some ⟨W.heap.size, 0, none⟩)]) ∧ w' = W.alloc (.cells #[x, y] 26)) := fun W x y hx hy => (callsIn_wide (n := 5)).1 (cutRows_in 5 x y W hx hy)
  generalize redN g t = RR at *
  obtain ⟨C, S, D⟩ := RR
  simp only at HNR ⊢
  have HGC : Hid (w.cell? ⟨o, 0, none⟩ = some (.int .i64 g) ∧ o < w.heap.size) := ⟨hg, hol⟩
  clear ho hti h1 g1 k1 hg hol
  go_enter Try.func46, Try.ntmps46
  go_wp2_with fail
  refine (HCR.out _ _ _ rfl rfl).mono ?_
  rintro rr w2 ⟨rfl, hw⟩
  have hsz2 : w2.heap.size = w.heap.size + 4 := by rw [hw]; simp
  have BK : Hid (w2.heap[w.heap.size + 1]? = some (.cells #[.slice none 0 0, .slice none 0 0] 26 (0, 0)) ∧ w2.heap[w.heap.size + 2]? = some (.cells #[.int .i64 0] 3 (0, 0)) ∧ w2.heap[w.heap.size + 3]? = some (.cells #[.slice a (t.length + 1) c, .slice b d.length f] 26 (0, 0))) := by rw [hw]; exact blocks4r w _ _ _ _
  have X2 : Hid (Box w2 w.heap.size (.slice a (t.length + 1) c) (.slice b d.length f) 26) := by rw [hw]; exact Box.keep (box_new w _ _ _) (bAlloc (bAlloc (bAlloc (Below.refl _ _) _) _) _)
  have B2 : Hid (Below w.heap.size w w2) := by rw [hw]; exact bAlloc (bAlloc (bAlloc (bAlloc (Below.refl _ _) _) _) _) _
  clear hw
  go_wp2_with fail
  refine (HCO.out w2 (w.heap.size + 3) B2.out BK.out.2.2).mono ?_
  rintro rr w3 ⟨a3, c3, rfl, hb3⟩
  have X3 : Hid (Box w3 w.heap.size (.slice a (t.length + 1) c) (.slice b d.length f) 26) := X2.out.keep hb3
  have Y3 : Hid (Box w3 (w.heap.size + 1) (.slice none 0 0) (.slice none 0 0) 26) := Box.keep (w := w2) BK.out.1 hb3
  have I3 : Hid (w3.heap[w.heap.size + 2]? = some (.cells #[.int .i64 0] 3 (0, 0))) := (hb3.block _ (by omega)).trans BK.out.2.1
  have B3 : Hid (Below w.heap.size w w3) := bTrans B2.out hb3
  have L3 : Hid (w.heap.size + 4 ≤ w3.heap.size) := by have := hb3.size; show _ ≤ _; omega
  clear hb3
  have x0 := X3.out.c0
  have g3 : w3.cell? ⟨o, 0, none⟩ = some (.int .i64 g) := (B3.out.cell (p := ⟨o, 0, none⟩) HGC.out.2).trans HGC.out.1
  go_wp2_with fail
  go_region_with (go_at_call 49; refine (HNR.out _ (B3.out.drew)).mono ?_; rintro r w4 ⟨v4, rfl, ha, hb⟩; obtain ⟨s1, d1, rfl, p1, p2, p3⟩ := ha; obtain ⟨ta, tc, rfl, _⟩ := p1.ints; obtain ⟨da, dc, rfl, _⟩ := p2.ints; have hb4 : Below w3.heap.size w3 w4 := bTrans ((Below.refl w3.heap.size w3).drew) hb; have B4 : Hid (Below w.heap.size w w4) := bTrans B3.out hb4; have Y4 : Hid (Box w4 (w.heap.size + 1) (.slice none 0 0) (.slice none 0 0) 26) := Y3.out.keep hb4; have I4 : Hid (w4.heap[w.heap.size + 2]? = some (.cells #[.int .i64 0] 3 (0, 0))) := (hb4.block _ (by have := L3.out; omega)).trans I3.out; have A4 : Hid (Arr w3.heap.size w4.heap.size w4 (.agg #[.slice ta S.length tc, .slice da D.length dc]) S D) := ⟨_, _, rfl, p1, p2, p3⟩; clear p1 p2 p3 hb hb4; have y3 := Y4.out.c0; have y4 := Y4.out.c1; have f0 := free_at Y4.out 0; have f1 := free_at Y4.out 1; have y5 : w4.cell? ⟨w.heap.size + 1 + 1, 0, none⟩ = some (.int .i64 0) := cell_at I4.out rfl; have f2 : w4.frozen? ⟨w.heap.size + 1 + 1, 0, none⟩ = false := free_at I4.out 0)
  all_goals
    go_wp2
    have L := L3.out
    first
      | (obtain ⟨k1, k2, k3, k4⟩ := red0_end (w := w) (C := C) B4.out Y4.out I4.out A4.out (by omega) _ (.inl rfl)
         refine bodyPost_ret (results_arr_int rfl _ _ (w.heap.size + 1) (w.heap.size + 1 + 1) _ _ _ rfl rfl k1 k2) rfl ?_
         exact ⟨_, rfl, k3, k4⟩)
      | (obtain ⟨k1, k2, k3, k4⟩ := red0_end (w := w) (C := C) B4.out Y4.out I4.out A4.out (by omega) _ (.inr rfl)
         refine bodyPost_ret (results_arr_int rfl _ _ (w.heap.size + 1) (w.heap.size + 1 + 1) _ _ _ rfl rfl k1 k2) rfl ?_
         exact ⟨_, rfl, k3, k4⟩)
theorem reduceR_bad {g : Int} {s d : List Int} (h : ¬ (sign2 g = true ∧ arrOk s d = true)) : reduceR g s d = (1, [], []) := by unfold reduceR; rw [if_neg h]
theorem reduceR_nil {g : Int} {d : List Int} (h : sign2 g = true ∧ arrOk [] d = true) : reduceR g [] d = (0, [], d) := by unfold reduceR; rw [if_pos h, if_pos rfl]
theorem reduceR_some {g n0 : Int} {t d : List Int} (h : sign2 g = true ∧ arrOk (n0 :: t) d = true) (hn : 0 < n0) : reduceR g (n0 :: t) d = ((redL g t (rowsD (n0 :: t) d)).1, (if (redL g t (rowsD (n0 :: t) d)).1 = 0 then t else []), (redL g t (rowsD (n0 :: t) d)).2) := by
  unfold reduceR
  rw [if_pos h, if_neg (by simp), if_pos (by simpa using hn)]
  show mkR (redL g t (rowsD (n0 :: t) d)).1 t (redL g t (rowsD (n0 :: t) d)).2 = _
  unfold mkR
  by_cases h0 : (redL g t (rowsD (n0 :: t) d)).1 = 0
  · rw [if_pos h0, if_pos h0, h0]
  · rw [if_neg h0, if_neg h0, redL_none h0]
theorem reduceR_none {g : Int} {t d : List Int} (h : sign2 g = true ∧ arrOk (0 :: t) d = true) : reduceR g (0 :: t) d = redN g t := by
  unfold reduceR
  rw [if_pos h, if_neg (by simp), if_neg (by simp)]
  rfl
theorem reducing2_impl (g : Int) (w : World) :
    Calls Try.prog 27 #[.int .i64 g] w fun r w' => r = .returned (.func (.func 46) #[] #[.pointer (some ⟨w.heap.size, 0, none⟩)]) ∧ w'.cell? ⟨w.heap.size, 0, none⟩ = some (.int .i64 g) ∧ Below w.heap.size w w' ∧ w.heap.size < w'.heap.size := by
  refine (reducing_impl g w).mono ?_
  rintro r w' ⟨rfl, rfl⟩
  exact ⟨rfl, cell_at (heap_alloc_new w _) rfl, bAlloc (Below.refl _ _) _, by simp⟩
set_option maxRecDepth 20000 in
set_option maxHeartbeats 4000000 in
/-- Reduce. -/
theorem reduce_impl {g : Int} {s d : List Int} {w : World} {v : Value} (h : ArrI w v s d) (hs : s.length ≤ 1048576) (hd : d.length ≤ 1048576) :
    Calls Try.prog 8 #[.int .i64 g, v] w fun r w' => ∃ v', r = .returned (.tuple #[v', .int .i64 (reduceR g s d).1]) ∧ Arr w.heap.size w'.heap.size w' v' (reduceR g s d).2.1 (reduceR g s d).2.2 ∧ Below w.heap.size w w' := by
  have H : Hid (ArrI w v s d) := h
  have HAL : Hid (∀ (W : World) (u : Value) (o : Nat), ArrI W u s d → W.cell? ⟨o, 0, none⟩ = some (.int .i64 g) → o < W.heap.size → Calls Try.prog 26 #[.int .i64 g, u, .func (.func 46) #[] #[.pointer (some ⟨o, 0, none⟩)]] W fun r w' => ∃ v', r = .returned (.tuple #[v', .int .i64 (reduceR g s d).1]) ∧ Arr W.heap.size w'.heap.size w' v' (reduceR g s d).2.1 (reduceR g s d).2.2 ∧ Below W.heap.size W w') := fun W u o hu hg lg => by
    refine along_impl (enters_of Try.func46 (by kernel_rfl) rfl) hu hs hd (fun q => ?_) (fun q e => ?_) (fun W' u' q1 q2 q3 hb hu' => ?_)
    · rw [reduceR_bad q]; exact ⟨rfl, rfl, rfl⟩
    · subst e; rw [reduceR_nil q]; exact ⟨rfl, rfl, rfl⟩
    · cases s with
      | nil => exact absurd rfl q3
      | cons n0 t =>
        have hh := head_bd q2
        simp only [List.getD_cons_zero] at hh
        by_cases hn : 0 < n0
        · rw [reduceR_some ⟨q1, q2⟩ hn]
          exact reduce1_impl hu' q2 hn ((hb.cell (p := ⟨o, 0, none⟩) lg).trans hg) (Nat.lt_of_lt_of_le lg hb.size)
        · obtain rfl : n0 = 0 := by omega
          rw [reduceR_none ⟨q1, q2⟩]
          exact reduce0_impl hu' q2 ((hb.cell (p := ⟨o, 0, none⟩) lg).trans hg) (Nat.lt_of_lt_of_le lg hb.size)
  obtain ⟨C, hC⟩ : ∃ C, C = (reduceR g s d).1 := ⟨_, rfl⟩
  obtain ⟨S, hS⟩ : ∃ S, S = (reduceR g s d).2.1 := ⟨_, rfl⟩
  obtain ⟨D, hD⟩ : ∃ D, D = (reduceR g s d).2.2 := ⟨_, rfl⟩
  rw [← hS, ← hC, ← hD] at HAL
  rw [← hS, ← hC, ← hD]
  obtain ⟨a, c, b, e, rfl, _, _, _, _⟩ := h
  obtain ⟨W1, hW1⟩ : ∃ W1, W1 = (w.alloc (.cells #[.slice a s.length c, .slice b d.length e] 26)).alloc (.cells #[.slice none 0 0, .slice none 0 0] 26) := ⟨_, rfl⟩
  have BW1 : Hid (Below w.heap.size w W1) := by rw [hW1]; exact bAlloc (bAlloc (Below.refl _ _) _) _
  have X1 : Hid (Box W1 w.heap.size (.slice a s.length c) (.slice b d.length e) 26) := by rw [hW1]; exact heap_alloc2_old w _ _
  have Y1 : Hid (Box W1 (w.heap.size + 1) (.slice none 0 0) (.slice none 0 0) 26) := by rw [hW1]; exact heap_alloc2_new w _ _
  have z0 := X1.out.c0
  have z1 := X1.out.c1
  clear hC hS hD hs hd
  go_enter Try.func8, Try.ntmps8
  go_wp2_with fail
  rw [← hW1]
  clear hW1
  go_region_with (first
    | (go_at_call 27; refine (reducing2_impl _ _).mono ?_; rintro r w2 ⟨rfl, hc1, hb, hsz⟩; have HB2 : Hid (Below W1.heap.size W1 w2) := bTrans ((Below.refl W1.heap.size W1).drew) hb; have HC2 : Hid (_ ∧ _) := ⟨hc1, hsz⟩; clear hc1 hb hsz; have y0 := (X1.out.keep HB2.out).c0; have y1 := (X1.out.keep HB2.out).c1)
    | (go_at_call 26; refine (HAL.out _ _ _ (H.out.keep (bTrans BW1.out HB2.out)) HC2.out.1 HC2.out.2).mono ?_; rintro r w3 ⟨v3, rfl, ha, hb⟩; obtain ⟨s1, d1, rfl, p1, p2, p3⟩ := ha; obtain ⟨ta, tc, rfl, _⟩ := p1.ints; obtain ⟨da, dc, rfl, _⟩ := p2.ints; have HB3 : Hid (Below W1.heap.size W1 w3) := bTrans HB2.out hb; have Y3 : Hid (Box w3 (w.heap.size + 1) (.slice none 0 0) (.slice none 0 0) 26) := Y1.out.keep HB3.out; have A3 : Hid (Arr W1.heap.size w3.heap.size w3 (.agg #[.slice ta S.length tc, .slice da D.length dc]) S D) := Arr.mono ⟨_, _, rfl, p1, p2, p3⟩ HB2.out.size (Nat.le_refl _); clear p1 p2 p3 hb; have y3 := Y3.out.c0; have y4 := Y3.out.c1; have f0 := free_at Y3.out 0; have f1 := free_at Y3.out 1; have HRR : Hid (_ = _) := arr_stored (x' := .slice ta S.length tc) (y' := .slice da D.length dc) Y3.out))
  all_goals
    go_wp2
    refine bodyPost_ret (results_arr_tmp Try.results8 _ _ (w.heap.size + 1) _ _ rfl HRR.out) rfl ?_
    refine ⟨_, rfl, ?_, below_setCell (below_setCell (bTrans BW1.out HB3.out) (by omega) _ _) (by omega) _ _⟩
    have L1 := Y1.out.lt
    exact ((A3.out.setCell (by omega) _ _).setCell (by omega) _ _).mono (by omega) (by simp only [size_setCell]; omega)
end Go.Proofs.Ytdobohobhpailaa
namespace Go.Proofs.Ytdobohobhpailaa
set_option linter.unusedVariables false
/-- One number with each of a list: the first code, the numbers. -/
def spreadC (g x : Int) (e : List Int) : Int := firstC (fun j => (twoV g x (e.getD j 0)).2) e.length
def spreadD (g x : Int) (e : List Int) (n : Nat) : List Int := (List.range n).map (fun j => (twoV g x (e.getD j 0)).1)
/-- The first n numbers of d with each of e. -/
def outC (g : Int) (d e : List Int) (n : Nat) : Int := firstC (fun i => spreadC g (d.getD i 0) e) n
def outD (g : Int) (d e : List Int) (n : Nat) : List Int := (List.range n).flatMap (fun i => spreadD g (d.getD i 0) e e.length)
def outerC (g : Int) (s d t e : List Int) : Int := if arrOk s d = true ∧ arrOk t e = true ∧ sign2 g = true then (if 3 < s.length + t.length then 4 else if sizeV (s ++ t) < 0 then 6 else outC g d e d.length) else 1
def outerR (g : Int) (s d t e : List Int) : Int × List Int × List Int := mkR (outerC g s d t e) (s ++ t) (outD g d e d.length)
theorem outerR_bad {g : Int} {s d t e : List Int} (h : ¬ (arrOk s d = true ∧ arrOk t e = true ∧ sign2 g = true)) : outerR g s d t e = (1, [], []) := by
  unfold outerR; rw [show outerC g s d t e = 1 from by unfold outerC; rw [if_neg h]]; rfl
theorem outerR_told {g : Int} {s d t e : List Int} (h1 : arrOk s d = true) (h2 : arrOk t e = true) (h3 : sign2 g = true) :
    outerR g s d t e = if 3 < s.length + t.length then (4, [], []) else if sizeV (s ++ t) < 0 then (6, [], []) else mkR (outC g d e d.length) (s ++ t) (outD g d e d.length) := by
  unfold outerR outerC
  rw [if_pos ⟨h1, h2, h3⟩]
  split
  · rfl
  · split <;> rfl
theorem spreadD_len (g x : Int) (e : List Int) (n : Nat) : (spreadD g x e n).length = n := by simp [spreadD]
theorem spreadD_succ (g x : Int) (e : List Int) (n : Nat) : spreadD g x e (n + 1) = spreadD g x e n ++ [(twoV g x (e.getD n 0)).1] := by
  unfold spreadD; rw [List.range_succ, List.map_append]; rfl
theorem outD_succ (g : Int) (d e : List Int) (n : Nat) : outD g d e (n + 1) = outD g d e n ++ spreadD g (d.getD n 0) e e.length := by
  unfold outD; rw [List.range_succ, List.flatMap_append]; simp
theorem outD_len (g : Int) (d e : List Int) (n : Nat) : (outD g d e n).length = n * e.length := by
  induction n with
  | zero => simp [outD]
  | succ n ih => rw [outD_succ, List.length_append, ih, spreadD_len, Nat.succ_mul]
/-- A number of rank 0 and an array, element by element. -/
theorem each_spread {g x : Int} {t e : List Int} (hx : ok x = true) (h2 : arrOk t e = true) (h3 : sign2 g = true) :
    eachTwoC g [] [x] t e = spreadC g x e ∧ eachTwoS g [] [x] t e = (if spreadC g x e = 0 then t else []) ∧ eachTwoD g [] [x] t e = (if spreadC g x e = 0 then spreadD g x e e.length else []) := by
  have h1 : arrOk [] [x] = true := by simp [arrOk, hx, sizeV_0']
  have hf : fitC [] [x] t e = 0 := by unfold fitC; rw [if_pos ⟨h1, h2⟩, if_pos (.inl rfl)]
  have hS : fitS [] [x] t e = t := by unfold fitS; rw [if_pos hf, if_pos rfl]
  have z2 := arrOk_size h2
  have hN : eachN [] [x] t e = e.length := by unfold eachN; rw [hS]; omega
  have hn : ∀ i, i < e.length → numOf t e i = e.getD i 0 := by
    intro i hi
    unfold numOf
    by_cases ht : t = []
    · subst ht
      rw [sizeV_0'] at z2
      rw [if_pos rfl, show i = 0 by omega]
    · rw [if_neg ht]
  have hm : ∀ i, numOf [] [x] i = x := fun i => by unfold numOf; simp
  have hC : eachTwoC g [] [x] t e = spreadC g x e := by
    unfold eachTwoC spreadC
    rw [if_pos ⟨h1, h2, h3⟩, if_pos hf, hN]
    exact firstC_eq fun i hi => by rw [hm, hn i hi]
  refine ⟨hC, ?_, ?_⟩
  · unfold eachTwoS; rw [hC, hS]
  · unfold eachTwoD spreadD
    rw [hC, hN]
    split
    · apply List.map_congr_left
      intro i hi
      rw [hm, hn i (by simpa using hi)]
    · rfl
end Go.Proofs.Ytdobohobhpailaa
namespace Go.Proofs.Ytdobohobhpailaa
set_option linter.unusedVariables false
set_option linter.unusedSimpArgs false
/-- A vector, reduced: code and number. -/
def redW (g : Int) : List Int → Int × Int
  | [] => (0, 0)
  | x :: xs => if xs = [] then (0, x) else if (redW g xs).1 = 0 then ((twoV g x (redW g xs).2).2, (twoV g x (redW g xs).2).1) else ((redW g xs).1, 0)
theorem each_scalar {g x y : Int} (hx : ok x = true) (hy : ok y = true) (hg : sign2 g = true) : eachTwoC g [] [x] [] [y] = (twoV g x y).2 ∧ eachTwoD g [] [x] [] [y] = (if (twoV g x y).2 = 0 then [(twoV g x y).1] else []) := by
  have h2 : arrOk [] [y] = true := by simp [arrOk, hy, sizeV_0']
  obtain ⟨e1, _, e3⟩ := each_spread hx h2 hg
  have c : spreadC g x [y] = (twoV g x y).2 := by simp [spreadC, firstC]
  rw [e1, e3, c]
  refine ⟨rfl, ?_⟩
  simp [spreadD]
theorem redW_ok {g : Int} {l : List Int} (hl : l ≠ []) (h : ∀ x ∈ l, ok x = true) (h0 : (redW g l).1 = 0) : ok (redW g l).2 = true := by
  cases l with
  | nil => exact absurd rfl hl
  | cons x xs =>
    unfold redW at *
    by_cases e : xs = []
    · rw [if_pos e]; exact h x (by simp)
    · rw [if_neg e] at *
      by_cases q : (redW g xs).1 = 0
      · rw [if_pos q] at *; exact two_ok h0
      · rw [if_neg q] at *; exact absurd h0 q
theorem redL_vec {g : Int} (hg : sign2 g = true) {l : List Int} (hl : l ≠ []) (h : ∀ x ∈ l, ok x = true) : redL g [] (l.map (fun x => [x])) = ((redW g l).1, if (redW g l).1 = 0 then [(redW g l).2] else []) := by
  induction l with
  | nil => exact absurd rfl hl
  | cons x xs ih =>
    rw [List.map_cons]
    by_cases e : xs = []
    · subst e
      rw [List.map_nil, redL_one]
      simp [redW]
    · have q := ih e (fun y hy => h y (by simp [hy]))
      have hne : xs.map (fun x => [x]) ≠ [] := by simpa using e
      by_cases h0 : (redW g xs).1 = 0
      · have hk := redW_ok e (fun y hy => h y (by simp [hy])) h0
        have e2 : redL g [] (xs.map (fun x => [x])) = (0, [(redW g xs).2]) := by rw [q, h0]; rfl
        obtain ⟨s1, s2⟩ := each_scalar (g := g) (x := x) (y := (redW g xs).2) (h x (by simp)) hk hg
        rw [redL_cons hne (by rw [e2]), e2]
        simp only []
        rw [s1, s2]
        have e3 : redW g (x :: xs) = ((twoV g x (redW g xs).2).2, (twoV g x (redW g xs).2).1) := by rw [redW, if_neg e, if_pos h0]
        rw [e3]
      · have e3 : redW g (x :: xs) = ((redW g xs).1, 0) := by rw [redW, if_neg e, if_neg h0]
        rw [redL_stop (by rw [q]; exact h0), q, e3]
        simp [h0]
theorem rowsD_vec {n : Int} {d : List Int} (h : arrOk [n] d = true) : rowsD [n] d = d.map (fun x => [x]) := by
  have z := arrOk_size h
  rw [(sizeV_ok (arrOk_shape h)).2.2.2, prod1] at z
  subst z
  apply List.ext_getElem
  · simp [rowsD, rowsN]
  · intro i h1 h2
    have hi : i < d.length := by simpa using h2
    simp only [rowsD, List.getElem_map, List.getElem_range]
    have e : rowN [(d.length : Int)] = 1 := by simp [rowN, sizeV_0']
    unfold rowAt
    rw [e, Nat.mul_one]
    have q := List.drop_eq_getElem_cons hi
    rw [q]
    rfl
/-- Reduce of a vector. -/
theorem reduce_vec {g n : Int} {d : List Int} (hg : sign2 g = true) (h : arrOk [n] d = true) (hn : ok (neu g).1 = true) : reduceR g [n] d = if d = [] then (0, [], [(neu g).1]) else ((redW g d).1, [], if (redW g d).1 = 0 then [(redW g d).2] else []) := by
  have z := arrOk_size h
  rw [(sizeV_ok (arrOk_shape h)).2.2.2, prod1] at z
  by_cases hd : d = []
  · subst hd
    rw [if_pos rfl]
    obtain rfl : n = 0 := by simpa using z
    rw [reduceR_none ⟨hg, h⟩]
    have a1 : arrOk [(([] : List Int).length : Int)] [] = true := h
    have a2 : arrOk [] [(neu g).1] = true := by simp [arrOk, hn, sizeV_0']
    unfold redN reshapeR reshapeC
    rw [if_pos ⟨a1, a2⟩]
    simp [sizeV_0', mkR, againD]
  · rw [if_neg hd]
    have hp : 0 < n := by have := List.length_pos_iff.2 hd; omega
    have hall : ∀ x ∈ d, ok x = true := by
      simp only [arrOk, Bool.and_eq_true, List.all_eq_true] at h
      exact h.2
    rw [reduceR_some ⟨hg, h⟩ hp, rowsD_vec h, redL_vec hg hd hall]
    simp
theorem dim_ok {x : Int} (h : dimOk x = true) : 0 ≤ x ∧ x ≤ 300 := by
  unfold dimOk at h
  simp at h
  omega
theorem mul_two {x y : Int} (hx : 0 ≤ x) (hx2 : x ≤ 300) (hy : 0 ≤ y) (hy2 : y ≤ 90000) : twoV 42 x y = (x * y, 0) := by
  have k1 : ok x = true := by simp [ok]; omega
  have k2 : ok y = true := by simp [ok]; omega
  have h1 : 0 ≤ x * y := Int.mul_nonneg hx hy
  have h2 : x * y ≤ 300 * 90000 := Int.le_trans (Int.mul_le_mul_of_nonneg_right hx2 hy) (Int.mul_le_mul_of_nonneg_left hy2 (by omega))
  have k3 : ok (x * y) = true := by simp [ok]; omega
  rw [twoV_42 k1 k2, (lim_yes k3).1, (lim_yes k3).2]
/-- The product of a shape. -/
theorem count_prod {s : List Int} (hs : s ≠ []) (h : 0 ≤ sizeV s) : redW 42 s = (0, sizeV s) := by
  obtain ⟨k1, k2, k3, k4⟩ := sizeV_ok h
  rw [k4]
  rcases len3 k1 with rfl | ⟨x, rfl⟩ | ⟨x, y, rfl⟩ | ⟨x, y, z, rfl⟩
  · exact absurd rfl hs
  · rw [prod1]; rfl
  · simp only [List.all_cons, List.all_nil, Bool.and_true, Bool.and_eq_true] at k2
    have a := dim_ok k2.1
    have b := dim_ok k2.2
    rw [prod2]
    have e1 : redW 42 [y] = (0, y) := rfl
    rw [redW, if_neg (by simp), e1, if_pos rfl, mul_two a.1 a.2 b.1 (by omega)]
  · simp only [List.all_cons, List.all_nil, Bool.and_true, Bool.and_eq_true] at k2
    have a := dim_ok k2.1
    have b := dim_ok k2.2.1
    have c := dim_ok k2.2.2
    have h1 : 0 ≤ y * z := Int.mul_nonneg b.1 c.1
    have h2 : y * z ≤ 300 * 300 := Int.le_trans (Int.mul_le_mul_of_nonneg_right b.2 c.1) (Int.mul_le_mul_of_nonneg_left c.2 (by omega))
    rw [prod3]
    have e1 : redW 42 [z] = (0, z) := rfl
    have e2 : redW 42 [y, z] = (0, y * z) := by rw [redW, if_neg (by simp), e1, if_pos rfl, mul_two b.1 b.2 c.1 (by omega)]
    rw [redW, if_neg (by simp), e2, if_pos rfl, mul_two a.1 a.2 h1 (by omega), Int.mul_assoc]
theorem shape_vec {s d : List Int} (ho : arrOk s d = true) : arrOk [(s.length : Int)] s = true := by
  obtain ⟨k1, k2, k3, k4⟩ := sizeV_ok (arrOk_shape ho)
  simp only [arrOk, Bool.and_eq_true, decide_eq_true_eq, List.all_eq_true]
  refine ⟨?_, fun x hx => ?_⟩
  · unfold sizeV
    rw [if_neg (by simp), if_pos (by simp [dimOk]; omega), prod1, if_neg (by omega)]
  · have := dim_ok (List.all_eq_true.1 k2 x hx)
    simp [ok]
    omega
/-- A shape's numbers, multiplied. -/
theorem count_all {s d : List Int} (ho : arrOk s d = true) : reduceR 42 [(s.length : Int)] s = (0, [], [(d.length : Int)]) := by
  rw [reduce_vec (by decide) (shape_vec ho) (by decide)]
  have z := arrOk_size ho
  by_cases hs : s = []
  · subst hs
    rw [if_pos rfl]
    rw [sizeV_0'] at z
    rw [← z]; rfl
  · rw [if_neg hs, count_prod hs (arrOk_shape ho), z]; rfl
end Go.Proofs.Ytdobohobhpailaa
namespace Go.Proofs.Ytdobohobhpailaa
set_option linter.unusedVariables false
theorem foldl_mul5 (a : Int) (l : List Int) : l.foldl (fun x y => x * y) a = a * l.foldl (fun x y => x * y) 1 := by
  induction l generalizing a with
  | nil => simp
  | cons x l ih => rw [List.foldl_cons, List.foldl_cons, ih (a * x), ih (1 * x), Int.one_mul, Int.mul_assoc]
theorem prodV_cons5 (x : Int) (l : List Int) : prodV (x :: l) = x * prodV l := by
  unfold prodV
  rw [List.foldl_cons, foldl_mul5, Int.one_mul]
theorem tail5 {n0 : Int} {t : List Int} (h : 0 ≤ sizeV (n0 :: t)) (hp : 0 < n0) : 0 ≤ sizeV t ∧ n0 * sizeV t = sizeV (n0 :: t) ∧ sizeV t ≤ 300 := by
  obtain ⟨k1, k2, k3, k4⟩ := sizeV_ok h
  rw [prodV_cons5] at k3 k4
  simp only [List.all_cons, Bool.and_eq_true] at k2
  have p0 := (prodV_bd t k2.2).1
  have p1 : 1 * prodV t ≤ n0 * prodV t := Int.mul_le_mul_of_nonneg_right (by omega) p0
  rw [Int.one_mul] at p1
  have e : sizeV t = prodV t := by
    unfold sizeV
    rw [if_neg (by simp at k1; omega), if_pos k2.2, if_neg (by omega)]
  rw [e]
  exact ⟨p0, by rw [← k4], by omega⟩
theorem zero5 {t : List Int} (h : 0 ≤ sizeV (0 :: t)) : sizeV (0 :: t) = 0 := by
  rw [(sizeV_ok h).2.2.2, prodV_cons5, Int.zero_mul]
theorem dim5 {n0 : Int} {t : List Int} (h : 0 ≤ sizeV (n0 :: t)) : 0 ≤ n0 ∧ n0 ≤ 300 := by
  have := (sizeV_ok h).2.1
  rw [List.all_eq_true] at this
  have := this n0 (by simp)
  simpa [dimOk] using this
theorem rowsN5 {s d : List Int} (ho : arrOk s d = true) : rowsN s ≤ 300 ∧ s.getD 0 0 = (rowsN s : Int) := by
  have := head_bd ho
  unfold rowsN
  omega
theorem rows5 {s d : List Int} (ho : arrOk s d = true) (hs : s ≠ []) : rowsN s * rowN s = d.length := by
  obtain ⟨e1, e2⟩ := rowsN5 ho
  have z := arrOk_size ho
  have h := arrOk_shape ho
  cases s with
  | nil => exact absurd rfl hs
  | cons n0 t =>
    have h0 : n0 = (rowsN (n0 :: t) : Int) := e2
    have : rowN (n0 :: t) = (sizeV t).toNat := rfl
    by_cases hp : 0 < n0
    · obtain ⟨p0, p1, p2⟩ := tail5 h hp
      have q : ((rowsN (n0 :: t) * rowN (n0 :: t) : Nat) : Int) = (d.length : Int) := by
        rw [this, Int.natCast_mul, ← h0, Int.toNat_of_nonneg p0, p1, z]
      omega
    · have hz : rowsN (n0 :: t) = 0 := by omega
      have e : n0 = 0 := by omega
      subst e
      rw [zero5 h] at z
      rw [hz, Nat.zero_mul]
      omega
/-- One chosen row: that of a number, or noughts. -/
def chosenRow (s d : List Int) (j : Int) : List Int := if 0 ≤ j ∧ j < s.getD 0 0 then rowAt s d j.toNat else List.replicate (rowN s) 0
def chosenD (s d : List Int) (φ : Nat → Int) (n : Nat) : List Int := (List.range n).flatMap fun i => chosenRow s d (φ i)
theorem rowAt_length {s d : List Int} (ho : arrOk s d = true) (hs : s ≠ []) {i : Nat} (hi : i < rowsN s) : (rowAt s d i).length = rowN s := by
  have q := rows5 ho hs
  have : (i + 1) * rowN s ≤ rowsN s * rowN s := Nat.mul_le_mul_right _ (by omega)
  rw [Nat.succ_mul] at this
  unfold rowAt
  simp
  omega
theorem chosenRow_length {s d : List Int} (ho : arrOk s d = true) (hs : s ≠ []) (j : Int) : (chosenRow s d j).length = rowN s := by
  unfold chosenRow
  split
  · rename_i h
    have := (rowsN5 ho).2
    exact rowAt_length ho hs (by omega)
  · simp
theorem flat_len {n m : Nat} {f : Nat → List Int} (h : ∀ i, (f i).length = m) : ((List.range n).flatMap f).length = n * m := by
  induction n with
  | zero => simp
  | succ n ih => rw [List.range_succ, List.flatMap_append, List.length_append, ih, Nat.succ_mul]; simp [h]
theorem chosenD_length {s d : List Int} (ho : arrOk s d = true) (hs : s ≠ []) (φ : Nat → Int) (n : Nat) : (chosenD s d φ n).length = n * rowN s := flat_len (fun i => chosenRow_length ho hs (φ i))
theorem chosenD_succ (s d : List Int) (φ : Nat → Int) (n : Nat) : chosenD s d φ (n + 1) = chosenD s d φ n ++ chosenRow s d (φ n) := by
  unfold chosenD; rw [List.range_succ, List.flatMap_append]; simp
/-- The first k rows of n are chosen. -/
def chosenTo (s d : List Int) (φ : Nat → Int) (n k : Nat) : List Int := chosenD s d φ k ++ List.replicate ((n - k) * rowN s) 0
theorem chosenTo_zero (s d : List Int) (φ : Nat → Int) (n : Nat) : chosenTo s d φ n 0 = List.replicate (n * rowN s) 0 := by simp [chosenTo, chosenD]
theorem chosenTo_all (s d : List Int) (φ : Nat → Int) (n : Nat) : chosenTo s d φ n n = chosenD s d φ n := by simp [chosenTo]
theorem chosenTo_length {s d : List Int} (ho : arrOk s d = true) (hs : s ≠ []) (φ : Nat → Int) {n k : Nat} (hk : k ≤ n) : (chosenTo s d φ n k).length = n * rowN s := by
  unfold chosenTo
  rw [List.length_append, chosenD_length ho hs, List.length_replicate, ← Nat.add_mul]
  congr 1
  omega
theorem chosenTo_no {s d : List Int} {φ : Nat → Int} {n k : Nat} (hk : k < n) (h : ¬ (0 ≤ φ k ∧ φ k < s.getD 0 0)) : chosenTo s d φ n k = chosenTo s d φ n (k + 1) := by
  unfold chosenTo
  rw [chosenD_succ]
  unfold chosenRow
  rw [if_neg h, List.append_assoc, List.replicate_append_replicate]
  congr 2
  rw [show n - k = (n - (k + 1)) + 1 by omega, Nat.succ_mul, Nat.add_comm]
theorem chosenTo_yes {s d : List Int} (ho : arrOk s d = true) (hs : s ≠ []) {φ : Nat → Int} {n k : Nat} (hk : k < n) (h : 0 ≤ φ k ∧ φ k < s.getD 0 0) : paste (chosenTo s d φ n k) (k * rowN s) (d.drop ((φ k).toNat * rowN s)) (rowN s) = chosenTo s d φ n (k + 1) := by
  have l0 := chosenD_length ho hs φ k
  unfold paste chosenTo
  rw [chosenD_succ]
  have e1 : chosenRow s d (φ k) = (d.drop ((φ k).toNat * rowN s)).take (rowN s) := by unfold chosenRow; rw [if_pos h]; rfl
  have e2 : (chosenD s d φ k).drop (k * rowN s + rowN s) = [] := List.drop_of_length_le (by omega)
  rw [e1, List.take_append_of_le_length (by omega), List.take_of_length_le (by omega), List.drop_append, l0, e2, List.nil_append, List.drop_replicate]
  congr 2
  rw [show n - k = (n - (k + 1)) + 1 by omega, Nat.succ_mul]
  omega
end Go.Proofs.Ytdobohobhpailaa
namespace Go.Proofs.Ytdobohobhpailaa
set_option linter.unusedVariables false
theorem chosen_in {s d : List Int} (ho : arrOk s d = true) (hs : s ≠ []) {f : Nat} {φ : Nat → Int} : ∀ (n : Nat), f + n ≤ rowsN s → (∀ k, k < n → φ k = ((f + k : Nat) : Int)) → chosenD s d φ n = (d.drop (f * rowN s)).take (n * rowN s) := by
  have e2 := (rowsN5 ho).2
  intro n
  induction n with
  | zero => intro _ _; simp [chosenD]
  | succ n ih =>
    intro h hφ
    rw [chosenD_succ, ih (by omega) (fun k hk => hφ k (by omega)), Nat.succ_mul, List.take_add, List.drop_drop]
    congr 1
    unfold chosenRow
    rw [hφ n (by omega), if_pos ⟨by omega, by rw [e2]; omega⟩, Int.toNat_natCast]
    unfold rowAt
    rw [Nat.add_mul]
theorem chosen_out {s d : List Int} {φ : Nat → Int} : ∀ (n : Nat), (∀ k, k < n → ¬ (0 ≤ φ k ∧ φ k < s.getD 0 0)) → chosenD s d φ n = List.replicate (n * rowN s) 0 := by
  intro n
  induction n with
  | zero => intro _; simp [chosenD]
  | succ n ih =>
    intro h
    rw [chosenD_succ, ih (fun k hk => h k (by omega))]
    unfold chosenRow
    rw [if_neg (h n (by omega)), List.replicate_append_replicate, Nat.succ_mul]
theorem chosen_add (s d : List Int) (φ : Nat → Int) (m : Nat) : ∀ n, chosenD s d φ (m + n) = chosenD s d φ m ++ chosenD s d (fun k => φ (m + k)) n := by
  intro n
  induction n with
  | zero => simp [chosenD]
  | succ n ih => rw [← Nat.add_assoc, chosenD_succ, ih, chosenD_succ, List.append_assoc]
theorem rowsS_ok {t e : List Int} (h : arrOk t e = true) : arrOk (rowsS t) e = true ∧ rowsS t ≠ [] ∧ vecS t e = rowsS t := by
  unfold rowsS vecS
  by_cases ht : t = []
  · subst ht
    have z := arrOk_size h
    rw [sizeV_0'] at z
    have e1 : e.length = 1 := by omega
    refine ⟨?_, by simp, by rw [if_pos rfl, if_pos rfl, e1]; rfl⟩
    unfold arrOk at *
    rw [if_pos rfl]
    rw [Bool.and_eq_true] at *
    exact ⟨by rw [e1]; decide, h.2⟩
  · rw [if_neg ht, if_neg ht]
    exact ⟨h, ht, rfl⟩
theorem take_chosen {t e : List Int} {x : Int} (h : arrOk t e = true) : chosenD (rowsS t) e (fun k => (if x < 0 then (rowsS t).getD 0 0 + x else 0) + (k : Int)) (manyV x).toNat = takeD x t e := by
  obtain ⟨ho, hs, hv⟩ := rowsS_ok h
  obtain ⟨e1, e2⟩ := rowsN5 ho
  have q := rows5 ho hs
  unfold takeD haveN
  rw [hv]
  generalize hM : (manyV x).toNat = M
  generalize hH : min M (rowsN (rowsS t)) = H
  by_cases hx : 0 ≤ x
  · rw [if_pos hx]
    have : M = H + (M - H) := by omega
    conv => lhs; rw [this]
    rw [chosen_add, chosen_in ho hs (f := 0) H (by omega) (fun k hk => by rw [if_neg (by omega)]; omega), chosen_out (M - H) (fun k hk => by rw [if_neg (by omega), e2]; omega)]
    simp
  · rw [if_neg hx]
    have hm : (M : Int) = -x := by rw [← hM]; unfold manyV; rw [if_neg (by omega)]; omega
    have : M = (M - H) + H := by omega
    conv => lhs; rw [this]
    rw [chosen_add, chosen_out (M - H) (fun k hk => by rw [if_pos (by omega), e2]; omega), chosen_in ho hs (f := rowsN (rowsS t) - H) H (by omega) (fun k hk => by rw [if_pos (by omega), e2]; omega)]
    congr 1
    apply List.take_of_length_le
    rw [List.length_drop, ← q, ← Nat.sub_mul]
    apply Nat.mul_le_mul_right
    omega
theorem drop_chosen {t e : List Int} {x : Int} (h : arrOk t e = true) : chosenD (rowsS t) e (fun k => (if x < 0 then 0 else x) + (k : Int)) (rowsN (vecS t e) - haveN x t e) = dropD x t e := by
  obtain ⟨ho, hs, hv⟩ := rowsS_ok h
  obtain ⟨e1, e2⟩ := rowsN5 ho
  have q := rows5 ho hs
  unfold dropD haveN
  rw [hv]
  generalize hM : (manyV x).toNat = M
  generalize hH : min M (rowsN (rowsS t)) = H
  by_cases hx : 0 ≤ x
  · rw [if_pos hx]
    have hm : (M : Int) = x := by rw [← hM]; unfold manyV; split <;> omega
    by_cases hc : M ≤ rowsN (rowsS t)
    · rw [chosen_in ho hs (f := H) (rowsN (rowsS t) - H) (by omega) (fun k hk => by rw [if_neg (by omega)]; omega)]
      apply List.take_of_length_le
      rw [List.length_drop, ← q, ← Nat.sub_mul]
      exact Nat.le_refl _
    · have hz : rowsN (rowsS t) - H = 0 := by omega
      have hz2 : H = rowsN (rowsS t) := by omega
      rw [hz, hz2, q, List.drop_length]
      rfl
  · rw [if_neg hx]
    rw [chosen_in ho hs (f := 0) (rowsN (rowsS t) - H) (by omega) (fun k hk => by rw [if_pos (by omega)]; omega)]
    simp
theorem drop_count {t e : List Int} {x : Int} (h : arrOk t e = true) : (((rowsN (vecS t e) - haveN x t e : Nat)) : Int) = max (if x < 0 then (rowsS t).getD 0 0 + x else (rowsS t).getD 0 0 - x) 0 := by
  obtain ⟨ho, hs, hv⟩ := rowsS_ok h
  obtain ⟨e1, e2⟩ := rowsN5 ho
  unfold haveN manyV
  rw [hv, e2]
  by_cases hx : x < 0
  · rw [if_pos hx, if_neg (by omega)]; omega
  · rw [if_neg hx]; split <;> omega
end Go.Proofs.Ytdobohobhpailaa
namespace Go.Proofs.Ytdobohobhpailaa
set_option linter.unusedVariables false
theorem join_right {m n : Int} {tl d e : List Int} (h1 : arrOk (m :: tl) d = true) (h2 : arrOk (n :: tl) e = true) (hz : 0 ≤ sizeV ((m + n) :: tl)) : arrOk ((m + n) :: tl) (d ++ e) = true := by
  have k1 := (sizeV_ok (arrOk_shape h1)).2.2.2
  have k2 := (sizeV_ok (arrOk_shape h2)).2.2.2
  have k3 := (sizeV_ok hz).2.2.2
  have z1 := arrOk_size h1
  have z2 := arrOk_size h2
  rw [prodV_cons5] at k1 k2 k3
  have hd : d.all ok = true := by unfold arrOk at h1; rw [Bool.and_eq_true] at h1; exact h1.2
  have he : e.all ok = true := by unfold arrOk at h2; rw [Bool.and_eq_true] at h2; exact h2.2
  unfold arrOk
  rw [Bool.and_eq_true]
  refine ⟨?_, by rw [List.all_append, hd, he]; rfl⟩
  rw [decide_eq_true_eq, List.length_append, k3, Int.add_mul]
  push_cast
  omega
theorem rows_cons {t e : List Int} (h : arrOk t e = true) : ∃ m tl, rowsS t = m :: tl ∧ 0 ≤ m ∧ m ≤ 300 ∧ arrOk (m :: tl) e = true ∧ tl.length ≤ 2 := by
  obtain ⟨r1, r2, r3⟩ := rowsS_ok h
  have hb := head_bd r1
  have hl := (sizeV_ok (arrOk_shape r1)).1
  cases hq : rowsS t with
  | nil => exact absurd hq r2
  | cons m tl =>
    rw [hq] at r1 hb hl
    simp at hb hl
    exact ⟨m, tl, rfl, by omega, by omega, r1, by omega⟩
/-- Join, told by the heads and tails of the two shapes. -/
theorem joinR_bad {s d t e : List Int} (h : ¬ (arrOk s d = true ∧ arrOk t e = true)) : joinR s d t e = (1, [], []) := by
  unfold joinR joinC; rw [if_neg h]; rfl
theorem joinR_told {s d t e : List Int} (h1 : arrOk s d = true) (h2 : arrOk t e = true) {m n : Int} {tl tl' : List Int} (q1 : rowsS s = m :: tl) (q2 : rowsS t = n :: tl') :
    joinR s d t e = if tl.length ≠ tl'.length then (4, [], []) else if tl ≠ tl' then (3, [], []) else if 0 ≤ sizeV ((m + n) :: tl) then (0, (m + n) :: tl, d ++ e) else (6, [], []) := by
  obtain ⟨r1, _, r3⟩ := rowsS_ok h1
  obtain ⟨u1, _, u3⟩ := rowsS_ok h2
  rw [q1] at r1 r3
  rw [q2] at u1 u3
  unfold joinR joinC joinS
  rw [if_pos ⟨h1, h2⟩, r3, u3]
  simp only [List.length_cons, List.drop_succ_cons, List.drop_zero, List.getD_cons_zero]
  by_cases l : tl.length = tl'.length
  · rw [if_neg (show ¬ (tl.length + 1 ≠ tl'.length + 1) by omega), if_neg (show ¬ (tl.length ≠ tl'.length) by omega)]
    by_cases q : tl = tl'
    · rw [if_neg (show ¬ (tl ≠ tl') from fun k => k q), if_neg (show ¬ (tl ≠ tl') from fun k => k q)]
      by_cases z : 0 ≤ sizeV ((m + n) :: tl)
      · rw [if_pos (join_right r1 (by rw [q]; exact u1) z), mkR_good, if_pos z]
      · rw [if_neg (show ¬ (arrOk ((m + n) :: tl) (d ++ e) = true) from fun k => z (arrOk_shape k)), mkR_bad (by decide), if_neg z]
    · rw [if_pos (show tl ≠ tl' from q), if_pos (show tl ≠ tl' from q), mkR_bad (by decide)]
  · rw [if_pos (show tl.length + 1 ≠ tl'.length + 1 by omega), if_pos (show tl.length ≠ tl'.length from l), mkR_bad (by decide)]
end Go.Proofs.Ytdobohobhpailaa
namespace Go.Proofs.Ytdobohobhpailaa
set_option linter.unusedVariables false
theorem join_len {s d t e : List Int} (h : joinC s d t e = 0) : (joinS s d t e).length ≤ 1048576 ∧ (d ++ e).length ≤ 1048576 := by
  have hk : arrOk (joinS s d t e) (d ++ e) = true := by
    unfold joinC at h
    by_cases q : arrOk s d = true ∧ arrOk t e = true
    · rw [if_pos q] at h
      split at h
      · cases h
      · split at h
        · cases h
        · split at h
          · assumption
          · cases h
    · rw [if_neg q] at h; cases h
  have h1 := arrOk_len hk
  have h2 := (sizeV_ok (arrOk_shape hk)).1
  omega
end Go.Proofs.Ytdobohobhpailaa
namespace Go.Proofs.Ytdobohobhpailaa
open Go.RowKit
set_option linter.unusedVariables false
set_option linter.unusedSimpArgs false
theorem okC_good {s d : List Int} (h : arrOk s d = true) : okC s d = 0 := by unfold okC; rw [if_pos h]
theorem okC_bad {s d : List Int} (h : ¬ arrOk s d = true) : okC s d = 1 := by unfold okC; rw [if_neg h]
set_option maxRecDepth 20000 in
set_option maxHeartbeats 2000000 in
/-- l5Vector: the array itself, or a vector of it. -/
theorem vec5_spec {s d : List Int} {w : World} {v : Value} (h : ArrI w v s d) (hd : d.length ≤ 1048576) :
    Calls Try.prog 23 #[v] w fun e w' => ∃ v', e = .returned v' ∧ ArrI w' v' (vecS s d) d ∧ Below w.heap.size w w' := by
  have H : Hid (ArrI w v s d) := h
  obtain ⟨a, c, b, f, rfl, h1, h2, _, _⟩ := h
  have H2 : Hid (Ints w b d) := h2
  have HD : Hid (d.length ≤ 1048576) := hd
  clear h1 h2 hd
  by_cases e : s = []
  · subst e
    obtain ⟨Z, hZ⟩ : ∃ Z : List Int, Z = [(d.length : Int)] := ⟨_, rfl⟩
    have EV : vecS [] d = Z := by unfold vecS; rw [if_pos rfl, hZ]
    have HV : Hid (∀ W, Ints W b d → Calls Try.prog 44 #[.slice b d.length f] W fun e w' => ∃ v, e = .returned v ∧ Arr W.heap.size w'.heap.size w' v Z d ∧ Below W.heap.size W w') := fun W h => by rw [hZ]; exact vector_spec f h HD.out
    rw [EV]
    clear EV hZ
    go_enter Try.func23, Try.ntmps23
    go_wp2_with fail
    refine (HV.out _ (H2.out.keep (bAlloc (bAlloc (Below.refl _ _) _) _))).mono ?_
    rintro r w2 ⟨v', rfl, ha, hb⟩
    obtain ⟨a', c', b', f', rfl, _, _, _, _⟩ := ha.arrI
    have HA : Hid (Arr (w.heap.size + 2) w2.heap.size w2 (.agg #[.slice a' Z.length c', .slice b' d.length f']) Z d) := ha.mono (by simp) (Nat.le_refl _)
    have HB2 : Hid (Below w.heap.size w w2) := bTrans (bAlloc (bAlloc (Below.refl _ _) _) _) hb
    have Y2 : Hid (Box w2 (w.heap.size + 1) (.slice none 0 0) (.slice none 0 0) 26) := (box_new2 w _ _ _ _).keep hb
    clear ha hb
    have y0 := Y2.out.c0
    have y1 := Y2.out.c1
    have f0 : w2.frozen? ⟨w.heap.size + 1, 0, none⟩ = false := free_at Y2.out 0
    have f1 : w2.frozen? ⟨w.heap.size + 1, 1, none⟩ = false := free_at Y2.out 1
    have HR : Hid (((w2.setCell ⟨w.heap.size + 1, 0, none⟩ (.slice a' Z.length c')).setCell ⟨w.heap.size + 1, 1, none⟩ (.slice b' d.length f')).heap[w.heap.size + 1]? = some (.cells #[.slice a' Z.length c', .slice b' d.length f'] 26 (0, 0))) := arr_stored Y2.out
    go_wp2
    refine bodyPost_ret (v := .agg #[.slice a' Z.length c', .slice b' d.length f']) (results_arr rfl _ _ (w.heap.size + 1) _ _ rfl HR.out) rfl ?_
    refine ⟨_, rfl, ?_, below_setCell (below_setCell HB2.out (by omega) _ _) (by omega) _ _⟩
    exact ((HA.out.setCell (by omega) _ _).setCell (by omega) _ _).arrI
  · have EV : vecS s d = s := by unfold vecS; rw [if_neg e]
    have n1 : ((s.length : Int) == 0) = false := by
      have := List.length_pos_iff.2 e
      simp; omega
    rw [EV]
    clear EV e
    go_enter Try.func23, Try.ntmps23
    go_wp2
    refine bodyPost_ret (v := .agg #[.slice a s.length c, .slice b d.length f]) (results_arr rfl _ _ (w.heap.size + 1) _ _ rfl (box_new2 w _ _ _ _)) rfl ?_
    exact ⟨_, rfl, H.out.keep (bAlloc (bAlloc (Below.refl _ _) _) _), bAlloc (bAlloc (Below.refl _ _) _) _⟩
/-- What l5Right makes of an array. -/
def rightR (s d : List Int) : Int × List Int × List Int := mkR (if arrOk s d = true then 0 else 6) s d
set_option maxRecDepth 20000 in
set_option maxHeartbeats 2000000 in
/-- l5Right: an array in memory of its own, if it is right. -/
theorem right5_spec {B C : Nat} {s d : List Int} {w : World} {v : Value} (h : Arr B C w v s d) (hC : C ≤ w.heap.size) (hd : d.length ≤ 1048576) :
    Calls Try.prog 25 #[v] w fun e w' => ∃ v', e = .returned (.tuple #[v', .int .i64 (rightR s d).1]) ∧ Arr B C w' v' (rightR s d).2.1 (rightR s d).2.2 ∧ Below w.heap.size w w' := by
  have H : Hid (ArrI w v s d) := h.arrI
  have HA : Hid (Arr B C w v s d) := h
  obtain ⟨a, c, b, f, rfl, h1, h2, _, _⟩ := h.arrI
  have HC : Hid (C ≤ w.heap.size) := hC
  have HD : Hid (d.length ≤ 1048576) := hd
  clear h1 h2 hd h hC
  cases ho : arrOk s d
  · have HO : Hid (arrOk s d = false) := ho
    have ER : rightR s d = (6, [], []) := by unfold rightR; rw [ho]; rfl
    rw [ER]
    clear ho ER
    go_enter Try.func25, Try.ntmps25
    go_wp2_with fail
    refine (arrOk_spec (H.out.keep (bAlloc (bAlloc (Below.refl _ _) _) _)) HD.out).mono ?_
    rintro r w1 ⟨rfl, hb⟩
    have HB1 : Hid (Below w.heap.size w w1) := bTrans (bAlloc (bAlloc (Below.refl _ _) _) _) hb
    have Y1 : Hid (Box w1 (w.heap.size + 1) (.slice none 0 0) (.slice none 0 0) 26) := (box_new2 w _ _ _ _).keep hb
    clear hb
    rw [HO.out]
    have y0 := Y1.out.c0
    have y1 := Y1.out.c1
    have f0 : w1.frozen? ⟨w.heap.size + 1, 0, none⟩ = false := free_at Y1.out 0
    have f1 : w1.frozen? ⟨w.heap.size + 1, 1, none⟩ = false := free_at Y1.out 1
    have HR : Hid (((w1.setCell ⟨w.heap.size + 1, 0, none⟩ (.slice none 0 0)).setCell ⟨w.heap.size + 1, 1, none⟩ (.slice none 0 0)).heap[w.heap.size + 1]? = some (.cells #[.slice none 0 0, .slice none 0 0] 26 (0, 0))) := arr_stored Y1.out
    go_wp2
    refine bodyPost_ret (results_arr_tmp Try.results25 _ _ (w.heap.size + 1) _ _ rfl HR.out) rfl ?_
    exact ⟨_, rfl, arr_zero _ _ _, below_setCell (below_setCell HB1.out (by omega) _ _) (by omega) _ _⟩
  · have HO : Hid (arrOk s d = true) := ho
    have ER : rightR s d = (0, s, d) := by unfold rightR; rw [ho]; rfl
    rw [ER]
    clear ho ER
    go_enter Try.func25, Try.ntmps25
    go_wp2_with fail
    refine (arrOk_spec (H.out.keep (bAlloc (bAlloc (Below.refl _ _) _) _)) HD.out).mono ?_
    rintro r w1 ⟨rfl, hb⟩
    have HB1 : Hid (Below w.heap.size w w1) := bTrans (bAlloc (bAlloc (Below.refl _ _) _) _) hb
    have X1 : Hid (Box w1 w.heap.size (.slice a s.length c) (.slice b d.length f) 26) := ((box_new w _ _ _).keep (bAlloc (Below.refl _ _) _)).keep hb
    have Y1 : Hid (Box w1 (w.heap.size + 1) (.slice none 0 0) (.slice none 0 0) 26) := (box_new2 w _ _ _ _).keep hb
    clear hb
    rw [HO.out]
    have x0 := X1.out.c0
    have x1 := X1.out.c1
    have y0 := Y1.out.c0
    have y1 := Y1.out.c1
    have f0 : w1.frozen? ⟨w.heap.size + 1, 0, none⟩ = false := free_at Y1.out 0
    have f1 : w1.frozen? ⟨w.heap.size + 1, 1, none⟩ = false := free_at Y1.out 1
    have HR : Hid (((w1.setCell ⟨w.heap.size + 1, 0, none⟩ (.slice a s.length c)).setCell ⟨w.heap.size + 1, 1, none⟩ (.slice b d.length f)).heap[w.heap.size + 1]? = some (.cells #[.slice a s.length c, .slice b d.length f] 26 (0, 0))) := arr_stored Y1.out
    go_wp2
    refine bodyPost_ret (results_arr_tmp Try.results25 _ _ (w.heap.size + 1) _ _ rfl HR.out) rfl ?_
    refine ⟨_, rfl, ?_, below_setCell (below_setCell HB1.out (by omega) _ _) (by omega) _ _⟩
    have L := HC.out
    exact ((HA.out.keep HB1.out).win (win_setCell _ _ _ _) (.inl (by omega))).win (win_setCell _ _ _ _) (.inl (by omega))
end Go.Proofs.Ytdobohobhpailaa
namespace Go.Proofs.Ytdobohobhpailaa
open Go.RowKit
set_option linter.unusedVariables false
set_option linter.unusedSimpArgs false
theorem flat2_odd (x y : Nat → List Int) {k i : Nat} (h : i < k) : ((List.range k).flatMap (fun i => [x i, y i])).getD (2 * i + 1) [] = y i := by
  induction k with
  | zero => omega
  | succ k ih =>
    have hl : ((List.range k).flatMap (fun i => [x i, y i])).length = 2 * k := flat2_length k _ (fun _ => rfl)
    rw [List.range_succ, List.flatMap_append, List.getD_eq_getElem?_getD]
    by_cases e : i = k
    · subst e
      rw [List.getElem?_append_right (by rw [hl]; omega), hl, show 2 * i + 1 - 2 * i = 1 from by omega]
      simp
    · rw [List.getElem?_append_left (by rw [hl]; omega), ← List.getD_eq_getElem?_getD]
      exact ih (by omega)
theorem rowsF_odd {s d : List Int} (ho : arrOk s d = true) (hs : s ≠ []) {i : Nat} (hi : i < rowsN s) : (rowsF s d).getD (2 * i + 1) [] = rowAt s d i := by
  unfold rowsF
  rw [if_pos ⟨ho, hs⟩]
  exact flat2_odd (fun _ => s.drop 1) (fun i => (d.drop (i * (sizeV (s.drop 1)).toNat)).take (sizeV (s.drop 1)).toNat) hi
theorem flat_bound (n m : Nat) (f : Nat → List Int) (h : ∀ i, (f i).length ≤ m) : ((List.range n).flatMap f).length ≤ n * m := by
  induction n with
  | zero => simp
  | succ n ih =>
    rw [List.range_succ, List.flatMap_append, List.length_append]
    have := h n
    simp only [List.flatMap_cons, List.flatMap_nil, List.append_nil]
    rw [Nat.succ_mul]
    omega
theorem pick_bound (s d : List Int) (idx : Nat → Nat) {n : Nat} (hn : n ≤ 300) : (catF (pickF (rowsF s d) idx n) n).length ≤ 1000000 := by
  rw [catF_pick]
  have := flat_bound n 300 (fun i => (rowsF s d).getD (2 * idx i + 1) []) (fun i => rowsF_each s d _)
  have : n * 300 ≤ 300 * 300 := Nat.mul_le_mul_right _ hn
  omega
theorem pick_rows {s d : List Int} (ho : arrOk s d = true) (hs : s ≠ []) {idx : Nat → Nat} {n : Nat} (h : ∀ i, i < n → idx i < rowsN s) : catF (pickF (rowsF s d) idx n) n = (List.range n).flatMap (fun i => rowAt s d (idx i)) := by
  rw [catF_pick, List.flatMap_def, List.flatMap_def]
  congr 1
  apply List.map_congr_left
  intro i hi
  exact rowsF_odd ho hs (h i (by simpa using hi))
theorem rowsN_bd {s d : List Int} (ho : arrOk s d = true) : rowsN s ≤ 300 ∧ s.getD 0 0 = (rowsN s : Int) := by
  have := head_bd ho
  unfold rowsN
  omega
theorem cons_eta {s : List Int} (h : s ≠ []) : s.getD 0 0 :: s.drop 1 = s := by
  cases s with
  | nil => exact absurd rfl h
  | cons x l => rfl
theorem tail_cut_ne {w : World} {a : Option Addr} {s : List Int} {c : Nat} (h : Ints w a s) (hs : s ≠ []) (hc : s.length ≤ c) :
    ∃ tl ct, (∀ W, (Instr.slice 24 (.slice a s.length c) (some (.int .i64 1)) none none).run Try.prog W = .ok (.slice tl (s.drop 1).length ct) W) ∧ IntsI w (.slice tl (s.drop 1).length ct) (s.drop 1) := by
  cases s with
  | nil => exact absurd rfl hs
  | cons x l => exact tail_cut h hc
end Go.Proofs.Ytdobohobhpailaa
namespace Go.Proofs.Ytdobohobhpailaa
open Go.RowKit
set_option linter.unusedVariables false
set_option linter.unusedSimpArgs false
theorem blocks3 (w : World) (A B C : Obj) : (((w.alloc A).alloc B).alloc C).heap[w.heap.size]? = some A ∧ (((w.alloc A).alloc B).alloc C).heap[w.heap.size + 1]? = some B ∧ (((w.alloc A).alloc B).alloc C).heap[w.heap.size + 1 + 1]? = some C := by
  have e1 := heap_alloc_new w A
  have e2 := heap_alloc_new (w.alloc A) B
  have e3 := heap_alloc_new ((w.alloc A).alloc B) C
  simp only [World.size_alloc] at e2 e3
  refine ⟨?_, ?_, e3⟩
  · rw [heap_alloc_old _ _ (by simp only [World.size_alloc]; omega), heap_alloc_old _ _ (by simp only [World.size_alloc]; omega)]; exact e1
  · rw [heap_alloc_old _ _ (by simp only [World.size_alloc]; omega)]; exact e2
theorem one_list {d : List Int} (h : d.length = 1) : d = [d.getD 0 0] := by
  match d, h with
  | [x], _ => rfl
end Go.Proofs.Ytdobohobhpailaa
namespace Go.Proofs.Ytdobohobhpailaa
open Go.RowKit
set_option linter.unusedVariables false
set_option linter.unusedSimpArgs false
theorem oneC_ok {s d t e : List Int} (ho : arrOk s d = true) (ho' : arrOk t e = true) (hl : d.length = 1) : oneC s d t e = 0 := by unfold oneC; rw [if_pos ⟨ho, ho'⟩, if_neg (by simpa using hl)]
theorem oneC_3 {s d t e : List Int} (ho : arrOk s d = true) (ho' : arrOk t e = true) (hl : ¬ d.length = 1) : oneC s d t e = 3 := by unfold oneC; rw [if_pos ⟨ho, ho'⟩, if_pos hl]
theorem num_bd {s d : List Int} (ho : arrOk s d = true) (h : 0 < d.length) : -1000000000000 ≤ d.getD 0 0 ∧ d.getD 0 0 ≤ 1000000000000 := by
  have h2 : d.all ok = true := by
    unfold arrOk at ho
    simp only [Bool.and_eq_true] at ho
    exact ho.2
  have := List.all_eq_true.1 h2 (d.getD 0 0) (by simp [h])
  exact ok_bd this
theorem wrap64_small {a : Int} (h1 : -1000000000000000 ≤ a) (h2 : a ≤ 1000000000000000) : wrap64 a = a := by unfold wrap64; omega
theorem turn_num {x : Int} {n : Nat} (hn : 0 < n) : (Int.tmod (Int.tmod x n + n) n) = ((rotateBy x n : Nat) : Int) ∧ rotateBy x n < n ∧ -(n : Int) < Int.tmod x n ∧ Int.tmod x n < n := by
  unfold rotateBy
  have h0 : (0 : Int) < (n : Int) := by omega
  have e1 := Int.emod_nonneg x (b := (n : Int)) (by omega)
  have e2 := Int.emod_lt_of_pos x h0
  have hb : -(n : Int) < Int.tmod x n ∧ Int.tmod x n < n := ⟨by have := Int.lt_tmod_of_pos x h0; omega, Int.tmod_lt_of_pos x h0⟩
  refine ⟨?_, by omega, hb⟩
  rw [Int.tmod_eq_emod_of_nonneg (by omega), Int.add_emod_right]
  rw [Int.toNat_of_nonneg e1]
  have e := Int.tmod_add_mul_tdiv x n
  conv => rhs; rw [← e]
  rw [Int.add_mul_emod_self_left]
end Go.Proofs.Ytdobohobhpailaa
namespace Go.Proofs.Ytdobohobhpailaa
open Go.RowKit
set_option linter.unusedVariables false
set_option linter.unusedSimpArgs false
theorem arrsI_sub {w : World} {o off n c m M : Nat} {F : List (List Int)} {a' : Option Addr} {c' : Nat} (h : ArrsI w (.slice (some ⟨o, off, none⟩) n c) F) (hM : M + m ≤ n) (ha : m = 0 ∨ a' = some ⟨o, off + M * 2, none⟩) : ArrsI w (.slice a' m c') ((F.drop (2 * M)).take (2 * m)) := by
  obtain ⟨a, n', c'', e, hF, h⟩ := h
  cases e
  have hl : ((F.drop (2 * M)).take (2 * m)).length = 2 * m := by simp; omega
  refine ⟨a', m, c', rfl, hl, ?_⟩
  rcases ha with h0 | rfl
  · exact .inl h0
  · by_cases h0 : m = 0
    · exact .inl h0
    · rcases h with h | ⟨o', off', xs, e, ho, hx, hj⟩
      · omega
      · cases e
        refine .inr ⟨o, off + M * 2, (xs.drop (2 * M)).take (2 * m), rfl, ho, by simp; omega, fun j hj' => ?_⟩
        have hj2 : j < 2 * m := by simp at hj'; omega
        obtain ⟨q1, q2⟩ := hj (2 * M + j) (by omega)
        have e1 : ((xs.drop (2 * M)).take (2 * m)).getD j undef = xs.getD (2 * M + j) undef := by simp [List.getD, List.getElem?_take_of_lt hj2]
        have e2 : ((F.drop (2 * M)).take (2 * m)).getD j [] = F.getD (2 * M + j) [] := by simp [List.getD, List.getElem?_take_of_lt hj2]
        rw [e1, e2]
        refine ⟨?_, q2⟩
        rw [show off + M * 2 + j = off + (2 * M + j) from by omega]
        exact q1
/-- A list of arrays from one on. -/
theorem arrs_from {w : World} {a : Option Addr} {n c M : Nat} {F : List (List Int)} (h : ArrsI w (.slice a n c) F) (hc : n ≤ c) (hM : M ≤ n) :
    ∃ a' c', (∀ W, (Instr.slice 61 (.slice a n c) (some (.int .i64 (M : Int))) none none).run Try.prog W = .ok (.slice a' (n - M) c') W) ∧ ArrsI w (.slice a' (n - M) c') ((F.drop (2 * M)).take (2 * (n - M))) := by
  have hrun : ∀ W, (Instr.slice 61 (.slice a n c) (some (.int .i64 (M : Int))) none none).run Try.prog W = .ok (sliced a M n c 2) W := by
    intro W
    have hs : (sizeOf 26).run Try.prog W = .ok 2 W := by kernel_rfl
    have he : Try.prog.elem 61 = 26 := by kernel_rfl
    rw [run_slice_l (P := Try.prog) (w := W) 61 a n c (by rw [he]; exact Try.underlying61) .i64 (M : Int) (by omega) (by omega), he, hs]
    simp [Result.andThen]
  refine ⟨_, _, hrun, ?_⟩
  by_cases h0 : n - M = 0
  · rw [h0]
    exact ⟨_, 0, _, rfl, by simp, .inl rfl⟩
  · obtain ⟨o, off, _, _, rfl, _⟩ := h.at (k := M) (by omega)
    refine arrsI_sub h (by omega) (.inr ?_)
    rw [if_neg (by omega)]
    simp [Addr.add]
/-- A list of arrays up to one. -/
theorem arrs_upto {w : World} {a : Option Addr} {n c m : Nat} {F : List (List Int)} (h : ArrsI w (.slice a n c) F) (hc : n ≤ c) (hm : m ≤ n) :
    ∃ a' c', (∀ W, (Instr.slice 61 (.slice a n c) none (some (.int .i64 (m : Int))) none).run Try.prog W = .ok (.slice a' m c') W) ∧ ArrsI w (.slice a' m c') ((F.drop 0).take (2 * m)) := by
  have hrun : ∀ W, (Instr.slice 61 (.slice a n c) none (some (.int .i64 (m : Int))) none).run Try.prog W = .ok (sliced a 0 m c 2) W := by
    intro W
    have hs : (sizeOf 26).run Try.prog W = .ok 2 W := by kernel_rfl
    have he : Try.prog.elem 61 = 26 := by kernel_rfl
    rw [run_slice_h (P := Try.prog) (w := W) 61 a n c (by rw [he]; exact Try.underlying61) .i64 (m : Int) (by omega) (by omega), he, hs]
    simp [Result.andThen]
  refine ⟨_, _, hrun, ?_⟩
  by_cases h0 : m = 0
  · subst h0
    exact ⟨_, 0, _, rfl, by simp, .inl rfl⟩
  · obtain ⟨o, off, _, _, rfl, _⟩ := h.at (k := 0) (by omega)
    have := arrsI_sub (M := 0) (m := m) (a' := some ⟨o, off, none⟩) (c' := c - 0) h (by omega) (.inr (by simp))
    simpa [sliced, Addr.add] using this
theorem vec_ok {t e : List Int} (h : arrOk t e = true) : arrOk (vecS t e) e = true ∧ vecS t e ≠ [] := by
  unfold vecS
  by_cases ht : t = []
  · subst ht
    rw [if_pos rfl]
    have z := arrOk_size h
    rw [sizeV_0'] at z
    have hl : e.length = 1 := by omega
    refine ⟨?_, by simp⟩
    have h2 : e.all ok = true := by
      unfold arrOk at h
      simp only [Bool.and_eq_true] at h
      exact h.2
    unfold arrOk
    rw [h2, hl]
    decide
  · rw [if_neg ht]; exact ⟨h, ht⟩
end Go.Proofs.Ytdobohobhpailaa
namespace Go.Proofs.Ytdobohobhpailaa
open Go.RowKit
set_option linter.unusedVariables false
set_option linter.unusedSimpArgs false
theorem rowsF_oddAt {s d : List Int} (ho : arrOk s d = true) (hs : s ≠ []) {M m i : Nat} (h : M + m ≤ rowsN s) (hi : i < m) : (((rowsF s d).drop (2 * M)).take (2 * m)).getD (2 * i + 1) [] = rowAt s d (M + i) := by
  rw [← rowsF_odd ho hs (i := M + i) (by omega)]
  simp only [List.getD_eq_getElem?_getD]
  rw [List.getElem?_take_of_lt (by omega), List.getElem?_drop, show 2 * M + (2 * i + 1) = 2 * (M + i) + 1 from by omega]
theorem cat_cut {s d : List Int} (ho : arrOk s d = true) (hs : s ≠ []) {M m : Nat} (h : M + m ≤ rowsN s) : catF (((rowsF s d).drop (2 * M)).take (2 * m)) m = (d.drop (M * rowN s)).take (m * rowN s) := by
  have key : ∀ k, k ≤ m → catF (((rowsF s d).drop (2 * M)).take (2 * m)) k = (d.drop (M * rowN s)).take (k * rowN s) := by
    intro k
    induction k with
    | zero => intro _; simp [catF]
    | succ k ih =>
      intro hk
      rw [catF_succ, ih (by omega), rowsF_oddAt ho hs h (by omega), Nat.succ_mul, List.take_add]
      congr 1
      unfold rowAt
      rw [List.drop_drop, Nat.add_mul]
  exact key m (Nat.le_refl _)
theorem rows_all {s d : List Int} (ho : arrOk s d = true) (hs : s ≠ []) : rowsN s * rowN s = d.length := by
  obtain ⟨e1, e2⟩ := rowsN_bd ho
  cases s with
  | nil => exact absurd rfl hs
  | cons n0 t =>
    have h0 : n0 = (rowsN (n0 :: t) : Int) := e2
    by_cases hp : 0 < n0
    · obtain ⟨p0, p1, p2⟩ := tail_size ho hp
      have : rowN (n0 :: t) = (sizeV t).toNat := rfl
      have q : ((rowsN (n0 :: t) * rowN (n0 :: t) : Nat) : Int) = (d.length : Int) := by
        rw [this, Int.natCast_mul, ← h0, Int.toNat_of_nonneg p0]; exact p1
      omega
    · have hz : rowsN (n0 :: t) = 0 := by omega
      have z := arrOk_size ho
      have k := (sizeV_ok (arrOk_shape ho)).2.2.2
      have : sizeV (n0 :: t) = 0 := by
        rw [k]
        have : n0 = 0 := by omega
        subst this
        have hf : ∀ l : List Int, List.foldl (fun x1 x2 => x1 * x2) 0 l = 0 := by
          intro l
          induction l with
          | nil => rfl
          | cons y l ih => simpa using ih
        simp [prodV, hf]
      rw [hz, Nat.zero_mul]
      omega
theorem many_nat (x : Int) : manyV x = ((manyV x).toNat : Int) := by unfold manyV; split <;> omega
end Go.Proofs.Ytdobohobhpailaa
namespace Go.Proofs.Ytdobohobhpailaa
open Go.RowKit
set_option linter.unusedVariables false
set_option linter.unusedSimpArgs false
theorem blocks4 (w : World) (A B C D : Obj) : ((((w.alloc A).alloc B).alloc C).alloc D).heap[w.heap.size]? = some A ∧ ((((w.alloc A).alloc B).alloc C).alloc D).heap[w.heap.size + 1]? = some B ∧ ((((w.alloc A).alloc B).alloc C).alloc D).heap[w.heap.size + 1 + 1]? = some C ∧ ((((w.alloc A).alloc B).alloc C).alloc D).heap[w.heap.size + 1 + 1 + 1]? = some D := by
  have q := blocks3 w A B C
  have e4 := heap_alloc_new (((w.alloc A).alloc B).alloc C) D
  simp only [World.size_alloc] at e4
  refine ⟨?_, ?_, ?_, e4⟩
  · rw [heap_alloc_old _ _ (by simp only [World.size_alloc]; omega)]; exact q.1
  · rw [heap_alloc_old _ _ (by simp only [World.size_alloc]; omega)]; exact q.2.1
  · rw [heap_alloc_old _ _ (by simp only [World.size_alloc]; omega)]; exact q.2.2
theorem againD_succ (e : List Int) (k : Nat) : againD e k ++ [if e = [] then 0 else e.getD (k % e.length) 0] = againD e (k + 1) := by
  unfold againD; rw [List.range_succ]; simp
theorem any_take {d : List Int} {k : Nat} (h : (d.take k).any (fun x => decide (x < 0)) = false) (hk : k < d.length) (hx : ¬ d.getD k 0 < 0) : (d.take (k + 1)).any (fun x => decide (x < 0)) = false := by
  rw [take_snoc hk, List.any_append, h]
  simpa using hx
end Go.Proofs.Ytdobohobhpailaa
namespace Go.Proofs.Ytdobohobhpailaa
open Go.RowKit
set_option linter.unusedVariables false
set_option linter.unusedSimpArgs false
/-- A list of numbers up to one. -/
theorem ints_upto {w : World} {a : Option Addr} {l : List Int} {c M : Nat} (h : Ints w a l) (hc : l.length ≤ c) (hM : M ≤ l.length) :
    ∃ a' c', (∀ W, (Instr.slice 24 (.slice a l.length c) none (some (.int .i64 (M : Int))) none).run Try.prog W = .ok (.slice a' M c') W) ∧ Ints w a' (l.take M) := by
  have hrun : ∀ W, (Instr.slice 24 (.slice a l.length c) none (some (.int .i64 (M : Int))) none).run Try.prog W = .ok (sliced a 0 M c 1) W := by
    intro W
    have hs : (sizeOf 3).run Try.prog W = .ok 1 W := by kernel_rfl
    have he : Try.prog.elem 24 = 3 := by kernel_rfl
    rw [run_slice_h (P := Try.prog) (w := W) 24 a l.length c (by rw [he]; exact Try.underlying24) .i64 (M : Int) (by omega) (by omega), he, hs]
    simp [Result.andThen]
  refine ⟨_, _, hrun, ?_⟩
  by_cases h0 : M = 0
  · subst h0; exact .inl (by simp)
  · obtain ⟨b, o, rfl, _, _⟩ := h.at (k := 0) (by omega)
    have := ints_cut (m := 0) (n := M) h (by omega)
    have e : (if c = 0 then (some ⟨b, o, none⟩ : Option Addr) else (some (⟨b, o, none⟩ : Addr)).map (·.add (0 * 1))) = some ⟨b, o, none⟩ := by
      split
      · rfl
      · simp [Addr.add]
    rw [e]
    simpa using this
/-- A list of numbers from one on. -/
theorem ints_from {w : World} {a : Option Addr} {l : List Int} {c M : Nat} (h : Ints w a l) (hc : l.length ≤ c) (hM : M ≤ l.length) :
    ∃ a' c', (∀ W, (Instr.slice 24 (.slice a l.length c) (some (.int .i64 (M : Int))) none none).run Try.prog W = .ok (.slice a' (l.drop M).length c') W) ∧ Ints w a' (l.drop M) := by
  have hrun : ∀ W, (Instr.slice 24 (.slice a l.length c) (some (.int .i64 (M : Int))) none none).run Try.prog W = .ok (sliced a M l.length c 1) W := by
    intro W
    have hs : (sizeOf 3).run Try.prog W = .ok 1 W := by kernel_rfl
    have he : Try.prog.elem 24 = 3 := by kernel_rfl
    rw [run_slice_l (P := Try.prog) (w := W) 24 a l.length c (by rw [he]; exact Try.underlying24) .i64 (M : Int) (by omega) (by omega), he, hs]
    simp [Result.andThen]
  rw [show (l.drop M).length = l.length - M from by simp]
  refine ⟨_, _, hrun, ?_⟩
  by_cases h0 : l.length - M = 0
  · exact .inl (List.eq_nil_of_length_eq_zero (by simpa using h0))
  · obtain ⟨b, o, rfl, _, _⟩ := h.at (k := 0) (by omega)
    have := ints_cut (m := M) (n := l.length - M) h (by omega)
    rw [if_neg (by omega)]
    have e2 : (l.drop M).take (l.length - M) = l.drop M := List.take_of_length_le (by simp)
    rw [e2] at this
    by_cases hM0 : M = 0 <;> simpa [Addr.add, hM0] using this
/-- Growing by a list: nothing but the list's own block is turned. -/
theorem growG {B : Nat} {w : World} {v : Value} {l m : List Int} {a : Option Addr} (h : NewInts B w v l) (hm : Ints w a m) (hB : B ≤ w.heap.size) (hl : l.length + m.length ≤ 1048576) (c : Nat) :
    ∃ a' c' w', (Builtin.append_ #[24, 24] 24 #[v, .slice a m.length c]).run Try.prog w = .ok (.slice a' (l ++ m).length c') w' ∧ NewInts B w' (.slice a' (l ++ m).length c') (l ++ m) ∧ w.grownBy w' v.ownBlock ∧ ((Value.slice a' (l ++ m).length c').ownBlock = v.ownBlock ∨ (Value.slice a' (l ++ m).length c').ownBlock = some w.heap.size) := by
  obtain ⟨i, hq, z1, z2, z3⟩ : ∃ i, Try.prog.info? 3 = some i ∧ i.zero = some (.int .i64 0) ∧ i.size = 1 ∧ i.bytes = 8 := by
    have hi := info_int
    cases hq : Try.prog.info? 3 with
    | none => rw [hq] at hi; cases hi
    | some i => rw [hq] at hi; simp at hi; exact ⟨i, rfl, hi.1, hi.2.1, hi.2.2⟩
  cases a with
  | none =>
    obtain rfl : m = [] := by
      rcases hm with h | ⟨b, off, e, _⟩
      · exact h
      · cases e
    obtain ⟨base, cap, rfl, hle⟩ : ∃ base cap, v = .slice base l.length cap ∧ l.length ≤ cap := by
      rcases h.2 with ⟨e, h0⟩ | ⟨g, cap, cur, e, _, _, hle, _⟩
      · exact ⟨none, 0, by rw [e, h0], by omega⟩
      · exact ⟨_, cap, e, hle⟩
    refine ⟨base, cap, w, ?_, by simpa using h, ⟨rfl, rfl, rfl, Nat.le_refl _, fun _ _ _ => rfl⟩, .inl (by simp [Value.ownBlock])⟩
    have := run_append_nothing (P := Try.prog) w 24 24 24 3 i Try.underlying24 hq base l.length cap hle (.slice none 0 c) (by rw [z2]; exact Src.ofNil w Try.underlying24 c)
    simpa using this
  | some ad =>
    have hn : ∀ (j : Nat) (u : Value), (m.map (Value.int .i64))[j]? = some u → w.cell? (ad.add j) = some u := by
      rcases hm with rfl | ⟨b, off, e, _, hc⟩
      · intro j u hu; simp at hu
      · cases e; exact ints_news hc
    obtain ⟨v', w', hr, h2, h3, _, h5⟩ := run_append_own_at (P := Try.prog) w B 24 24 3 i (.int .i64 0) 1 8 Try.underlying24 hq z1 z2 z3 rfl (by decide) v l.length (l.map (Value.int .i64)) h ad m.length c (m.map (Value.int .i64)) (by simp) hn (by intro u hu; obtain ⟨x, _, rfl⟩ := List.mem_map.1 hu; rfl) (by unfold maxLen; omega) (by omega) hB
    have h2' : NewInts B w' v' (l ++ m) := by
      show World.ownsRow _ _ _ _ _ _ _
      simpa using h2
    obtain ⟨a', c', rfl, _⟩ := h2'.ints
    exact ⟨a', c', w', hr, h2', h3, h5⟩
theorem sizeV_tail {n0 : Int} {t : List Int} (h : 0 ≤ sizeV (n0 :: t)) (hp : 0 < n0) : 0 ≤ sizeV t ∧ n0 * sizeV t = sizeV (n0 :: t) := by
  have ho : arrOk (n0 :: t) (List.replicate (sizeV (n0 :: t)).toNat 0) = true := by
    unfold arrOk
    have e1 : (List.replicate (sizeV (n0 :: t)).toNat (0 : Int)).all ok = true := by
      rw [List.all_eq_true]
      intro x hx
      obtain rfl := (List.mem_replicate.1 hx).2
      decide
    rw [e1]
    simp
    omega
  obtain ⟨p0, p1, p2⟩ := tail_size ho hp
  refine ⟨p0, ?_⟩
  rw [p1]
  simp
  omega
theorem dim_bd {n0 : Int} {t : List Int} (h : 0 ≤ sizeV (n0 :: t)) : 0 ≤ n0 ∧ n0 ≤ 300 := by
  have := (sizeV_ok h).2.1
  rw [List.all_eq_true] at this
  have := this n0 (by simp)
  simpa [dimOk] using this
/-- What is taken, and what is left out, in numbers. -/
theorem take_nums {t e : List Int} {x : Int} (ho : arrOk t e = true) (hz : 0 ≤ sizeV (takeS x t e)) :
    (haveN x t e : Int) * sizeV ((vecS t e).drop 1) = ((haveN x t e * rowN (vecS t e) : Nat) : Int) ∧
    (((manyV x).toNat : Int) - (haveN x t e : Int)) * sizeV ((vecS t e).drop 1) = ((((manyV x).toNat - haveN x t e) * rowN (vecS t e) : Nat) : Int) ∧
    ((rowsN (vecS t e) : Int) - (haveN x t e : Int)) * sizeV ((vecS t e).drop 1) = (((rowsN (vecS t e) - haveN x t e) * rowN (vecS t e) : Nat) : Int) ∧
    haveN x t e * rowN (vecS t e) ≤ e.length ∧ ((manyV x).toNat - haveN x t e) * rowN (vecS t e) ≤ 300 ∧ (rowsN (vecS t e) - haveN x t e) * rowN (vecS t e) ≤ e.length ∧ (manyV x).toNat ≤ 300 ∧ haveN x t e ≤ (manyV x).toNat ∧ haveN x t e ≤ rowsN (vecS t e) ∧ -1 ≤ sizeV ((vecS t e).drop 1) ∧ sizeV ((vecS t e).drop 1) ≤ 300 := by
  obtain ⟨ov, hv0⟩ := vec_ok ho
  obtain ⟨e1, e2⟩ := rowsN_bd ov
  have eall := rows_all ov hv0
  have hm := many_nat x
  have eta := cons_eta hv0
  have hH : haveN x t e = min (manyV x).toNat (rowsN (vecS t e)) := rfl
  have hR : rowN (vecS t e) = (sizeV ((vecS t e).drop 1)).toNat := rfl
  have sb := sizeV_bd ((vecS t e).drop 1)
  unfold takeS at hz
  have hd := dim_bd hz
  have key : 0 ≤ sizeV ((vecS t e).drop 1) ∨ ((manyV x).toNat = 0 ∧ rowsN (vecS t e) = 0) := by
    by_cases h1 : 0 < manyV x
    · exact .inl (sizeV_tail hz h1).1
    · by_cases h2 : 0 < rowsN (vecS t e)
      · refine .inl ?_
        have hs := arrOk_shape ov
        rw [← eta] at hs
        exact (sizeV_tail hs (by omega)).1
      · exact .inr ⟨by omega, by omega⟩
  have hmz : (manyV x).toNat * rowN (vecS t e) ≤ 300 := by
    by_cases h1 : 0 < manyV x
    · obtain ⟨p0, p1⟩ := sizeV_tail hz h1
      have b := (sizeV_bd (manyV x :: (vecS t e).drop 1)).2
      have : (((manyV x).toNat * rowN (vecS t e) : Nat) : Int) ≤ 300 := by
        rw [Int.natCast_mul, ← hm, hR, Int.toNat_of_nonneg p0, p1]; exact b
      omega
    · have : (manyV x).toNat = 0 := by omega
      rw [this]; simp
  generalize rowsN (vecS t e) = N at *
  generalize haveN x t e = H at *
  generalize (manyV x).toNat = m at *
  have hH1 : H ≤ m := by rw [hH]; exact Nat.min_le_left _ _
  have hH2 : H ≤ N := by rw [hH]; exact Nat.min_le_right _ _
  have q1 : H * rowN (vecS t e) ≤ N * rowN (vecS t e) := Nat.mul_le_mul_right _ hH2
  have q2 : (m - H) * rowN (vecS t e) ≤ m * rowN (vecS t e) := Nat.mul_le_mul_right _ (Nat.sub_le _ _)
  have q3 : (N - H) * rowN (vecS t e) ≤ N * rowN (vecS t e) := Nat.mul_le_mul_right _ (Nat.sub_le _ _)
  refine ⟨?_, ?_, ?_, by omega, by omega, by omega, by omega, hH1, hH2, sb.1, sb.2⟩
  all_goals
    rcases key with k | ⟨k1, k2⟩
    · rw [Int.natCast_mul, hR, Int.toNat_of_nonneg k]
      try (congr 1; omega)
    · subst k1 k2
      obtain rfl : H = 0 := by omega
      simp
end Go.Proofs.Ytdobohobhpailaa
namespace Go.Proofs.Ytdobohobhpailaa
set_option linter.unusedVariables false
theorem taken_code {s d t f : List Int} (h : (takeR s d t f).1 = 0) : (arrOk s d = true ∧ arrOk t f = true) ∧ d.length = 1 ∧ 0 ≤ sizeV (takeS (d.getD 0 0) t f) ∧ (takeR s d t f).2.1 = takeS (d.getD 0 0) t f ∧ (takeR s d t f).2.2 = takeD (d.getD 0 0) t f ∧ (dropR s d t f).1 = 0 ∧ (dropR s d t f).2.2 = dropD (d.getD 0 0) t f := by
  unfold takeR at h ⊢
  rw [mkR_code] at h
  rw [h, mkR_good]
  unfold takeC at h
  by_cases q : arrOk s d = true ∧ arrOk t f = true
  · rw [if_pos q] at h
    by_cases l : d.length ≠ 1
    · rw [if_pos l] at h; cases h
    · rw [if_neg l] at h
      by_cases z : 0 ≤ sizeV (takeS (d.getD 0 0) t f)
      · have hc : oneC s d t f = 0 := by unfold oneC; rw [if_pos q, if_neg l]
        refine ⟨q, by simpa using l, z, rfl, rfl, ?_, ?_⟩
        · unfold dropR; rw [mkR_code]; exact hc
        · unfold dropR; rw [hc, mkR_good]
      · rw [if_neg z] at h; cases h
  · rw [if_neg q] at h; cases h
theorem taken_bad {s d t f : List Int} (h : (takeR s d t f).1 ≠ 0) : (takeR s d t f).2.2.length = 0 := by
  unfold takeR at h ⊢
  rw [mkR_code] at h
  rw [mkR_bad h]; rfl
/-- How many rows there are. -/
def haveV (t : List Int) : Int := if t = [] then 1 else t.getD 0 0
theorem have_rows {t f : List Int} (ho : arrOk t f = true) : (rowsN (vecS t f) : Int) = haveV t := by
  have hz := arrOk_size ho
  unfold haveV vecS rowsN
  by_cases h : t = []
  · subst h
    rw [if_pos rfl, if_pos rfl]
    simp [sizeV, prodV] at hz ⊢
    omega
  · rw [if_neg h, if_neg h]
    have := head_bd ho
    omega
theorem taken_both {t f : List Int} {x : Int} (ho : arrOk t f = true) (hz : 0 ≤ sizeV (takeS x t f)) :
    (haveV t < manyV x → (dropD x t f).length = 0) ∧ (manyV x ≤ haveV t → (0 ≤ x → takeD x t f ++ dropD x t f = f) ∧ (x < 0 → dropD x t f ++ takeD x t f = f)) := by
  obtain ⟨ov, hv0⟩ := vec_ok ho
  have eall := rows_all ov hv0
  have hr := have_rows ho
  have hm := many_nat x
  have hH : haveN x t f = min (manyV x).toNat (rowsN (vecS t f)) := rfl
  constructor
  · intro hlt
    have hN : haveN x t f = rowsN (vecS t f) := by rw [hH]; omega
    unfold dropD
    rw [hN]
    split
    · rw [List.length_drop, eall]; omega
    · simp
  · intro hle
    have hN : haveN x t f = (manyV x).toNat := by rw [hH]; omega
    constructor
    · intro h0
      unfold takeD dropD
      rw [if_pos h0, if_pos h0, hN]
      simp
    · intro h0
      unfold takeD dropD
      rw [if_neg (by omega), if_neg (by omega), hN]
      simp
end Go.Proofs.Ytdobohobhpailaa
namespace Go.Proofs.Ytdobohobhpailaa
set_option linter.unusedVariables false
theorem scalar_right {m : Int} (h0 : 0 ≤ m) (h1 : m ≤ 300) : ok m = true ∧ arrOk [] [m] = true := by
  have : ok m = true := by simp [ok]; omega
  exact ⟨this, by simp [arrOk, sizeV, prodV, this]⟩
theorem joined_facts {m n : Int} {tl d e : List Int} (h1 : arrOk (m :: tl) d = true) (h2 : arrOk (n :: tl) e = true) (h3 : arrOk ((m + n) :: tl) (d ++ e) = true) :
    takeR [] [m] ((m + n) :: tl) (d ++ e) = (0, m :: tl, d) ∧ (dropR [] [m] ((m + n) :: tl) (d ++ e)).1 = 0 ∧ (dropR [] [m] ((m + n) :: tl) (d ++ e)).2.2 = e := by
  have b1 := head_bd h1
  have b2 := head_bd h2
  simp only [List.getD_cons_zero] at b1 b2
  have hs := (scalar_right b1.1 b1.2).2
  have hr := rows_all h1 (by simp)
  have hN : rowN (m :: tl) = rowN ((m + n) :: tl) := rfl
  have hM : rowsN (m :: tl) = m.toNat := rfl
  have hV : vecS ((m + n) :: tl) (d ++ e) = (m + n) :: tl := by simp [vecS]
  have hm : manyV m = m := by unfold manyV; split <;> omega
  have hh : haveN m ((m + n) :: tl) (d ++ e) = m.toNat := by
    unfold haveN
    rw [hV, hm]
    show min m.toNat (m + n).toNat = _
    omega
  rw [hN, hM] at hr
  have hT : takeS m ((m + n) :: tl) (d ++ e) = m :: tl := by unfold takeS; rw [hV, hm]; rfl
  refine ⟨?_, ?_, ?_⟩
  · unfold takeR takeC
    rw [if_pos ⟨hs, h3⟩, if_neg (by simp)]
    simp only [List.getD_cons_zero]
    rw [hT, if_pos (arrOk_shape h1), mkR_good]
    unfold takeD
    rw [if_pos b1.1, hh, hV, hr, hm]
    simp
  · unfold dropR oneC
    rw [if_pos ⟨hs, h3⟩, if_neg (by simp)]
    rfl
  · unfold dropR oneC
    rw [if_pos ⟨hs, h3⟩, if_neg (by simp), mkR_good]
    simp only [List.getD_cons_zero]
    unfold dropD
    rw [if_pos b1.1, hh, hV, hr]
    simp
theorem joined_code {s d t e : List Int} (h : (joinR s d t e).1 = 0) : ∃ m n tl, rowsS s = m :: tl ∧ (0 ≤ m ∧ m ≤ 300) ∧ arrOk (m :: tl) d = true ∧ arrOk (n :: tl) e = true ∧ arrOk ((m + n) :: tl) (d ++ e) = true ∧ joinR s d t e = (0, (m + n) :: tl, d ++ e) := by
  by_cases q : arrOk s d = true ∧ arrOk t e = true
  · obtain ⟨m, tl, q1, m0, m1, r1, _⟩ := rows_cons q.1
    obtain ⟨n, tl', q2, _, _, r2, _⟩ := rows_cons q.2
    have e0 := joinR_told q.1 q.2 q1 q2
    rw [e0] at h
    by_cases l : tl.length ≠ tl'.length
    · rw [if_pos l] at h; cases h
    · rw [if_neg l] at h
      by_cases l2 : tl ≠ tl'
      · rw [if_pos l2] at h; cases h
      · rw [if_neg l2] at h
        by_cases z : 0 ≤ sizeV ((m + n) :: tl)
        · have l3 : tl = tl' := by simpa using l2
          subst l3
          refine ⟨m, n, tl, q1, ⟨m0, m1⟩, r1, r2, join_right r1 r2 z, ?_⟩
          rw [e0, if_neg l, if_neg l2, if_pos z]
        · rw [if_neg z] at h; cases h
  · rw [joinR_bad q] at h; cases h
theorem joined_bad {s d t e : List Int} (h : (joinR s d t e).1 ≠ 0) : (joinR s d t e).2.2.length = 0 := by
  unfold joinR at h ⊢
  rw [mkR_code] at h
  rw [mkR_bad h]; rfl
end Go.Proofs.Ytdobohobhpailaa
namespace Go.Proofs.Ytdobohobhpailaa
set_option linter.unusedVariables false
set_option linter.unusedSimpArgs false
theorem redW_sum {l : List Int} (hl : l ≠ []) (h : ∀ x ∈ l, ok x = true) : ((redW 43 l).1 = 0 ∨ (redW 43 l).1 = 6) ∧ ((redW 43 l).1 = 0 → (redW 43 l).2 = l.sum) := by
  induction l with
  | nil => exact absurd rfl hl
  | cons x xs ih =>
    by_cases e : xs = []
    · subst e
      simp [redW]
    · have hx := fun y (hy : y ∈ xs) => h y (by simp [hy])
      obtain ⟨q1, q2⟩ := ih e hx
      by_cases h0 : (redW 43 xs).1 = 0
      · have e3 : redW 43 (x :: xs) = ((twoV 43 x (redW 43 xs).2).2, (twoV 43 x (redW 43 xs).2).1) := by rw [redW, if_neg e, if_pos h0]
        rw [e3, twoV_43 (h x (by simp)) (redW_ok e hx h0), q2 h0]
        by_cases k : ok (x + xs.sum) = true
        · rw [(lim_yes k).1, (lim_yes k).2]; simp
        · have k' : ok (x + xs.sum) = false := by simpa using k
          rw [(lim_no k').1, (lim_no k').2]; simp
      · have e3 : redW 43 (x :: xs) = ((redW 43 xs).1, 0) := by rw [redW, if_neg e, if_neg h0]
        rw [e3]
        exact ⟨q1, fun q => absurd q h0⟩
/-- The sum of a vector. -/
theorem sum_vec {n : Int} {d : List Int} (h : arrOk [n] d = true) : ∃ c : Int, (c = 0 ∨ c = 6) ∧ reduceR 43 [n] d = (c, [], if c = 0 then [d.sum] else []) ∧ (c = 0 → ok d.sum = true) := by
  rw [reduce_vec (by decide) h (by decide)]
  by_cases hd : d = []
  · subst hd
    exact ⟨0, .inl rfl, rfl, fun _ => by decide⟩
  · rw [if_neg hd]
    have hall : ∀ x ∈ d, ok x = true := by
      simp only [arrOk, Bool.and_eq_true, List.all_eq_true] at h
      exact h.2
    obtain ⟨q1, q2⟩ := redW_sum hd hall
    refine ⟨(redW 43 d).1, q1, ?_, fun q => by rw [← q2 q]; exact redW_ok hd hall q⟩
    by_cases q : (redW 43 d).1 = 0
    · rw [if_pos q, if_pos q, q2 q]
    · rw [if_neg q, if_neg q]
/-- Joined vectors. -/
theorem join_vec {m n : Int} {d f : List Int} (h : (joinR [m] d [n] f).1 = 0) : arrOk [m] d = true ∧ arrOk [n] f = true ∧ arrOk [m + n] (d ++ f) = true ∧ joinR [m] d [n] f = (0, [m + n], d ++ f) := by
  have hc : joinC [m] d [n] f = 0 := by unfold joinR at h; rw [mkR_code] at h; exact h
  have ho : arrOk [m] d = true ∧ arrOk [n] f = true := by
    unfold joinC at hc
    by_cases q : arrOk [m] d = true ∧ arrOk [n] f = true
    · exact q
    · rw [if_neg q] at hc; cases hc
  have hk : arrOk (joinS [m] d [n] f) (d ++ f) = true := by
    unfold joinC at hc
    rw [if_pos ho] at hc
    by_cases q1 : (vecS [m] d).length ≠ (vecS [n] f).length
    · rw [if_pos q1] at hc; cases hc
    · rw [if_neg q1] at hc
      by_cases q2 : (vecS [m] d).drop 1 ≠ (vecS [n] f).drop 1
      · rw [if_pos q2] at hc; cases hc
      · rw [if_neg q2] at hc
        by_cases q3 : arrOk (joinS [m] d [n] f) (d ++ f) = true
        · exact q3
        · rw [if_neg q3] at hc; cases hc
  have e : joinS [m] d [n] f = [m + n] := by simp [joinS, vecS]
  rw [e] at hk
  refine ⟨ho.1, ho.2, hk, ?_⟩
  unfold joinR
  rw [hc, e]; rfl
/-- What the law asks of the sums. -/
theorem sums_all {m n : Int} {d f : List Int} (h : (joinR [m] d [n] f).1 = 0) : ∃ c1 c2 c3 : Int, (c1 = 0 ∨ c1 = 6) ∧ (c2 = 0 ∨ c2 = 6) ∧ (c3 = 0 ∨ c3 = 6) ∧ reduceR 43 [m] d = (c1, [], if c1 = 0 then [d.sum] else []) ∧ reduceR 43 [n] f = (c2, [], if c2 = 0 then [f.sum] else []) ∧ reduceR 43 [m + n] (d ++ f) = (c3, [], if c3 = 0 then [(d ++ f).sum] else []) ∧
    (c1 = 0 → c2 = 0 → c3 = 0 → eachTwoC 43 [] [d.sum] [] [f.sum] = 0 ∧ eachTwoS 43 [] [d.sum] [] [f.sum] = [] ∧ eachTwoD 43 [] [d.sum] [] [f.sum] = [(d ++ f).sum]) := by
  obtain ⟨a1, a2, a3, _⟩ := join_vec h
  obtain ⟨c1, q1, r1, k1⟩ := sum_vec a1
  obtain ⟨c2, q2, r2, k2⟩ := sum_vec a2
  obtain ⟨c3, q3, r3, k3⟩ := sum_vec a3
  refine ⟨c1, c2, c3, q1, q2, q3, r1, r2, r3, fun e1 e2 e3 => ?_⟩
  obtain ⟨s1, s2⟩ := each_scalar (g := 43) (k1 e1) (k2 e2) (by decide)
  have hk : ok (d.sum + f.sum) = true := by have := k3 e3; rw [List.sum_append] at this; exact this
  have t : twoV 43 d.sum f.sum = (d.sum + f.sum, 0) := by rw [twoV_43 (k1 e1) (k2 e2), (lim_yes hk).1, (lim_yes hk).2]
  rw [t] at s1 s2
  refine ⟨s1, ?_, by rw [s2, List.sum_append]; rfl⟩
  exact row_shape s1
end Go.Proofs.Ytdobohobhpailaa
namespace Go.Proofs.Ytdobohobhpailaa
open Go.RowKit
set_option linter.unusedVariables false
theorem two_appends {V : World} {a b : Option Addr} {l m : List Int} (ha : Ints V a l) (hb : Ints V b m) (hl : l.length + m.length ≤ 1048576) (c c' : Nat) :
    ∃ a1 c1 w1 a2 c2 w2, (Builtin.append_ #[24, 24] 24 #[.slice (some ⟨V.heap.size, 0, none⟩) 0 0, .slice a l.length c]).run Try.prog (V.alloc (.cells #[] 3)) = .ok (.slice a1 l.length c1) w1 ∧
      (Builtin.append_ #[24, 24] 24 #[.slice a1 l.length c1, .slice b m.length c']).run Try.prog w1 = .ok (.slice a2 (l ++ m).length c2) w2 ∧ Below V.heap.size V w1 ∧ Below V.heap.size V w2 ∧ Ints w2 a2 (l ++ m) ∧ NewInts V.heap.size w2 (.slice a2 (l ++ m).length c2) (l ++ m) := by
  have B0 : Below V.heap.size V (V.alloc (.cells #[] 3)) := bAlloc (Below.refl _ _) _
  have N0 : NewInts V.heap.size (V.alloc (.cells #[] 3)) (.slice (some ⟨V.heap.size, 0, none⟩) 0 0) [] := newInts_alloc V [] (Nat.le_refl _) (by simp)
  obtain ⟨a1, c1, w1, r1, n1, b1⟩ := growL N0 (ha.keep B0) (by simp) (by simp; omega) c
  have B1 : Below V.heap.size V w1 := B0.trans b1
  obtain ⟨a2, c2, w2, r2, n2, b2⟩ := growL n1 (hb.keep B1) (B1.size) (by simpa using hl) c'
  have e : ([] : List Int) ++ l = l := rfl
  rw [e] at r1 r2 n2
  obtain ⟨p, q, h, hi⟩ := n2.ints
  cases h
  exact ⟨a1, c1, w1, a2, c2, w2, r1, r2, B1, B1.trans b2, hi, n2⟩
end Go.Proofs.Ytdobohobhpailaa
namespace Go.Proofs.Ytdobohobhpailaa
open Go.RowKit
set_option linter.unusedVariables false
set_option linter.unusedSimpArgs false
theorem Piece.same {B C : Nat} {w W : World} {v : Value} {l : List Int} (h : Piece B C w v l) (hs : ∀ o, B ≤ o → o < C → W.heap[o]? = w.heap[o]?) : Piece B C W v l := by
  obtain ⟨a, c, rfl, hle, h⟩ := h
  refine ⟨a, c, rfl, hle, ?_⟩
  rcases h with rfl | ⟨g, off, cur, t, rfl, h1, h2, hg, r⟩
  · exact .inl rfl
  · exact .inr ⟨g, off, cur, t, rfl, h1, h2, by rw [hs g h1 h2]; exact hg, r⟩
theorem Arr.same {B C : Nat} {w W : World} {v : Value} {s d : List Int} (h : Arr B C w v s d) (hs : ∀ o, B ≤ o → o < C → W.heap[o]? = w.heap[o]?) : Arr B C W v s d := by
  obtain ⟨x, y, rfl, h1, h2, h3⟩ := h
  exact ⟨x, y, rfl, h1.same hs, h2.same hs, h3⟩
set_option maxRecDepth 20000 in
set_option maxHeartbeats 2000000 in
/-- l5Vector: what it answers stands in every world that keeps the argument and what the call has made. -/
theorem vec6_spec {G : World → Prop} {s d : List Int} {w : World} {v : Value} (hG : ∀ W, G W → ArrI W v s d) (h : ArrI w v s d) (hd : d.length ≤ 1048576) :
    Calls Try.prog 23 #[v] w fun e w' => ∃ x k y l, e = .returned (.agg #[.slice x (vecS s d).length k, .slice y d.length l]) ∧ (∀ W : World, G W → (∀ o, w.heap.size ≤ o → o < w'.heap.size → W.heap[o]? = w'.heap[o]?) → ArrI W (.agg #[.slice x (vecS s d).length k, .slice y d.length l]) (vecS s d) d) ∧ Below w.heap.size w w' := by
  have H : Hid (∀ W, G W → ArrI W v s d) := hG
  obtain ⟨a, c, b, f, rfl, h1, h2, _, _⟩ := h
  have H2 : Hid (Ints w b d) := h2
  have HD : Hid (d.length ≤ 1048576) := hd
  clear h1 h2 hd hG
  by_cases e : s = []
  · subst e
    obtain ⟨Z, hZ⟩ : ∃ Z : List Int, Z = [(d.length : Int)] := ⟨_, rfl⟩
    have EV : vecS [] d = Z := by unfold vecS; rw [if_pos rfl, hZ]
    have HV : Hid (∀ W, Ints W b d → Calls Try.prog 44 #[.slice b d.length f] W fun e w' => ∃ v, e = .returned v ∧ Arr W.heap.size w'.heap.size w' v Z d ∧ Below W.heap.size W w') := fun W h => by rw [hZ]; exact vector_spec f h HD.out
    rw [EV]
    clear EV hZ H
    go_enter Try.func23, Try.ntmps23
    go_wp2_with fail
    refine (HV.out _ (H2.out.keep (bAlloc (bAlloc (Below.refl _ _) _) _))).mono ?_
    rintro r w2 ⟨v', rfl, ha, hb⟩
    obtain ⟨a', c', b', f', rfl, _, _, _, _⟩ := ha.arrI
    have HA : Hid (Arr (w.heap.size + 2) w2.heap.size w2 (.agg #[.slice a' Z.length c', .slice b' d.length f']) Z d) := ha.mono (by simp) (Nat.le_refl _)
    have HB2 : Hid (Below w.heap.size w w2) := bTrans (bAlloc (bAlloc (Below.refl _ _) _) _) hb
    have Y2 : Hid (Box w2 (w.heap.size + 1) (.slice none 0 0) (.slice none 0 0) 26) := (box_new2 w _ _ _ _).keep hb
    clear ha hb
    have y0 := Y2.out.c0
    have y1 := Y2.out.c1
    have f0 : w2.frozen? ⟨w.heap.size + 1, 0, none⟩ = false := free_at Y2.out 0
    have f1 : w2.frozen? ⟨w.heap.size + 1, 1, none⟩ = false := free_at Y2.out 1
    have HR : Hid (((w2.setCell ⟨w.heap.size + 1, 0, none⟩ (.slice a' Z.length c')).setCell ⟨w.heap.size + 1, 1, none⟩ (.slice b' d.length f')).heap[w.heap.size + 1]? = some (.cells #[.slice a' Z.length c', .slice b' d.length f'] 26 (0, 0))) := arr_stored Y2.out
    go_wp2
    refine bodyPost_ret (v := .agg #[.slice a' Z.length c', .slice b' d.length f']) (results_arr rfl _ _ (w.heap.size + 1) _ _ rfl HR.out) rfl ?_
    refine ⟨a', c', b', f', rfl, fun W _ hs => ?_, below_setCell (below_setCell HB2.out (by omega) _ _) (by omega) _ _⟩
    have HA2 := ((HA.out.setCell (g := w.heap.size + 1) (by omega) 0 (.slice a' Z.length c')).setCell (g := w.heap.size + 1) (by omega) 1 (.slice b' d.length f'))
    exact (HA2.same (fun o h1 h2 => hs o (by omega) (by simp only [size_setCell]; omega))).arrI
  · have EV : vecS s d = s := by unfold vecS; rw [if_neg e]
    have n1 : ((s.length : Int) == 0) = false := by
      have := List.length_pos_iff.2 e
      simp; omega
    rw [EV]
    clear EV e
    go_enter Try.func23, Try.ntmps23
    go_wp2
    refine bodyPost_ret (v := .agg #[.slice a s.length c, .slice b d.length f]) (results_arr rfl _ _ (w.heap.size + 1) _ _ rfl (box_new2 w _ _ _ _)) rfl ?_
    exact ⟨a, c, b, f, rfl, fun W hW _ => H.out W hW, bAlloc (bAlloc (Below.refl _ _) _) _⟩
/-- Two arrays put into two blocks of one's own: what stands then. -/
theorem put_rel {w V : World} {q p : Nat} {x y x' y' x0 y0 x1 y1 : Value} {A A' : World → Prop} (hb : Below w.heap.size w V) (hq : w.heap.size ≤ q) (hp : w.heap.size ≤ p) (hne : q ≠ p)
    (bq : Box V q x0 y0 26) (bp : Box V p x1 y1 26) (ga : ∀ W, Below w.heap.size w W → (∀ g, g ≠ q → g ≠ p → W.heap[g]? = V.heap[g]?) → A W) (ga' : ∀ W, Below w.heap.size w W → (∀ g, g ≠ q → g ≠ p → W.heap[g]? = V.heap[g]?) → A' W) :
    Box ((((V.setCell ⟨q, 0, none⟩ x).setCell ⟨q, 1, none⟩ y).setCell ⟨p, 0, none⟩ x').setCell ⟨p, 1, none⟩ y') q x y 26 ∧
    Box ((((V.setCell ⟨q, 0, none⟩ x).setCell ⟨q, 1, none⟩ y).setCell ⟨p, 0, none⟩ x').setCell ⟨p, 1, none⟩ y') p x' y' 26 ∧
    A ((((V.setCell ⟨q, 0, none⟩ x).setCell ⟨q, 1, none⟩ y).setCell ⟨p, 0, none⟩ x').setCell ⟨p, 1, none⟩ y') ∧
    A' ((((V.setCell ⟨q, 0, none⟩ x).setCell ⟨q, 1, none⟩ y).setCell ⟨p, 0, none⟩ x').setCell ⟨p, 1, none⟩ y') ∧
    Below w.heap.size w ((((V.setCell ⟨q, 0, none⟩ x).setCell ⟨q, 1, none⟩ y).setCell ⟨p, 0, none⟩ x').setCell ⟨p, 1, none⟩ y') ∧ w.heap.size ≤ q ∧ w.heap.size ≤ p := by
  have b1 : Box ((V.setCell ⟨q, 0, none⟩ x).setCell ⟨q, 1, none⟩ y) q x y 26 := arr_stored bq
  have hh : ∀ g, g ≠ q → g ≠ p → ((((V.setCell ⟨q, 0, none⟩ x).setCell ⟨q, 1, none⟩ y).setCell ⟨p, 0, none⟩ x').setCell ⟨p, 1, none⟩ y').heap[g]? = V.heap[g]? := fun g h1 h2 => by
    rw [heap_setCell_other _ _ _ _ (by show g ≠ p; exact h2), heap_setCell_other _ _ _ _ (by show g ≠ p; exact h2), heap_setCell_other _ _ _ _ (by show g ≠ q; exact h1), heap_setCell_other _ _ _ _ (by show g ≠ q; exact h1)]
  have b2 : Box ((V.setCell ⟨q, 0, none⟩ x).setCell ⟨q, 1, none⟩ y) p x1 y1 26 := by
    show (((V.setCell ⟨q, 0, none⟩ x).setCell ⟨q, 1, none⟩ y)).heap[p]? = _
    rw [heap_setCell_other _ _ _ _ (by show p ≠ q; exact fun h => hne h.symm), heap_setCell_other _ _ _ _ (by show p ≠ q; exact fun h => hne h.symm)]
    exact bp
  have b3 : Box ((((V.setCell ⟨q, 0, none⟩ x).setCell ⟨q, 1, none⟩ y).setCell ⟨p, 0, none⟩ x').setCell ⟨p, 1, none⟩ y') q x y 26 := by
    show (((((V.setCell ⟨q, 0, none⟩ x).setCell ⟨q, 1, none⟩ y).setCell ⟨p, 0, none⟩ x').setCell ⟨p, 1, none⟩ y')).heap[q]? = _
    rw [heap_setCell_other _ _ _ _ (by show q ≠ p; exact hne), heap_setCell_other _ _ _ _ (by show q ≠ p; exact hne)]
    exact b1
  have bl := below_setCell (below_setCell (below_setCell (below_setCell hb hq (o := 0) x) hq (o := 1) y) hp (o := 0) x') hp (o := 1) y'
  exact ⟨b3, arr_stored b2, ga _ bl hh, ga' _ bl hh, bl, hq, hp⟩
/-- One array put into a block of one's own, the other laid behind it. -/
theorem put_one {w V : World} {q : Nat} {x y x' y' x0 y0 : Value} {A : World → Prop} (hb : Below w.heap.size w V) (hq : w.heap.size ≤ q)
    (bq : Box V q x0 y0 26) (ga : ∀ W, Below w.heap.size w W → (∀ g, g ≠ q → g < V.heap.size → W.heap[g]? = V.heap[g]?) → A W) :
    Box (((V.setCell ⟨q, 0, none⟩ x).setCell ⟨q, 1, none⟩ y).alloc (.cells #[x', y'] 26)) q x y 26 ∧
    Box (((V.setCell ⟨q, 0, none⟩ x).setCell ⟨q, 1, none⟩ y).alloc (.cells #[x', y'] 26)) V.heap.size x' y' 26 ∧
    A (((V.setCell ⟨q, 0, none⟩ x).setCell ⟨q, 1, none⟩ y).alloc (.cells #[x', y'] 26)) ∧
    Below w.heap.size w (((V.setCell ⟨q, 0, none⟩ x).setCell ⟨q, 1, none⟩ y).alloc (.cells #[x', y'] 26)) := by
  have b1 : Box ((V.setCell ⟨q, 0, none⟩ x).setCell ⟨q, 1, none⟩ y) q x y 26 := arr_stored bq
  have bl := bAlloc (below_setCell (below_setCell hb hq (o := 0) x) hq (o := 1) y) (.cells #[x', y'] 26)
  have sz : ((V.setCell ⟨q, 0, none⟩ x).setCell ⟨q, 1, none⟩ y).heap.size = V.heap.size := by simp only [size_setCell]
  have b2 := box_new ((V.setCell ⟨q, 0, none⟩ x).setCell ⟨q, 1, none⟩ y) x' y' 26
  rw [sz] at b2
  refine ⟨b1.keep (bAlloc (Below.refl _ _) _), b2, ga _ bl (fun g h1 h2 => ?_), bl⟩
  rw [Below.heap_alloc _ _ _ (by rw [sz]; exact h2), heap_setCell_other _ _ _ _ (by show g ≠ q; exact h1), heap_setCell_other _ _ _ _ (by show g ≠ q; exact h1)]
end Go.Proofs.Ytdobohobhpailaa
namespace Go.Proofs.Ytdobohobhpailaa
open Go.RowKit
set_option linter.unusedVariables false
set_option linter.unusedSimpArgs false
set_option maxRecDepth 20000 in
set_option maxHeartbeats 40000000 in
/-- Join. -/
theorem join_spec {s d t e : List Int} {w : World} {v u : Value} (h : ArrI w v s d) (k : ArrI w u t e) (hd : d.length ≤ 1048576) (he : e.length ≤ 1048576) :
    Calls Try.prog 7 #[v, u] w fun r w' => ∃ v', r = .returned (.tuple #[v', .int .i64 (joinR s d t e).1]) ∧ Arr w.heap.size w'.heap.size w' v' (joinR s d t e).2.1 (joinR s d t e).2.2 ∧ Below w.heap.size w w' := by
  have H : Hid (ArrI w v s d) := h
  have K : Hid (ArrI w u t e) := k
  obtain ⟨a, c, b, f, rfl, h1, h2, _, _⟩ := h
  obtain ⟨a', c', b', f', rfl, k1, k2, _, _⟩ := k
  have HD : Hid (d.length ≤ 1048576) := hd
  have HE : Hid (e.length ≤ 1048576) := he
  clear h1 h2 k1 k2 hd he
  by_cases ho : arrOk s d = true
  · have HO : Hid (arrOk s d = true) := ho
    by_cases ho' : arrOk t e = true
    · have HO' : Hid (arrOk t e = true) := ho'
      obtain ⟨m, tl, q1, m0, m1, r1, l1⟩ := rows_cons ho
      obtain ⟨n, tl', q2, n0, n1, r2, l2⟩ := rows_cons ho'
      have hd3 := arrOk_len ho
      have he3 := arrOk_len ho'
      have ER := joinR_told ho ho' q1 q2
      obtain ⟨x, hx⟩ : ∃ x, x = (joinR s d t e).1 := ⟨_, rfl⟩
      obtain ⟨S, hS⟩ : ∃ S, S = (joinR s d t e).2.1 := ⟨_, rfl⟩
      obtain ⟨D, hD⟩ : ∃ D, D = (joinR s d t e).2.2 := ⟨_, rfl⟩
      rw [← hx, ← hS, ← hD]
      rw [ER] at hx hS hD
      obtain ⟨VS, hVS⟩ : ∃ V, V = vecS s d := ⟨_, rfl⟩
      obtain ⟨VT, hVT⟩ : ∃ V, V = vecS t e := ⟨_, rfl⟩
      have HV1 : Hid (∀ W, Below w.heap.size w W → Calls Try.prog 23 #[.agg #[.slice a s.length c, .slice b d.length f]] W fun r w' => ∃ x k y l, r = .returned (.agg #[.slice x VS.length k, .slice y d.length l]) ∧ (∀ W' : World, Below w.heap.size w W' → (∀ o, W.heap.size ≤ o → o < w'.heap.size → W'.heap[o]? = w'.heap[o]?) → ArrI W' (.agg #[.slice x VS.length k, .slice y d.length l]) VS d) ∧ Below W.heap.size W w') := fun W hb => by rw [hVS]; exact vec6_spec (fun W' h => H.out.keep h) (H.out.keep hb) HD.out
      have HV2 : Hid (∀ W, Below w.heap.size w W → Calls Try.prog 23 #[.agg #[.slice a' t.length c', .slice b' e.length f']] W fun r w' => ∃ x k y l, r = .returned (.agg #[.slice x VT.length k, .slice y e.length l]) ∧ (∀ W' : World, Below w.heap.size w W' → (∀ o, W.heap.size ≤ o → o < w'.heap.size → W'.heap[o]? = w'.heap[o]?) → ArrI W' (.agg #[.slice x VT.length k, .slice y e.length l]) VT e) ∧ Below W.heap.size W w') := fun W hb => by rw [hVT]; exact vec6_spec (fun W' h => K.out.keep h) (K.out.keep hb) HE.out
      have QS : Hid (VS = m :: tl) := by show _ = _; rw [hVS, (rowsS_ok ho).2.2]; exact q1
      have QT : Hid (VT = n :: tl') := by show _ = _; rw [hVT, (rowsS_ok ho').2.2]; exact q2
      clear hVS hVT ER ho ho'
      go_enter Try.func7, Try.ntmps7
      go_wp2_with fail
      refine (arrOk_spec (H.out.keep (bAlloc (bAlloc (bAlloc (bAlloc (Below.refl _ _) _) _) _) _)) HD.out).mono ?_
      rintro r w1 ⟨rfl, hb⟩
      have HB1 : Hid (Below w.heap.size w w1) := bTrans (bAlloc (bAlloc (bAlloc (bAlloc (Below.refl _ _) _) _) _) _) hb
      have q1 := blocks4 w (.cells #[.slice a s.length c, .slice b d.length f] 26) (.cells #[.slice a' t.length c', .slice b' e.length f'] 26) (.cells #[.slice none 0 0, .slice none 0 0] 26) (.cells #[.slice none 0 0, .slice none 0 0] 26)
      have X1 : Hid (Box w1 w.heap.size (.slice a s.length c) (.slice b d.length f) 26) := Box.keep q1.1 hb
      have Y1 : Hid (Box w1 (w.heap.size + 1) (.slice a' t.length c') (.slice b' e.length f') 26) := Box.keep q1.2.1 hb
      have R1 : Hid (Box w1 (w.heap.size + 1 + 1) (.slice none 0 0) (.slice none 0 0) 26) := Box.keep q1.2.2.1 hb
      have Z1 : Hid (Box w1 (w.heap.size + 1 + 1 + 1) (.slice none 0 0) (.slice none 0 0) 26) := Box.keep q1.2.2.2 hb
      clear hb q1
      rw [HO.out]
      have x0 := X1.out.c0
      have x1 := X1.out.c1
      have y0 := Y1.out.c0
      have y1 := Y1.out.c1
      have r0 := R1.out.c0
      have r1 := R1.out.c1
      have f0 : w1.frozen? ⟨w.heap.size + 1 + 1, 0, none⟩ = false := free_at R1.out 0
      have f1 : w1.frozen? ⟨w.heap.size + 1 + 1, 1, none⟩ = false := free_at R1.out 1
      have z0 := Z1.out.c0
      have z1 := Z1.out.c1
      go_wp2_with fail
      refine (arrOk_spec (K.out.keep HB1.out) HE.out).mono ?_
      rintro r w2 ⟨rfl, hb⟩
      have HB2 : Hid (Below w.heap.size w w2) := bTrans HB1.out hb
      have X2 : Hid (Box w2 w.heap.size (.slice a s.length c) (.slice b d.length f) 26) := X1.out.keep hb
      have Y2 : Hid (Box w2 (w.heap.size + 1) (.slice a' t.length c') (.slice b' e.length f') 26) := Y1.out.keep hb
      have R2 : Hid (Box w2 (w.heap.size + 1 + 1) (.slice none 0 0) (.slice none 0 0) 26) := R1.out.keep hb
      have Z2 : Hid (Box w2 (w.heap.size + 1 + 1 + 1) (.slice none 0 0) (.slice none 0 0) 26) := Z1.out.keep hb
      rw [HO'.out]
      clear hb x0 x1 y0 y1 r0 r1 z0 z1 f0 f1 X1 Y1 R1 Z1 HB1
      have x0 := X2.out.c0
      have x1 := X2.out.c1
      have y0 := Y2.out.c0
      have y1 := Y2.out.c1
      go_wp2_with fail
      go_cut [7, 8] from 20 (fun p q w' => ∃ (g7 g8 : Nat) (x4 : Option Addr) (k4 : Nat) (y4 : Option Addr) (l4 : Nat) (x5 : Option Addr) (k5 : Nat) (y5 : Option Addr) (l5 : Nat), p = .pointer (some ⟨g7, 0, none⟩) ∧ q = .pointer (some ⟨g8, 0, none⟩) ∧ Box w' g7 (.slice x4 VS.length k4) (.slice y4 d.length l4) 26 ∧ Box w' g8 (.slice x5 VT.length k5) (.slice y5 e.length l5) 26 ∧ ArrI w' (.agg #[.slice x4 VS.length k4, .slice y4 d.length l4]) VS d ∧ ArrI w' (.agg #[.slice x5 VT.length k5, .slice y5 e.length l5]) VT e ∧ Below w2.heap.size w2 w' ∧ w2.heap.size ≤ g7 ∧ w2.heap.size ≤ g8)
      case first =>
        have L2 := Z2.out.lt
        go_region_held3 (fun w' => w'.cell? ⟨w.heap.size, 0, none⟩ = some (.slice a s.length c) ∧ w'.cell? ⟨w.heap.size, 1, none⟩ = some (.slice b d.length f) ∧ w'.cell? ⟨w.heap.size + 1, 0, none⟩ = some (.slice a' t.length c') ∧ w'.cell? ⟨w.heap.size + 1, 1, none⟩ = some (.slice b' e.length f'))
          ((refine ⟨(show Box _ w.heap.size (.slice a s.length c) (.slice b d.length f) 26 from ?_).c0, (show Box _ w.heap.size (.slice a s.length c) (.slice b d.length f) 26 from ?_).c1, (show Box _ (w.heap.size + 1) (.slice a' t.length c') (.slice b' e.length f') 26 from ?_).c0, (show Box _ (w.heap.size + 1) (.slice a' t.length c') (.slice b' e.length f') 26 from ?_).c1⟩ <;> (repeat first | with_reducible exact XB5.out | with_reducible exact YB5.out | with_reducible exact XB4.out | with_reducible exact YB4.out | with_reducible exact X2.out | with_reducible exact Y2.out | with_reducible refine Box.keep ?_ ((Below.refl _ _).drew) | with_reducible refine Box.keep ?_ (bAlloc (Below.refl _ _) _) | with_reducible refine Box.win ?_ (win_setCell _ _ _ _) (.inl (by (try simp); omega)))))
          (first
            | (go_at_call_of 23 (Value.agg #[.slice a s.length c, .slice b d.length f]); refine (HV1.out _ (bTrans HB2.out (by repeat first | with_reducible exact HR5.out | with_reducible exact HR4.out | with_reducible exact (Below.refl _ _).drew | with_reducible exact Below.refl _ _ | with_reducible refine bAlloc ?_ _ | with_reducible refine Below.drew ?_))).mono ?_; rintro r w4 ⟨x4, k4, y4, l4, rfl, h4, hb⟩; have HR4 : Hid (Below w2.heap.size w2 w4) := bTrans (by repeat first | with_reducible exact HR5.out | with_reducible exact HR4.out | with_reducible exact (Below.refl _ _).drew | with_reducible exact Below.refl _ _ | with_reducible refine bAlloc ?_ _ | with_reducible refine Below.drew ?_) hb; have I4 : Hid (∀ W' : World, _ → _ → _) := h4; have s4 : w2.heap.size ≤ w4.heap.size := HR4.out.size; have XB4 : Hid (Box w4 w.heap.size (.slice a s.length c) (.slice b d.length f) 26) := X2.out.keep HR4.out; have YB4 : Hid (Box w4 (w.heap.size + 1) (.slice a' t.length c') (.slice b' e.length f') 26) := Y2.out.keep HR4.out; (try have p0 : Hid (Box w4 w2.heap.size (.slice none 0 0) (.slice none 0 0) 26) := Box.keep (w := World.drew (World.alloc w2 (.cells #[.slice none 0 0, .slice none 0 0] 26))) (box_new w2 _ _ _) hb); (try have p0 : Hid (Box w4 w2.heap.size (.slice none 0 0) (.slice none 0 0) 26) := Box.keep (w := World.drew (World.alloc (World.alloc w2 (.cells #[.slice none 0 0, .slice none 0 0] 26)) (.cells #[.slice none 0 0, .slice none 0 0] 26))) (heap_alloc2_old w2 _ _) hb); (try have p1 : Hid (Box w4 (w2.heap.size + 1) (.slice none 0 0) (.slice none 0 0) 26) := Box.keep (w := World.drew (World.alloc (World.alloc w2 (.cells #[.slice none 0 0, .slice none 0 0] 26)) (.cells #[.slice none 0 0, .slice none 0 0] 26))) (heap_alloc2_new w2 _ _) hb); clear h4 hb)
            | (go_at_call_of 23 (Value.agg #[.slice a' t.length c', .slice b' e.length f']); refine (HV2.out _ (bTrans HB2.out (by repeat first | with_reducible exact HR5.out | with_reducible exact HR4.out | with_reducible exact (Below.refl _ _).drew | with_reducible exact Below.refl _ _ | with_reducible refine bAlloc ?_ _ | with_reducible refine Below.drew ?_))).mono ?_; rintro r w5 ⟨x5, k5, y5, l5, rfl, h5, hb⟩; have HR5 : Hid (Below w2.heap.size w2 w5) := bTrans (by repeat first | with_reducible exact HR5.out | with_reducible exact HR4.out | with_reducible exact (Below.refl _ _).drew | with_reducible exact Below.refl _ _ | with_reducible refine bAlloc ?_ _ | with_reducible refine Below.drew ?_) hb; have HR45 : Hid (Below w4.heap.size w4 w5) := bTrans (by repeat first | exact Below.refl _ _ | refine bAlloc ?_ _) hb; have I5 : Hid (∀ W' : World, _ → _ → _) := h5; have s5 : w4.heap.size ≤ w5.heap.size := HR45.out.size; have XB5 : Hid (Box w5 w.heap.size (.slice a s.length c) (.slice b d.length f) 26) := X2.out.keep HR5.out; have YB5 : Hid (Box w5 (w.heap.size + 1) (.slice a' t.length c') (.slice b' e.length f') 26) := Y2.out.keep HR5.out; (try have P0 : Hid (Box w5 w2.heap.size (.slice none 0 0) (.slice none 0 0) 26) := p0.out.keep HR45.out); (try have P1 : Hid (Box w5 (w2.heap.size + 1) (.slice none 0 0) (.slice none 0 0) 26) := p1.out.keep HR45.out); (try have Q0 : Hid (Box w5 w4.heap.size (.slice none 0 0) (.slice none 0 0) 26) := Box.keep (w := World.alloc w4 (.cells #[.slice none 0 0, .slice none 0 0] 26)) (box_new w4 _ _ _) hb); (try have Q0 : Hid (Box w5 w4.heap.size (.slice none 0 0) (.slice none 0 0) 26) := Box.keep (w := World.alloc (World.alloc w4 (.cells #[.slice none 0 0, .slice none 0 0] 26)) (.cells #[.slice none 0 0, .slice none 0 0] 26)) (heap_alloc2_old w4 _ _) hb); (try have Q1 : Hid (Box w5 (w4.heap.size + 1) (.slice none 0 0) (.slice none 0 0) 26) := Box.keep (w := World.alloc (World.alloc w4 (.cells #[.slice none 0 0, .slice none 0 0] 26)) (.cells #[.slice none 0 0, .slice none 0 0] 26)) (heap_alloc2_new w4 _ _) hb); (try have e4 := p0.out.lt); (try have e5 := p1.out.lt); (try have P0c0 := P0.out.c0); (try have P0c1 := P0.out.c1); (try have P0d0 := (fun O : Obj => (P0.out.keep (bAlloc (Below.refl _ _) O)).c0)); (try have P0d1 := (fun O : Obj => (P0.out.keep (bAlloc (Below.refl _ _) O)).c1)); (try have P0f0 : w5.frozen? ⟨w2.heap.size, 0, none⟩ = false := free_at P0.out 0); (try have P0f1 : w5.frozen? ⟨w2.heap.size, 1, none⟩ = false := free_at P0.out 1); (try have P0g0 : ∀ O : Obj, (w5.alloc O).frozen? ⟨w2.heap.size, 0, none⟩ = false := fun O => free_at (P0.out.keep (bAlloc (Below.refl _ _) O)) 0); (try have P0g1 : ∀ O : Obj, (w5.alloc O).frozen? ⟨w2.heap.size, 1, none⟩ = false := fun O => free_at (P0.out.keep (bAlloc (Below.refl _ _) O)) 1); (try have P0l := P0.out.lt); (try have P1c0 := P1.out.c0); (try have P1c1 := P1.out.c1); (try have P1d0 := (fun O : Obj => (P1.out.keep (bAlloc (Below.refl _ _) O)).c0)); (try have P1d1 := (fun O : Obj => (P1.out.keep (bAlloc (Below.refl _ _) O)).c1)); (try have P1f0 : w5.frozen? ⟨w2.heap.size + 1, 0, none⟩ = false := free_at P1.out 0); (try have P1f1 : w5.frozen? ⟨w2.heap.size + 1, 1, none⟩ = false := free_at P1.out 1); (try have P1g0 : ∀ O : Obj, (w5.alloc O).frozen? ⟨w2.heap.size + 1, 0, none⟩ = false := fun O => free_at (P1.out.keep (bAlloc (Below.refl _ _) O)) 0); (try have P1g1 : ∀ O : Obj, (w5.alloc O).frozen? ⟨w2.heap.size + 1, 1, none⟩ = false := fun O => free_at (P1.out.keep (bAlloc (Below.refl _ _) O)) 1); (try have P1l := P1.out.lt); (try have Q0c0 := Q0.out.c0); (try have Q0c1 := Q0.out.c1); (try have Q0d0 := (fun O : Obj => (Q0.out.keep (bAlloc (Below.refl _ _) O)).c0)); (try have Q0d1 := (fun O : Obj => (Q0.out.keep (bAlloc (Below.refl _ _) O)).c1)); (try have Q0f0 : w5.frozen? ⟨w4.heap.size, 0, none⟩ = false := free_at Q0.out 0); (try have Q0f1 : w5.frozen? ⟨w4.heap.size, 1, none⟩ = false := free_at Q0.out 1); (try have Q0g0 : ∀ O : Obj, (w5.alloc O).frozen? ⟨w4.heap.size, 0, none⟩ = false := fun O => free_at (Q0.out.keep (bAlloc (Below.refl _ _) O)) 0); (try have Q0g1 : ∀ O : Obj, (w5.alloc O).frozen? ⟨w4.heap.size, 1, none⟩ = false := fun O => free_at (Q0.out.keep (bAlloc (Below.refl _ _) O)) 1); (try have Q0l := Q0.out.lt); (try have Q1c0 := Q1.out.c0); (try have Q1c1 := Q1.out.c1); (try have Q1d0 := (fun O : Obj => (Q1.out.keep (bAlloc (Below.refl _ _) O)).c0)); (try have Q1d1 := (fun O : Obj => (Q1.out.keep (bAlloc (Below.refl _ _) O)).c1)); (try have Q1f0 : w5.frozen? ⟨w4.heap.size + 1, 0, none⟩ = false := free_at Q1.out 0); (try have Q1f1 : w5.frozen? ⟨w4.heap.size + 1, 1, none⟩ = false := free_at Q1.out 1); (try have Q1g0 : ∀ O : Obj, (w5.alloc O).frozen? ⟨w4.heap.size + 1, 0, none⟩ = false := fun O => free_at (Q1.out.keep (bAlloc (Below.refl _ _) O)) 0); (try have Q1g1 : ∀ O : Obj, (w5.alloc O).frozen? ⟨w4.heap.size + 1, 1, none⟩ = false := fun O => free_at (Q1.out.keep (bAlloc (Below.refl _ _) O)) 1); (try have Q1l := Q1.out.lt); clear h5 hb))
        all_goals
          go_wp2_with fail
          go_meet
          case rel =>
            first
              | (refine ⟨w2.heap.size, (w2.heap.size + 1), x4, k4, y4, l4, x5, k5, y5, l5, by with_reducible rfl, by with_reducible rfl, ?_⟩; have qq := put_rel (A := fun W => ArrI W (.agg #[.slice x4 VS.length k4, .slice y4 d.length l4]) VS d) (A' := fun W => ArrI W (.agg #[.slice x5 VT.length k5, .slice y5 e.length l5]) VT e) (w := w2) (V := w5) (q := w2.heap.size) (p := (w2.heap.size + 1)) (x := .slice x4 VS.length k4) (y := .slice y4 d.length l4) (x' := .slice x5 VT.length k5) (y' := .slice y5 e.length l5) HR5.out (by omega) (by omega) (by omega) P0.out P1.out (fun W hw hh => I4.out W (bTrans HB2.out hw) (fun o h1 h2 => (hh o (by (try simp at h1); omega) (by (try simp at h1); omega)).trans (HR45.out.block o h2))) (fun W hw hh => I5.out W (bTrans HB2.out hw) (fun o h1 h2 => hh o (by (try simp at h1); omega) (by (try simp at h1); omega))); with_reducible exact qq)
              | (refine ⟨w2.heap.size, (w2.heap.size + 1), x4, k4, y4, l4, x5, k5, y5, l5, by with_reducible rfl, by with_reducible rfl, ?_⟩; have qq := put_rel (A' := fun W => ArrI W (.agg #[.slice x4 VS.length k4, .slice y4 d.length l4]) VS d) (A := fun W => ArrI W (.agg #[.slice x5 VT.length k5, .slice y5 e.length l5]) VT e) (w := w2) (V := w5) (q := (w2.heap.size + 1)) (p := w2.heap.size) (x := .slice x5 VT.length k5) (y := .slice y5 e.length l5) (x' := .slice x4 VS.length k4) (y' := .slice y4 d.length l4) HR5.out (by omega) (by omega) (by omega) P1.out P0.out (fun W hw hh => I5.out W (bTrans HB2.out hw) (fun o h1 h2 => hh o (by (try simp at h1); omega) (by (try simp at h1); omega))) (fun W hw hh => I4.out W (bTrans HB2.out hw) (fun o h1 h2 => (hh o (by (try simp at h1); omega) (by (try simp at h1); omega)).trans (HR45.out.block o h2))); with_reducible exact ⟨qq.2.1, qq.1, qq.2.2.2.1, qq.2.2.1, qq.2.2.2.2.1, qq.2.2.2.2.2.2, qq.2.2.2.2.2.1⟩)
              | (refine ⟨(w2.heap.size + 1), w2.heap.size, x4, k4, y4, l4, x5, k5, y5, l5, by with_reducible rfl, by with_reducible rfl, ?_⟩; have qq := put_rel (A := fun W => ArrI W (.agg #[.slice x4 VS.length k4, .slice y4 d.length l4]) VS d) (A' := fun W => ArrI W (.agg #[.slice x5 VT.length k5, .slice y5 e.length l5]) VT e) (w := w2) (V := w5) (q := (w2.heap.size + 1)) (p := w2.heap.size) (x := .slice x4 VS.length k4) (y := .slice y4 d.length l4) (x' := .slice x5 VT.length k5) (y' := .slice y5 e.length l5) HR5.out (by omega) (by omega) (by omega) P1.out P0.out (fun W hw hh => I4.out W (bTrans HB2.out hw) (fun o h1 h2 => (hh o (by (try simp at h1); omega) (by (try simp at h1); omega)).trans (HR45.out.block o h2))) (fun W hw hh => I5.out W (bTrans HB2.out hw) (fun o h1 h2 => hh o (by (try simp at h1); omega) (by (try simp at h1); omega))); with_reducible exact qq)
              | (refine ⟨(w2.heap.size + 1), w2.heap.size, x4, k4, y4, l4, x5, k5, y5, l5, by with_reducible rfl, by with_reducible rfl, ?_⟩; have qq := put_rel (A' := fun W => ArrI W (.agg #[.slice x4 VS.length k4, .slice y4 d.length l4]) VS d) (A := fun W => ArrI W (.agg #[.slice x5 VT.length k5, .slice y5 e.length l5]) VT e) (w := w2) (V := w5) (q := w2.heap.size) (p := (w2.heap.size + 1)) (x := .slice x5 VT.length k5) (y := .slice y5 e.length l5) (x' := .slice x4 VS.length k4) (y' := .slice y4 d.length l4) HR5.out (by omega) (by omega) (by omega) P0.out P1.out (fun W hw hh => I5.out W (bTrans HB2.out hw) (fun o h1 h2 => hh o (by (try simp at h1); omega) (by (try simp at h1); omega))) (fun W hw hh => I4.out W (bTrans HB2.out hw) (fun o h1 h2 => (hh o (by (try simp at h1); omega) (by (try simp at h1); omega)).trans (HR45.out.block o h2))); with_reducible exact ⟨qq.2.1, qq.1, qq.2.2.2.1, qq.2.2.1, qq.2.2.2.2.1, qq.2.2.2.2.2.2, qq.2.2.2.2.2.1⟩)
              | (refine ⟨w2.heap.size, w4.heap.size, x4, k4, y4, l4, x5, k5, y5, l5, by with_reducible rfl, by with_reducible rfl, ?_⟩; have qq := put_rel (A := fun W => ArrI W (.agg #[.slice x4 VS.length k4, .slice y4 d.length l4]) VS d) (A' := fun W => ArrI W (.agg #[.slice x5 VT.length k5, .slice y5 e.length l5]) VT e) (w := w2) (V := w5) (q := w2.heap.size) (p := w4.heap.size) (x := .slice x4 VS.length k4) (y := .slice y4 d.length l4) (x' := .slice x5 VT.length k5) (y' := .slice y5 e.length l5) HR5.out (by omega) (by omega) (by omega) P0.out Q0.out (fun W hw hh => I4.out W (bTrans HB2.out hw) (fun o h1 h2 => (hh o (by (try simp at h1); omega) (by (try simp at h1); omega)).trans (HR45.out.block o h2))) (fun W hw hh => I5.out W (bTrans HB2.out hw) (fun o h1 h2 => hh o (by (try simp at h1); omega) (by (try simp at h1); omega))); with_reducible exact qq)
              | (refine ⟨w2.heap.size, w4.heap.size, x4, k4, y4, l4, x5, k5, y5, l5, by with_reducible rfl, by with_reducible rfl, ?_⟩; have qq := put_rel (A' := fun W => ArrI W (.agg #[.slice x4 VS.length k4, .slice y4 d.length l4]) VS d) (A := fun W => ArrI W (.agg #[.slice x5 VT.length k5, .slice y5 e.length l5]) VT e) (w := w2) (V := w5) (q := w4.heap.size) (p := w2.heap.size) (x := .slice x5 VT.length k5) (y := .slice y5 e.length l5) (x' := .slice x4 VS.length k4) (y' := .slice y4 d.length l4) HR5.out (by omega) (by omega) (by omega) Q0.out P0.out (fun W hw hh => I5.out W (bTrans HB2.out hw) (fun o h1 h2 => hh o (by (try simp at h1); omega) (by (try simp at h1); omega))) (fun W hw hh => I4.out W (bTrans HB2.out hw) (fun o h1 h2 => (hh o (by (try simp at h1); omega) (by (try simp at h1); omega)).trans (HR45.out.block o h2))); with_reducible exact ⟨qq.2.1, qq.1, qq.2.2.2.1, qq.2.2.1, qq.2.2.2.2.1, qq.2.2.2.2.2.2, qq.2.2.2.2.2.1⟩)
              | (refine ⟨w2.heap.size, w5.heap.size, x4, k4, y4, l4, x5, k5, y5, l5, by with_reducible rfl, by with_reducible rfl, ?_⟩; obtain ⟨q1, q2, q3, q4⟩ := put_one (A := fun W => ArrI W (.agg #[.slice x4 VS.length k4, .slice y4 d.length l4]) VS d ∧ ArrI W (.agg #[.slice x5 VT.length k5, .slice y5 e.length l5]) VT e) (w := w2) (V := w5) (q := w2.heap.size) (x := .slice x4 VS.length k4) (y := .slice y4 d.length l4) (x' := .slice x5 VT.length k5) (y' := .slice y5 e.length l5) HR5.out (by omega) P0.out (fun W hw hh => ⟨I4.out W (bTrans HB2.out hw) (fun o h1 h2 => (hh o (by (try simp at h1); omega) (by omega)).trans (HR45.out.block o h2)), I5.out W (bTrans HB2.out hw) (fun o h1 h2 => hh o (by (try simp at h1); omega) h2)⟩); have q5 : w2.heap.size ≤ w2.heap.size := (by omega); have q6 : w2.heap.size ≤ w5.heap.size := (by omega); with_reducible exact ⟨q1, q2, q3.1, q3.2, q4, q5, q6⟩)
              | (refine ⟨w4.heap.size, w2.heap.size, x4, k4, y4, l4, x5, k5, y5, l5, by with_reducible rfl, by with_reducible rfl, ?_⟩; have qq := put_rel (A := fun W => ArrI W (.agg #[.slice x4 VS.length k4, .slice y4 d.length l4]) VS d) (A' := fun W => ArrI W (.agg #[.slice x5 VT.length k5, .slice y5 e.length l5]) VT e) (w := w2) (V := w5) (q := w4.heap.size) (p := w2.heap.size) (x := .slice x4 VS.length k4) (y := .slice y4 d.length l4) (x' := .slice x5 VT.length k5) (y' := .slice y5 e.length l5) HR5.out (by omega) (by omega) (by omega) Q0.out P0.out (fun W hw hh => I4.out W (bTrans HB2.out hw) (fun o h1 h2 => (hh o (by (try simp at h1); omega) (by (try simp at h1); omega)).trans (HR45.out.block o h2))) (fun W hw hh => I5.out W (bTrans HB2.out hw) (fun o h1 h2 => hh o (by (try simp at h1); omega) (by (try simp at h1); omega))); with_reducible exact qq)
              | (refine ⟨w4.heap.size, w2.heap.size, x4, k4, y4, l4, x5, k5, y5, l5, by with_reducible rfl, by with_reducible rfl, ?_⟩; have qq := put_rel (A' := fun W => ArrI W (.agg #[.slice x4 VS.length k4, .slice y4 d.length l4]) VS d) (A := fun W => ArrI W (.agg #[.slice x5 VT.length k5, .slice y5 e.length l5]) VT e) (w := w2) (V := w5) (q := w2.heap.size) (p := w4.heap.size) (x := .slice x5 VT.length k5) (y := .slice y5 e.length l5) (x' := .slice x4 VS.length k4) (y' := .slice y4 d.length l4) HR5.out (by omega) (by omega) (by omega) P0.out Q0.out (fun W hw hh => I5.out W (bTrans HB2.out hw) (fun o h1 h2 => hh o (by (try simp at h1); omega) (by (try simp at h1); omega))) (fun W hw hh => I4.out W (bTrans HB2.out hw) (fun o h1 h2 => (hh o (by (try simp at h1); omega) (by (try simp at h1); omega)).trans (HR45.out.block o h2))); with_reducible exact ⟨qq.2.1, qq.1, qq.2.2.2.1, qq.2.2.1, qq.2.2.2.2.1, qq.2.2.2.2.2.2, qq.2.2.2.2.2.1⟩)
              | (refine ⟨w4.heap.size, (w4.heap.size + 1), x4, k4, y4, l4, x5, k5, y5, l5, by with_reducible rfl, by with_reducible rfl, ?_⟩; have qq := put_rel (A := fun W => ArrI W (.agg #[.slice x4 VS.length k4, .slice y4 d.length l4]) VS d) (A' := fun W => ArrI W (.agg #[.slice x5 VT.length k5, .slice y5 e.length l5]) VT e) (w := w2) (V := w5) (q := w4.heap.size) (p := (w4.heap.size + 1)) (x := .slice x4 VS.length k4) (y := .slice y4 d.length l4) (x' := .slice x5 VT.length k5) (y' := .slice y5 e.length l5) HR5.out (by omega) (by omega) (by omega) Q0.out Q1.out (fun W hw hh => I4.out W (bTrans HB2.out hw) (fun o h1 h2 => (hh o (by (try simp at h1); omega) (by (try simp at h1); omega)).trans (HR45.out.block o h2))) (fun W hw hh => I5.out W (bTrans HB2.out hw) (fun o h1 h2 => hh o (by (try simp at h1); omega) (by (try simp at h1); omega))); with_reducible exact qq)
              | (refine ⟨w4.heap.size, (w4.heap.size + 1), x4, k4, y4, l4, x5, k5, y5, l5, by with_reducible rfl, by with_reducible rfl, ?_⟩; have qq := put_rel (A' := fun W => ArrI W (.agg #[.slice x4 VS.length k4, .slice y4 d.length l4]) VS d) (A := fun W => ArrI W (.agg #[.slice x5 VT.length k5, .slice y5 e.length l5]) VT e) (w := w2) (V := w5) (q := (w4.heap.size + 1)) (p := w4.heap.size) (x := .slice x5 VT.length k5) (y := .slice y5 e.length l5) (x' := .slice x4 VS.length k4) (y' := .slice y4 d.length l4) HR5.out (by omega) (by omega) (by omega) Q1.out Q0.out (fun W hw hh => I5.out W (bTrans HB2.out hw) (fun o h1 h2 => hh o (by (try simp at h1); omega) (by (try simp at h1); omega))) (fun W hw hh => I4.out W (bTrans HB2.out hw) (fun o h1 h2 => (hh o (by (try simp at h1); omega) (by (try simp at h1); omega)).trans (HR45.out.block o h2))); with_reducible exact ⟨qq.2.1, qq.1, qq.2.2.2.1, qq.2.2.1, qq.2.2.2.2.1, qq.2.2.2.2.2.2, qq.2.2.2.2.2.1⟩)
              | (refine ⟨(w4.heap.size + 1), w4.heap.size, x4, k4, y4, l4, x5, k5, y5, l5, by with_reducible rfl, by with_reducible rfl, ?_⟩; have qq := put_rel (A := fun W => ArrI W (.agg #[.slice x4 VS.length k4, .slice y4 d.length l4]) VS d) (A' := fun W => ArrI W (.agg #[.slice x5 VT.length k5, .slice y5 e.length l5]) VT e) (w := w2) (V := w5) (q := (w4.heap.size + 1)) (p := w4.heap.size) (x := .slice x4 VS.length k4) (y := .slice y4 d.length l4) (x' := .slice x5 VT.length k5) (y' := .slice y5 e.length l5) HR5.out (by omega) (by omega) (by omega) Q1.out Q0.out (fun W hw hh => I4.out W (bTrans HB2.out hw) (fun o h1 h2 => (hh o (by (try simp at h1); omega) (by (try simp at h1); omega)).trans (HR45.out.block o h2))) (fun W hw hh => I5.out W (bTrans HB2.out hw) (fun o h1 h2 => hh o (by (try simp at h1); omega) (by (try simp at h1); omega))); with_reducible exact qq)
              | (refine ⟨(w4.heap.size + 1), w4.heap.size, x4, k4, y4, l4, x5, k5, y5, l5, by with_reducible rfl, by with_reducible rfl, ?_⟩; have qq := put_rel (A' := fun W => ArrI W (.agg #[.slice x4 VS.length k4, .slice y4 d.length l4]) VS d) (A := fun W => ArrI W (.agg #[.slice x5 VT.length k5, .slice y5 e.length l5]) VT e) (w := w2) (V := w5) (q := w4.heap.size) (p := (w4.heap.size + 1)) (x := .slice x5 VT.length k5) (y := .slice y5 e.length l5) (x' := .slice x4 VS.length k4) (y' := .slice y4 d.length l4) HR5.out (by omega) (by omega) (by omega) Q0.out Q1.out (fun W hw hh => I5.out W (bTrans HB2.out hw) (fun o h1 h2 => hh o (by (try simp at h1); omega) (by (try simp at h1); omega))) (fun W hw hh => I4.out W (bTrans HB2.out hw) (fun o h1 h2 => (hh o (by (try simp at h1); omega) (by (try simp at h1); omega)).trans (HR45.out.block o h2))); with_reducible exact ⟨qq.2.1, qq.1, qq.2.2.2.1, qq.2.2.1, qq.2.2.2.2.1, qq.2.2.2.2.2.2, qq.2.2.2.2.2.1⟩)
              | (refine ⟨w4.heap.size, w5.heap.size, x4, k4, y4, l4, x5, k5, y5, l5, by with_reducible rfl, by with_reducible rfl, ?_⟩; obtain ⟨q1, q2, q3, q4⟩ := put_one (A := fun W => ArrI W (.agg #[.slice x4 VS.length k4, .slice y4 d.length l4]) VS d ∧ ArrI W (.agg #[.slice x5 VT.length k5, .slice y5 e.length l5]) VT e) (w := w2) (V := w5) (q := w4.heap.size) (x := .slice x4 VS.length k4) (y := .slice y4 d.length l4) (x' := .slice x5 VT.length k5) (y' := .slice y5 e.length l5) HR5.out (by omega) Q0.out (fun W hw hh => ⟨I4.out W (bTrans HB2.out hw) (fun o h1 h2 => (hh o (by (try simp at h1); omega) (by omega)).trans (HR45.out.block o h2)), I5.out W (bTrans HB2.out hw) (fun o h1 h2 => hh o (by (try simp at h1); omega) h2)⟩); have q5 : w2.heap.size ≤ w4.heap.size := (by omega); have q6 : w2.heap.size ≤ w5.heap.size := (by omega); with_reducible exact ⟨q1, q2, q3.1, q3.2, q4, q5, q6⟩)
              | (refine ⟨w5.heap.size, w2.heap.size, x4, k4, y4, l4, x5, k5, y5, l5, by with_reducible rfl, by with_reducible rfl, ?_⟩; obtain ⟨q1, q2, q3, q4⟩ := put_one (A := fun W => ArrI W (.agg #[.slice x4 VS.length k4, .slice y4 d.length l4]) VS d ∧ ArrI W (.agg #[.slice x5 VT.length k5, .slice y5 e.length l5]) VT e) (w := w2) (V := w5) (q := w2.heap.size) (x := .slice x5 VT.length k5) (y := .slice y5 e.length l5) (x' := .slice x4 VS.length k4) (y' := .slice y4 d.length l4) HR5.out (by omega) P0.out (fun W hw hh => ⟨I4.out W (bTrans HB2.out hw) (fun o h1 h2 => (hh o (by (try simp at h1); omega) (by omega)).trans (HR45.out.block o h2)), I5.out W (bTrans HB2.out hw) (fun o h1 h2 => hh o (by (try simp at h1); omega) h2)⟩); have q5 : w2.heap.size ≤ w5.heap.size := (by omega); have q6 : w2.heap.size ≤ w2.heap.size := (by omega); with_reducible exact ⟨q2, q1, q3.1, q3.2, q4, q5, q6⟩)
              | (refine ⟨w5.heap.size, w4.heap.size, x4, k4, y4, l4, x5, k5, y5, l5, by with_reducible rfl, by with_reducible rfl, ?_⟩; obtain ⟨q1, q2, q3, q4⟩ := put_one (A := fun W => ArrI W (.agg #[.slice x4 VS.length k4, .slice y4 d.length l4]) VS d ∧ ArrI W (.agg #[.slice x5 VT.length k5, .slice y5 e.length l5]) VT e) (w := w2) (V := w5) (q := w4.heap.size) (x := .slice x5 VT.length k5) (y := .slice y5 e.length l5) (x' := .slice x4 VS.length k4) (y' := .slice y4 d.length l4) HR5.out (by omega) Q0.out (fun W hw hh => ⟨I4.out W (bTrans HB2.out hw) (fun o h1 h2 => (hh o (by (try simp at h1); omega) (by omega)).trans (HR45.out.block o h2)), I5.out W (bTrans HB2.out hw) (fun o h1 h2 => hh o (by (try simp at h1); omega) h2)⟩); have q5 : w2.heap.size ≤ w5.heap.size := (by omega); have q6 : w2.heap.size ≤ w4.heap.size := (by omega); with_reducible exact ⟨q2, q1, q3.1, q3.2, q4, q5, q6⟩)
              | (refine ⟨w5.heap.size, (w5.heap.size + 1), x4, k4, y4, l4, x5, k5, y5, l5, by with_reducible rfl, by with_reducible rfl, ?_⟩; have bl : Below w2.heap.size w2 ((w5.alloc (.cells #[.slice x4 VS.length k4, .slice y4 d.length l4] 26)).alloc (.cells #[.slice x5 VT.length k5, .slice y5 e.length l5] 26)) := bAlloc (bAlloc HR5.out _) _; have bk : Below w5.heap.size w5 ((w5.alloc (.cells #[.slice x4 VS.length k4, .slice y4 d.length l4] 26)).alloc (.cells #[.slice x5 VT.length k5, .slice y5 e.length l5] 26)) := bAlloc (bAlloc (Below.refl _ _) _) _; have c7 : Box ((w5.alloc (.cells #[.slice x4 VS.length k4, .slice y4 d.length l4] 26)).alloc (.cells #[.slice x5 VT.length k5, .slice y5 e.length l5] 26)) w5.heap.size (.slice x4 VS.length k4) (.slice y4 d.length l4) 26 := heap_alloc2_old w5 (.cells #[.slice x4 VS.length k4, .slice y4 d.length l4] 26) (.cells #[.slice x5 VT.length k5, .slice y5 e.length l5] 26); have c8 : Box ((w5.alloc (.cells #[.slice x4 VS.length k4, .slice y4 d.length l4] 26)).alloc (.cells #[.slice x5 VT.length k5, .slice y5 e.length l5] 26)) (w5.heap.size + 1) (.slice x5 VT.length k5) (.slice y5 e.length l5) 26 := heap_alloc2_new w5 (.cells #[.slice x4 VS.length k4, .slice y4 d.length l4] 26) (.cells #[.slice x5 VT.length k5, .slice y5 e.length l5] 26); have c9 := I4.out ((w5.alloc (.cells #[.slice x4 VS.length k4, .slice y4 d.length l4] 26)).alloc (.cells #[.slice x5 VT.length k5, .slice y5 e.length l5] 26)) (bTrans HB2.out bl) (fun o h1 h2 => (bk.block o (by omega)).trans (HR45.out.block o h2)); have c10 := I5.out ((w5.alloc (.cells #[.slice x4 VS.length k4, .slice y4 d.length l4] 26)).alloc (.cells #[.slice x5 VT.length k5, .slice y5 e.length l5] 26)) (bTrans HB2.out bl) (fun o h1 h2 => bk.block o h2); have q5 : w2.heap.size ≤ w5.heap.size := (by omega); have q6 : w2.heap.size ≤ (w5.heap.size + 1) := (by omega); with_reducible exact ⟨c7, c8, c9, c10, bl, q5, q6⟩)
              | (refine ⟨(w5.heap.size + 1), w5.heap.size, x4, k4, y4, l4, x5, k5, y5, l5, by with_reducible rfl, by with_reducible rfl, ?_⟩; have bl : Below w2.heap.size w2 ((w5.alloc (.cells #[.slice x5 VT.length k5, .slice y5 e.length l5] 26)).alloc (.cells #[.slice x4 VS.length k4, .slice y4 d.length l4] 26)) := bAlloc (bAlloc HR5.out _) _; have bk : Below w5.heap.size w5 ((w5.alloc (.cells #[.slice x5 VT.length k5, .slice y5 e.length l5] 26)).alloc (.cells #[.slice x4 VS.length k4, .slice y4 d.length l4] 26)) := bAlloc (bAlloc (Below.refl _ _) _) _; have c7 : Box ((w5.alloc (.cells #[.slice x5 VT.length k5, .slice y5 e.length l5] 26)).alloc (.cells #[.slice x4 VS.length k4, .slice y4 d.length l4] 26)) (w5.heap.size + 1) (.slice x4 VS.length k4) (.slice y4 d.length l4) 26 := heap_alloc2_new w5 (.cells #[.slice x5 VT.length k5, .slice y5 e.length l5] 26) (.cells #[.slice x4 VS.length k4, .slice y4 d.length l4] 26); have c8 : Box ((w5.alloc (.cells #[.slice x5 VT.length k5, .slice y5 e.length l5] 26)).alloc (.cells #[.slice x4 VS.length k4, .slice y4 d.length l4] 26)) w5.heap.size (.slice x5 VT.length k5) (.slice y5 e.length l5) 26 := heap_alloc2_old w5 (.cells #[.slice x5 VT.length k5, .slice y5 e.length l5] 26) (.cells #[.slice x4 VS.length k4, .slice y4 d.length l4] 26); have c9 := I4.out ((w5.alloc (.cells #[.slice x5 VT.length k5, .slice y5 e.length l5] 26)).alloc (.cells #[.slice x4 VS.length k4, .slice y4 d.length l4] 26)) (bTrans HB2.out bl) (fun o h1 h2 => (bk.block o (by omega)).trans (HR45.out.block o h2)); have c10 := I5.out ((w5.alloc (.cells #[.slice x5 VT.length k5, .slice y5 e.length l5] 26)).alloc (.cells #[.slice x4 VS.length k4, .slice y4 d.length l4] 26)) (bTrans HB2.out bl) (fun o h1 h2 => bk.block o h2); have q5 : w2.heap.size ≤ (w5.heap.size + 1) := (by omega); have q6 : w2.heap.size ≤ w5.heap.size := (by omega); with_reducible exact ⟨c7, c8, c9, c10, bl, q5, q6⟩)
      obtain ⟨w6, hwc⟩ : ∃ x, x = wc := ⟨_, rfl⟩
      subst hwc
      obtain ⟨g7, g8, x4, k4, y4, l4, x5, k5, y5, l5, rfl, rfl, b7, b8, ia, ib, hbl, hg7, hg8⟩ := hcut
      have B7 : Hid (Box w6 g7 (.slice x4 VS.length k4) (.slice y4 d.length l4) 26) := b7
      have B8 : Hid (Box w6 g8 (.slice x5 VT.length k5) (.slice y5 e.length l5) 26) := b8
      have G7 : Hid (g7 < w.heap.size + 1 + 1 ∨ w.heap.size + 1 + 1 + 1 ≤ g7) := .inr (by have := Z2.out.lt; omega)
      have G8 : Hid (g8 < w.heap.size + 1 + 1 ∨ w.heap.size + 1 + 1 + 1 ≤ g8) := .inr (by have := Z2.out.lt; omega)
      clear hg7 hg8
      have HB6 : Hid (Below w.heap.size w w6) := bTrans HB2.out hbl
      have R6 : Hid (Box w6 (w.heap.size + 1 + 1) (.slice none 0 0) (.slice none 0 0) 26) := R2.out.keep hbl
      have Z6 : Hid (Box w6 (w.heap.size + 1 + 1 + 1) (.slice none 0 0) (.slice none 0 0) 26) := Z2.out.keep hbl
      have L6 : Hid (w.heap.size + 1 + 1 + 1 < w6.heap.size) := Z6.out.lt
      have hpS : 0 < VS.length := by rw [QS.out]; simp
      have hpT : 0 < VT.length := by rw [QT.out]; simp
      obtain ⟨_, _, _, _, ev, jS, jD, gS, gD⟩ := ia
      cases ev
      obtain ⟨_, _, _, _, ev, jT, jE, gT, gE⟩ := ib
      cases ev
      have ID : Hid (Ints w6 y4 d) := jD
      have IE : Hid (Ints w6 y5 e) := jE
      obtain ⟨ab, ao, rfl, la, ca⟩ := jS.at hpS
      obtain ⟨bb, bo, rfl, lb, cb⟩ := jT.at hpT
      rw [Nat.add_zero, show VS.getD 0 0 = m by rw [QS.out]; rfl] at ca
      rw [Nat.add_zero, show VT.getD 0 0 = n by rw [QT.out]; rfl] at cb
      have CA : Hid (w6.cell? ⟨ab, ao, none⟩ = some (.int .i64 m) ∧ ab < w6.heap.size) := ⟨ca, la⟩
      have CB : Hid (w6.cell? ⟨bb, bo, none⟩ = some (.int .i64 n) ∧ bb < w6.heap.size) := ⟨cb, lb⟩
      obtain ⟨a6, c6, hra, i6⟩ := ints_from (M := 1) jS gS (by omega)
      obtain ⟨b6, d6, hrb, k6⟩ := ints_from (M := 1) jT gT (by omega)
      rw [show VS.drop 1 = tl by rw [QS.out]; rfl] at hra i6
      rw [show VT.drop 1 = tl' by rw [QT.out]; rfl] at hrb k6
      simp only [show ((1 : Nat) : Int) = 1 from rfl] at hra hrb
      have IT : Hid (Ints w6 a6 tl) := i6
      have HEQ : Hid (∀ W, Below w6.heap.size w6 W → Calls Try.prog 24 #[.slice a6 tl.length c6, .slice b6 tl'.length d6] W fun r w' => r = .returned (.bool (decide (tl = tl'))) ∧ Below W.heap.size W w') := fun W hb => by
        refine (l2same_ints c6 d6 (by omega) (i6.keep hb) (k6.keep hb)).mono ?_
        rintro r w' ⟨rfl, j, rfl⟩
        exact ⟨rfl, bDrewN (Below.refl _ _) j⟩
      have hpSi : (0 : Int) < (VS.length : Int) := by omega
      have hpTi : (0 : Int) < (VT.length : Int) := by omega
      clear b7 b8 hbl jS jD gS gD jT jE gT gE la ca lb cb i6 k6 X2 Y2 R2 Z2 HB2 x0 x1 y0 y1 HV1 HV2
      have q0 := B7.out.c0
      have q2 := B8.out.c0
      by_cases hl : tl.length = tl'.length
      · have hVl : VS.length = VT.length := by rw [QS.out, QT.out]; simpa using hl
        have hlb : ((VS.length : Int) != (VT.length : Int)) = false := by simp [hVl]
        have HLL : Hid (tl.length = tl'.length) := hl
        clear hVl hl
        go_wp2_with fail
        go_region_held3 (fun w' => w'.cell? ⟨g7, 0, none⟩ = some (.slice (some ⟨ab, ao, none⟩) VS.length k4) ∧ w'.cell? ⟨g8, 0, none⟩ = some (.slice (some ⟨bb, bo, none⟩) VT.length k5))
          (first | with_reducible exact ⟨s0, s2⟩ | exact ⟨q0, q2⟩)
          ((go_at_call 24; refine (HEQ.out _ ((Below.refl w6.heap.size w6).drew)).mono ?_; rintro r w7 ⟨rfl, hb⟩; have HB7 : Hid (Below w6.heap.size w6 w7) := bTrans ((Below.refl w6.heap.size w6).drew) hb; have s0 := (B7.out.keep HB7.out).c0; have s2 := (B8.out.keep HB7.out).c0; clear hb))
        clear q0 q2 s0 s2 HEQ
        have R7 : Hid (Box w7 (w.heap.size + 1 + 1) (.slice none 0 0) (.slice none 0 0) 26) := R6.out.keep HB7.out
        have Z7 : Hid (Box w7 (w.heap.size + 1 + 1 + 1) (.slice none 0 0) (.slice none 0 0) 26) := Z6.out.keep HB7.out
        have BW7 : Hid (Below w.heap.size w w7) := bTrans HB6.out HB7.out
        by_cases htl : tl = tl'
        · have hdt : decide (tl = tl') = true := by simpa using htl
          rw [hdt]
          obtain ⟨SH, hSH⟩ : ∃ SH, SH = [m + n] ++ tl := ⟨_, rfl⟩
          have ES : Hid (x = (rightR SH (d ++ e)).1 ∧ S = (rightR SH (d ++ e)).2.1 ∧ D = (rightR SH (d ++ e)).2.2) := by
            show _ ∧ _ ∧ _
            rw [if_neg (show ¬ tl.length ≠ tl'.length from fun k => k HLL.out), if_neg (show ¬ tl ≠ tl' from fun k => k htl)] at hx hS hD
            have hR : rightR SH (d ++ e) = if 0 ≤ sizeV ((m + n) :: tl) then (0, (m + n) :: tl, d ++ e) else (6, [], []) := by
              rw [hSH]
              show rightR ((m + n) :: tl) (d ++ e) = _
              unfold rightR
              by_cases z : 0 ≤ sizeV ((m + n) :: tl)
              · rw [if_pos z, if_pos (join_right r1 (by rw [htl]; exact r2) z), mkR_good]
              · rw [if_neg z, if_neg (show ¬ (arrOk ((m + n) :: tl) (d ++ e) = true) from fun k => z (arrOk_shape k)), mkR_bad (by decide)]
            rw [hR]
            exact ⟨hx, hS, hD⟩
          have LDE : Hid ((d ++ e).length ≤ 1048576) := by show _ ≤ _; rw [List.length_append]; omega
          have hwr : IntKind.i64.wrap (m + n) = m + n := wrapI (by omega) (by omega)
          have D7 : Hid (Box w7 g7 (.slice (some ⟨ab, ao, none⟩) VS.length k4) (.slice y4 d.length l4) 26) := B7.out.keep HB7.out
          have D8 : Hid (Box w7 g8 (.slice (some ⟨bb, bo, none⟩) VT.length k5) (.slice y5 e.length l5) 26) := B8.out.keep HB7.out
          have N8 : NewInts w7.heap.size (w7.drew.alloc (.cells #[.int .i64 (m + n)] 3)) (.slice (some ⟨w7.heap.size, 0, none⟩) 1 1) [m + n] := newInts_alloc w7.drew [m + n] (Nat.le_refl _) (by simp)
          obtain ⟨a8, c8, w8, r8, n8, h8⟩ := growL N8 (IT.out.keep (bTrans HB7.out (bAlloc ((Below.refl w7.heap.size w7).drew) _))) (by simp) (by simp; omega) c6
          rw [← hSH] at r8 n8
          have R8 : Hid (_ = _) := r8
          have NS8 : Hid (NewInts w7.heap.size w8 (.slice a8 SH.length c8) SH) := n8
          have HB8 : Hid (Below w7.heap.size w7 w8) := (bAlloc ((Below.refl w7.heap.size w7).drew) _).trans h8
          have c1' := (HB7.out.cell (p := ⟨ab, ao, none⟩) CA.out.2).trans CA.out.1
          have c2' := (HB7.out.cell (p := ⟨bb, bo, none⟩) CB.out.2).trans CB.out.1
          have LA7 : Hid (ab < w7.heap.size ∧ bb < w7.heap.size) := ⟨Nat.lt_of_lt_of_le CA.out.2 HB7.out.size, Nat.lt_of_lt_of_le CB.out.2 HB7.out.size⟩
          have q0 := D7.out.c0
          have q2 := D8.out.c0
          have t0 := (D7.out.keep HB8.out).c0
          have t2 := (D8.out.keep HB8.out).c0
          have t4 := (HB8.out.cell (p := ⟨ab, ao, none⟩) LA7.out.1).trans c1'
          have t5 := (HB8.out.cell (p := ⟨bb, bo, none⟩) LA7.out.2).trans c2'
          have nw0 := World.new_ne w7 ⟨g7, 0, none⟩ q0
          have nw2 := World.new_ne w7 ⟨g8, 0, none⟩ q2
          have nw4 := World.new_ne w7 ⟨ab, ao, none⟩ c1'
          have nw5 := World.new_ne w7 ⟨bb, bo, none⟩ c2'
          clear N8 r8 n8 h8 hdt htl hx hS hD hSH
          go_wp2_with fail
          go_region_held3 (fun w' => w'.cell? ⟨g7, 0, none⟩ = some (.slice (some ⟨ab, ao, none⟩) VS.length k4) ∧ w'.cell? ⟨g8, 0, none⟩ = some (.slice (some ⟨bb, bo, none⟩) VT.length k5) ∧ w'.cell? ⟨ab, ao, none⟩ = some (.int .i64 m) ∧ w'.cell? ⟨bb, bo, none⟩ = some (.int .i64 n))
            (first | with_reducible exact ⟨t0, t2, t4, t5⟩ | with_reducible exact ⟨q0, q2, c1', c2'⟩ | go_keep)
            (refine step_append_ty (by rfl) (.tmp 52) (.tmp 55) 24 24 (by rfl) _ _ _ (by rfl) (by rfl) R8.out ?_)
          clear q0 q2 t0 t2 t4 t5 nw0 nw2 nw4 nw5 c1' c2' R8 hra hrb
          have D7' : Hid (Box w8 g7 (.slice (some ⟨ab, ao, none⟩) VS.length k4) (.slice y4 d.length l4) 26) := D7.out.keep HB8.out
          have D8' : Hid (Box w8 g8 (.slice (some ⟨bb, bo, none⟩) VT.length k5) (.slice y5 e.length l5) 26) := D8.out.keep HB8.out
          have R8' : Hid (Box w8 (w.heap.size + 1 + 1) (.slice none 0 0) (.slice none 0 0) 26) := R7.out.keep HB8.out
          have BW8 : Hid (Below w6.heap.size w6 w8) := bTrans HB7.out HB8.out
          obtain ⟨ta, tc, v1, ua, uc, v2, e1, e2, u1, u2, u3, u4⟩ := two_appends (V := w8.drew) ((ID.out.keep BW8.out).keep ((Below.refl _ _).drew)) ((IE.out.keep BW8.out).keep ((Below.refl _ _).drew)) (by have := LDE.out; rw [List.length_append] at this; exact this) l4 l5
          have A1 : Hid (_ = _) := e1
          have A2 : Hid (_ = _) := e2
          have V1 : Hid (Below w8.heap.size w8 v1) := bTrans ((Below.refl w8.heap.size w8).drew) u1
          have V2 : Hid (Below w8.heap.size w8 v2) := bTrans ((Below.refl w8.heap.size w8).drew) u2
          have AR : Hid (Arr w7.heap.size v2.heap.size v2 (.agg #[.slice a8 SH.length c8, .slice ua (d ++ e).length uc]) SH (d ++ e)) := by
            have p1 := NS8.out.piece.keep V2.out
            have p2 : Piece w8.heap.size v2.heap.size v2 (.slice ua (d ++ e).length uc) (d ++ e) := NewInts.piece (B := w8.drew.heap.size) u4
            exact ⟨_, _, rfl, p1.mono (Nat.le_refl _) V2.out.size, p2.mono HB8.out.size (Nat.le_refl _), p1.apart p2 (.inl (Nat.le_refl _))⟩
          have HRT : Hid (Calls Try.prog 25 #[.agg #[.slice a8 SH.length c8, .slice ua (d.length + e.length) uc]] v2 fun r w' => ∃ v', r = .returned (.tuple #[v', .int .i64 x]) ∧ Arr w7.heap.size v2.heap.size w' v' S D ∧ Below v2.heap.size v2 w') := by
            have q := right5_spec AR.out (Nat.le_refl _) LDE.out
            rw [← ES.out.1, ← ES.out.2.1, ← ES.out.2.2, List.length_append] at q
            exact q
          clear e1 e2 u1 u2 u3 u4
          have q1 := D7'.out.c1
          have q3 := D8'.out.c1
          have t1 := (D7'.out.keep V1.out).c1
          have t3 := (D8'.out.keep V1.out).c1
          have o1 := (D7'.out.keep V2.out).c1
          have o3 := (D8'.out.keep V2.out).c1
          have nw1 := World.new_ne w8 ⟨g7, 1, none⟩ q1
          have nw3 := World.new_ne w8 ⟨g8, 1, none⟩ q3
          go_wp2_with fail
          go_region_held3 (fun w' => w'.cell? ⟨g7, 1, none⟩ = some (.slice y4 d.length l4) ∧ w'.cell? ⟨g8, 1, none⟩ = some (.slice y5 e.length l5))
            (first | with_reducible exact ⟨n1', n3'⟩ | with_reducible exact ⟨o1, o3⟩ | with_reducible exact ⟨t1, t3⟩ | with_reducible exact ⟨q1, q3⟩ | with_reducible exact ⟨j1, j3⟩ | go_keep)
            (first
              | refine step_append_ty (by rfl) (.tmp 58) (.tmp 60) 24 24 (by rfl) _ _ _ (by rfl) (by rfl) A1.out ?_
              | refine step_append_ty (by rfl) (.tmp 61) (.tmp 63) 24 24 (by rfl) _ _ _ (by rfl) (by rfl) A2.out ?_
              | (go_at_call 25; refine (HRT.out).mono ?_; rintro r w11 ⟨v11, rfl, ha, hb⟩; obtain ⟨a11, c11, b11, f11, rfl, _, _, _, _⟩ := ha.arrI; have HA : Hid (Arr w7.heap.size v2.heap.size w11 (.agg #[.slice a11 S.length c11, .slice b11 D.length f11]) S D) := ha; have V11 : Hid (Below v2.heap.size v2 w11) := hb; have n1' := ((D7'.out.keep V2.out).keep hb).c1; have n3' := ((D8'.out.keep V2.out).keep hb).c1; have RR : Hid (Box w11 (w.heap.size + 1 + 1) (.slice none 0 0) (.slice none 0 0) 26) := (R8'.out.keep V2.out).keep hb; have r0 := RR.out.c0; have r1' := RR.out.c1; have f0 : w11.frozen? ⟨w.heap.size + 1 + 1, 0, none⟩ = false := free_at RR.out 0; have f1 : w11.frozen? ⟨w.heap.size + 1 + 1, 1, none⟩ = false := free_at RR.out 1; have RW : Hid (Win (w.heap.size + 1 + 1) (w.heap.size + 1 + 1 + 1) w11 ((w11.setCell ⟨w.heap.size + 1 + 1, 0, none⟩ (.slice a11 S.length c11)).setCell ⟨w.heap.size + 1 + 1, 1, none⟩ (.slice b11 D.length f11))) := (win_setCell _ _ _ _).trans (win_setCell _ _ _ _); have j1 := (Box.win ((D7'.out.keep V2.out).keep hb) RW.out G7.out).c1; have j3 := (Box.win ((D8'.out.keep V2.out).keep hb) RW.out G8.out).c1; clear ha hb))
          have HR : Hid (((w11.setCell ⟨w.heap.size + 1 + 1, 0, none⟩ (.slice a11 S.length c11)).setCell ⟨w.heap.size + 1 + 1, 1, none⟩ (.slice b11 D.length f11)).heap[w.heap.size + 1 + 1]? = some (.cells #[.slice a11 S.length c11, .slice b11 D.length f11] 26 (0, 0))) := arr_stored RR.out
          go_wp2
          refine bodyPost_ret (results_arr_tmp Try.results7 _ _ (w.heap.size + 1 + 1) _ _ rfl HR.out) rfl ?_
          refine ⟨_, rfl, ?_, below_setCell (below_setCell (bTrans (bTrans BW7.out HB8.out) (bTrans V2.out V11.out)) (by omega) _ _) (by omega) _ _⟩
          have L := L6.out
          have L7 := HB7.out.size
          have L11 := V11.out.size
          exact ((HA.out.setCell (by omega) _ _).setCell (by omega) _ _).mono (by omega) (by simp only [size_setCell]; omega)
        · have hdt : decide (tl = tl') = false := by simpa using htl
          rw [hdt]
          rw [if_neg (show ¬ tl.length ≠ tl'.length from fun k => k HLL.out), if_pos htl] at hx hS hD
          subst hx hS hD
          clear hdt htl
          have r0 := R7.out.c0
          have r1 := R7.out.c1
          have f0 : w7.frozen? ⟨w.heap.size + 1 + 1, 0, none⟩ = false := free_at R7.out 0
          have f1 : w7.frozen? ⟨w.heap.size + 1 + 1, 1, none⟩ = false := free_at R7.out 1
          have z0 := Z7.out.c0
          have z1 := Z7.out.c1
          have HR : Hid (((w7.setCell ⟨w.heap.size + 1 + 1, 0, none⟩ (.slice none 0 0)).setCell ⟨w.heap.size + 1 + 1, 1, none⟩ (.slice none 0 0)).heap[w.heap.size + 1 + 1]? = some (.cells #[.slice none 0 0, .slice none 0 0] 26 (0, 0))) := arr_stored R7.out
          go_wp2
          refine bodyPost_ret (results_arr_tmp Try.results7 _ _ (w.heap.size + 1 + 1) _ _ rfl HR.out) rfl ?_
          exact ⟨_, rfl, arr_zero _ _ _, below_setCell (below_setCell BW7.out (by omega) _ _) (by omega) _ _⟩
      · have hVl : VS.length ≠ VT.length := by rw [QS.out, QT.out]; simpa using hl
        have hlb : ((VS.length : Int) != (VT.length : Int)) = true := by simp; omega
        rw [if_pos hl] at hx hS hD
        subst hx hS hD
        clear hVl hl
        have r0 := R6.out.c0
        have r1 := R6.out.c1
        have f0 : w6.frozen? ⟨w.heap.size + 1 + 1, 0, none⟩ = false := free_at R6.out 0
        have f1 : w6.frozen? ⟨w.heap.size + 1 + 1, 1, none⟩ = false := free_at R6.out 1
        have z0 := Z6.out.c0
        have z1 := Z6.out.c1
        have HR : Hid (((w6.setCell ⟨w.heap.size + 1 + 1, 0, none⟩ (.slice none 0 0)).setCell ⟨w.heap.size + 1 + 1, 1, none⟩ (.slice none 0 0)).heap[w.heap.size + 1 + 1]? = some (.cells #[.slice none 0 0, .slice none 0 0] 26 (0, 0))) := arr_stored R6.out
        go_wp2
        refine bodyPost_ret (results_arr_tmp Try.results7 _ _ (w.heap.size + 1 + 1) _ _ rfl HR.out) rfl ?_
        exact ⟨_, rfl, arr_zero _ _ _, below_setCell (below_setCell HB6.out (by omega) _ _) (by omega) _ _⟩
    · have HO' : Hid (arrOk t e = false) := by show _ = _; simpa using ho'
      have ER : joinR s d t e = (1, [], []) := joinR_bad (fun k => ho' k.2)
      rw [ER]
      clear ER ho ho'
      go_enter Try.func7, Try.ntmps7
      go_wp2_with fail
      refine (arrOk_spec (H.out.keep (bAlloc (bAlloc (bAlloc (bAlloc (Below.refl _ _) _) _) _) _)) HD.out).mono ?_
      rintro r w1 ⟨rfl, hb⟩
      have HB1 : Hid (Below w.heap.size w w1) := bTrans (bAlloc (bAlloc (bAlloc (bAlloc (Below.refl _ _) _) _) _) _) hb
      have q1 := blocks4 w (.cells #[.slice a s.length c, .slice b d.length f] 26) (.cells #[.slice a' t.length c', .slice b' e.length f'] 26) (.cells #[.slice none 0 0, .slice none 0 0] 26) (.cells #[.slice none 0 0, .slice none 0 0] 26)
      have X1 : Hid (Box w1 w.heap.size (.slice a s.length c) (.slice b d.length f) 26) := Box.keep q1.1 hb
      have Y1 : Hid (Box w1 (w.heap.size + 1) (.slice a' t.length c') (.slice b' e.length f') 26) := Box.keep q1.2.1 hb
      have R1 : Hid (Box w1 (w.heap.size + 1 + 1) (.slice none 0 0) (.slice none 0 0) 26) := Box.keep q1.2.2.1 hb
      have Z1 : Hid (Box w1 (w.heap.size + 1 + 1 + 1) (.slice none 0 0) (.slice none 0 0) 26) := Box.keep q1.2.2.2 hb
      clear hb q1
      rw [HO.out]
      have x0 := X1.out.c0
      have x1 := X1.out.c1
      have y0 := Y1.out.c0
      have y1 := Y1.out.c1
      have r0 := R1.out.c0
      have r1 := R1.out.c1
      have f0 : w1.frozen? ⟨w.heap.size + 1 + 1, 0, none⟩ = false := free_at R1.out 0
      have f1 : w1.frozen? ⟨w.heap.size + 1 + 1, 1, none⟩ = false := free_at R1.out 1
      have z0 := Z1.out.c0
      have z1 := Z1.out.c1
      go_wp2_with fail
      refine (arrOk_spec (K.out.keep HB1.out) HE.out).mono ?_
      rintro r w2 ⟨rfl, hb⟩
      have HB2 : Hid (Below w.heap.size w w2) := bTrans HB1.out hb
      have X2 : Hid (Box w2 w.heap.size (.slice a s.length c) (.slice b d.length f) 26) := X1.out.keep hb
      have Y2 : Hid (Box w2 (w.heap.size + 1) (.slice a' t.length c') (.slice b' e.length f') 26) := Y1.out.keep hb
      have R2 : Hid (Box w2 (w.heap.size + 1 + 1) (.slice none 0 0) (.slice none 0 0) 26) := R1.out.keep hb
      have Z2 : Hid (Box w2 (w.heap.size + 1 + 1 + 1) (.slice none 0 0) (.slice none 0 0) 26) := Z1.out.keep hb
      rw [HO'.out]
      clear hb x0 x1 y0 y1 r0 r1 z0 z1 f0 f1 X1 Y1 R1 Z1 HB1
      have r0 := R2.out.c0
      have r1 := R2.out.c1
      have f0 : w2.frozen? ⟨w.heap.size + 1 + 1, 0, none⟩ = false := free_at R2.out 0
      have f1 : w2.frozen? ⟨w.heap.size + 1 + 1, 1, none⟩ = false := free_at R2.out 1
      have z0 := Z2.out.c0
      have z1 := Z2.out.c1
      have HR : Hid (((w2.setCell ⟨w.heap.size + 1 + 1, 0, none⟩ (.slice none 0 0)).setCell ⟨w.heap.size + 1 + 1, 1, none⟩ (.slice none 0 0)).heap[w.heap.size + 1 + 1]? = some (.cells #[.slice none 0 0, .slice none 0 0] 26 (0, 0))) := arr_stored R2.out
      go_wp2
      refine bodyPost_ret (results_arr_tmp Try.results7 _ _ (w.heap.size + 1 + 1) _ _ rfl HR.out) rfl ?_
      exact ⟨_, rfl, arr_zero _ _ _, below_setCell (below_setCell HB2.out (by omega) _ _) (by omega) _ _⟩
  · have HO : Hid (arrOk s d = false) := by show _ = _; simpa using ho
    have ER : joinR s d t e = (1, [], []) := joinR_bad (fun k => ho k.1)
    rw [ER]
    clear ER ho
    go_enter Try.func7, Try.ntmps7
    go_wp2_with fail
    refine (arrOk_spec (H.out.keep (bAlloc (bAlloc (bAlloc (bAlloc (Below.refl _ _) _) _) _) _)) HD.out).mono ?_
    rintro r w1 ⟨rfl, hb⟩
    have HB1 : Hid (Below w.heap.size w w1) := bTrans (bAlloc (bAlloc (bAlloc (bAlloc (Below.refl _ _) _) _) _) _) hb
    have q1 := blocks4 w (.cells #[.slice a s.length c, .slice b d.length f] 26) (.cells #[.slice a' t.length c', .slice b' e.length f'] 26) (.cells #[.slice none 0 0, .slice none 0 0] 26) (.cells #[.slice none 0 0, .slice none 0 0] 26)
    have X1 : Hid (Box w1 w.heap.size (.slice a s.length c) (.slice b d.length f) 26) := Box.keep q1.1 hb
    have Y1 : Hid (Box w1 (w.heap.size + 1) (.slice a' t.length c') (.slice b' e.length f') 26) := Box.keep q1.2.1 hb
    have R1 : Hid (Box w1 (w.heap.size + 1 + 1) (.slice none 0 0) (.slice none 0 0) 26) := Box.keep q1.2.2.1 hb
    have Z1 : Hid (Box w1 (w.heap.size + 1 + 1 + 1) (.slice none 0 0) (.slice none 0 0) 26) := Box.keep q1.2.2.2 hb
    clear hb q1
    rw [HO.out]
    have x0 := X1.out.c0
    have x1 := X1.out.c1
    have y0 := Y1.out.c0
    have y1 := Y1.out.c1
    have r0 := R1.out.c0
    have r1 := R1.out.c1
    have f0 : w1.frozen? ⟨w.heap.size + 1 + 1, 0, none⟩ = false := free_at R1.out 0
    have f1 : w1.frozen? ⟨w.heap.size + 1 + 1, 1, none⟩ = false := free_at R1.out 1
    have z0 := Z1.out.c0
    have z1 := Z1.out.c1
    clear x0 x1 y0 y1 r0 r1 z0 z1 f0 f1
    have r0 := R1.out.c0
    have r1 := R1.out.c1
    have f0 : w1.frozen? ⟨w.heap.size + 1 + 1, 0, none⟩ = false := free_at R1.out 0
    have f1 : w1.frozen? ⟨w.heap.size + 1 + 1, 1, none⟩ = false := free_at R1.out 1
    have z0 := Z1.out.c0
    have z1 := Z1.out.c1
    have HR : Hid (((w1.setCell ⟨w.heap.size + 1 + 1, 0, none⟩ (.slice none 0 0)).setCell ⟨w.heap.size + 1 + 1, 1, none⟩ (.slice none 0 0)).heap[w.heap.size + 1 + 1]? = some (.cells #[.slice none 0 0, .slice none 0 0] 26 (0, 0))) := arr_stored R1.out
    go_wp2
    refine bodyPost_ret (results_arr_tmp Try.results7 _ _ (w.heap.size + 1 + 1) _ _ rfl HR.out) rfl ?_
    exact ⟨_, rfl, arr_zero _ _ _, below_setCell (below_setCell HB1.out (by omega) _ _) (by omega) _ _⟩
end Go.Proofs.Ytdobohobhpailaa
namespace Go.Proofs.Ytdobohobhpailaa
open Go.RowKit
set_option linter.unusedVariables false
set_option linter.unusedSimpArgs false
theorem run_between {a : Option Addr} {n c M N : Nat} (hM : M ≤ N) (hc : N ≤ c) (W : World) : (Instr.slice 24 (.slice a n c) (some (.int .i64 (M : Int))) (some (.int .i64 (N : Int))) none).run Try.prog W = .ok (.slice (if c - M = 0 then a else a.map (·.add (M * 1))) (N - M) (c - M)) W := by
  have hs : (sizeOf 3).run Try.prog W = .ok 1 W := by kernel_rfl
  have he : Try.prog.elem 24 = 3 := by kernel_rfl
  rw [run_slice_lh (P := Try.prog) (w := W) 24 a n c (by rw [he]; exact Try.underlying24) .i64 .i64 (M : Int) (N : Int) (by omega) (by omega) (by omega), he, hs]
  have e : (c = M) = (c - M = 0) := by apply propext; omega
  simp [Result.andThen, sliced, e]
theorem ints_cell5 {w : World} {b o : Nat} {l : List Int} {k : Nat} (h : Ints w (some ⟨b, o, none⟩) l) (hk : k < l.length) : w.cell? ⟨b, o + k, none⟩ = some (.int .i64 (l.getD k 0)) := by
  obtain ⟨b', o', e, hb, hc⟩ := h.at hk
  cases e
  exact hc
theorem ints_from5 {w : World} {b : Option Addr} {d : List Int} {e : Nat} (C : Nat) (h : Ints w b d) (he : d.length ≤ e) : Ints w (if e - C = 0 then b else b.map (·.add (C * 1))) (d.drop C) := by
  by_cases h0 : d.length ≤ C
  · exact .inl (List.drop_of_length_le h0)
  · rw [if_neg (by omega)]
    obtain ⟨b', o', rfl, _, _⟩ := h.at (k := 0) (by omega)
    have := ints_tail C h
    by_cases hC0 : C = 0 <;> simpa [Addr.add, hC0] using this
theorem OwnInts.keep5 {w w' : World} {g : Nat} {l : List Int} (h : OwnInts w g l) (hb : Below w.heap.size w w') : OwnInts w' g l := by
  unfold OwnInts
  rw [hb.block _ (lt_of_heapA h)]
  exact h
theorem measure5 {k n : Nat} (h : wrap64 ((k : Int) + 1) = (k : Int) + 1) (hk : k < n) : n - (wrap64 ((k : Int) + 1)).toNat < n - ((k : Int)).toNat := by
  rw [h]; omega
theorem wrap5 {a : Int} (h1 : -1000000000000000 ≤ a) (h2 : a ≤ 1000000000000000) : wrap64 a = a := by unfold wrap64; omega
/-- A row is copied to its place. -/
theorem copy_row5 {w : World} {g m A B C L e : Nat} {l d : List Int} {b : Option Addr} (ho : OwnInts w g l) (hl : l.length = m) (hi : Ints w b d) (he : d.length ≤ e) (hA : A + L = B) (hB : B ≤ m) (hC : C + L ≤ d.length) (ty : TypeId) :
    (Builtin.copy_ #[24, 24] ty #[.slice (if m - A = 0 then some ⟨g, 0, none⟩ else (some (⟨g, 0, none⟩ : Addr)).map (·.add (A * 1))) (B - A) (m - A), .slice (if e - C = 0 then b else b.map (·.add (C * 1))) (d.length - C) (e - C)]).run Try.prog w = .ok (.int .i64 (L : Int)) (w.setRow g (vals (paste l A (d.drop C) L))) := by
  have hi' := ints_from5 (e := e) C hi he
  have hL : B - A = L := by omega
  have hd : (d.drop C).length = d.length - C := by simp
  rw [hL]
  by_cases h0 : m - A = 0
  · obtain rfl : L = 0 := by omega
    rw [if_pos h0, paste_zero, setRow_self w g (vals l) _ _ ho]
    exact run_copy_none (P := Try.prog) _ 24 24 ty 3 _ _ _ _ _ _ Try.underlying24 int_size (Nat.min_zero _)
  · rw [if_neg h0]
    have q := copy_paste (k := A) (n := L) (l := l) ho hi' (by rw [hd]; omega) ty (m - A) (e - C)
    rw [hd, Nat.min_eq_right (by omega)] at q
    have e1 : (some (⟨g, 0, none⟩ : Addr)).map (·.add (A * 1)) = some ⟨g, A, none⟩ := by
      by_cases hA0 : A = 0 <;> simp [Addr.add, hA0]
    rw [e1]
    exact q
end Go.Proofs.Ytdobohobhpailaa
namespace Go.Proofs.Ytdobohobhpailaa
open Go.RowKit
set_option linter.unusedVariables false
set_option linter.unusedSimpArgs false
theorem cell_keep6 {w w' : World} {o : Nat} {x : Value} (h : w.cell? ⟨o, 0, none⟩ = some x) (ho : o < w.heap.size) (hb : Below w.heap.size w w') : w'.cell? ⟨o, 0, none⟩ = some x := by rw [hb.cell (p := ⟨o, 0, none⟩) ho]; exact h
theorem three5 (w : World) (A B C : Obj) :
    (((w.alloc A).alloc B).alloc C).heap[w.heap.size]? = some A ∧ (((w.alloc A).alloc B).alloc C).heap[w.heap.size + 1]? = some B ∧ (((w.alloc A).alloc B).alloc C).heap[w.heap.size + 1 + 1]? = some C := by
  have e1 := heap_alloc_new w A
  have e2 := heap_alloc_new (w.alloc A) B
  have e3 := heap_alloc_new ((w.alloc A).alloc B) C
  simp only [World.size_alloc] at e2 e3
  refine ⟨?_, ?_, e3⟩
  · rw [heap_alloc_old _ _ (by simp only [World.size_alloc]; omega), heap_alloc_old _ _ (by simp only [World.size_alloc]; omega)]; exact e1
  · rw [heap_alloc_old _ _ (by simp only [World.size_alloc]; omega)]; exact e2
end Go.Proofs.Ytdobohobhpailaa
namespace Go.Proofs.Ytdobohobhpailaa
open Go.RowKit
set_option linter.unusedVariables false
set_option linter.unusedSimpArgs false
set_option maxRecDepth 20000 in
set_option maxHeartbeats 2000000 in
theorem withRows3_impl {G : World → Prop} {t e : List Int} {w : World} {a b : Option Addr} {c f : Nat} (hG : ∀ W, G W → IntsI W (.slice a t.length c) t) :
    Calls Try.prog 19 #[.agg #[.slice a t.length c, .slice b e.length f]] w fun r w' => ∃ a2 c2, r = .returned (.agg #[.slice a2 (rowsS t).length c2, .slice b e.length f]) ∧ (∀ W : World, G W → (∀ o, w.heap.size ≤ o → o < w'.heap.size → W.heap[o]? = w'.heap[o]?) → w'.heap.size ≤ W.heap.size → IntsI W (.slice a2 (rowsS t).length c2) (rowsS t)) ∧ Below w.heap.size w w' := by
  by_cases h0 : t = []
  · have HS : Hid (rowsS t = [1]) := by show _ = _; unfold rowsS; rw [if_pos h0]
    subst h0
    rw [HS.out]
    simp only [List.length_nil, List.length_cons, Nat.zero_add]
    clear hG
    go_enter Try.func19, Try.ntmps19
    go_wp2
    refine bodyPost_ret (v := .agg #[.slice (some ⟨w.heap.size + 1 + 1, 0, none⟩) 1 1, .slice b e.length f]) (results_arr rfl _ _ (w.heap.size + 1) _ _ rfl ?_) rfl ?_
    · exact (box_new2 w _ _ _ _).keep (bAlloc (Below.refl _ _) _)
    · refine ⟨_, 1, rfl, fun W _ hW hs => ?_, bAlloc (bAlloc (bAlloc (Below.refl _ _) _) _) _⟩
      have q := (three5 w (.cells #[.slice a 0 c, .slice b e.length f] 26) (.cells #[.slice (some ⟨w.heap.size + 1 + 1, 0, none⟩) 1 1, .slice b e.length f] 26) (.cells #[.int .i64 1] 3)).2.2
      have k := hW (w.heap.size + 1 + 1) (by omega) (lt_of_heapA q)
      rw [q] at k
      refine ⟨_, 1, rfl, by simp, .inr ⟨w.heap.size + 1 + 1, 0, rfl, lt_of_heapA k, fun j hj => ?_⟩⟩
      have : j = 0 := by simp at hj; omega
      subst this
      exact cell_at k rfl
  · have HS : Hid (rowsS t = t) := by show _ = _; unfold rowsS; rw [if_neg h0]
    have hne : ((t.length : Int) == 0) = false := by simp; exact h0
    have HG : Hid (∀ W, G W → IntsI W (.slice a t.length c) t) := hG
    rw [HS.out]
    clear h0 HS hG
    generalize t.length = n at *
    go_enter Try.func19, Try.ntmps19
    go_wp2
    refine bodyPost_ret (v := .agg #[.slice a n c, .slice b e.length f]) (results_arr rfl _ _ (w.heap.size + 1) _ _ rfl ?_) rfl ?_
    · exact box_new2 w _ _ _ _
    · exact ⟨a, c, rfl, fun W h _ _ => HG.out W h, bAlloc (bAlloc (Below.refl _ _) _) _⟩
end Go.Proofs.Ytdobohobhpailaa
namespace Go.Proofs.Ytdobohobhpailaa
open Go.RowKit
set_option linter.unusedVariables false
set_option linter.unusedSimpArgs false
/-- What 'a, b = withRows(a), withRows(b)' leaves. -/
structure JoinSt (w W : World) (x y x' y' : Value) : Prop where
  a : Box W w.heap.size x y 26
  b : Box W (w.heap.size + 1) x' y' 26
  r : Box W (w.heap.size + 1 + 1) (.slice none 0 0) (.slice none 0 0) 26
  bl : Below w.heap.size w W
theorem join_st {w w1 w2 w3 : World} {x y x' y' p q p' q' : Value} {RS RT : List Int} {G : World → Prop} (hG : ∀ W, Below w.heap.size w W → G W)
    (A : Box w1 w.heap.size x y 26) (B : Box w1 (w.heap.size + 1) x' y' 26) (R : Box w1 (w.heap.size + 1 + 1) (.slice none 0 0) (.slice none 0 0) 26) (h1 : Below w.heap.size w w1)
    (b2 : Below w1.heap.size w1 w2) (b3 : Below w2.heap.size w2 w3)
    (i2 : ∀ W : World, G W → (∀ o, w1.heap.size ≤ o → o < w2.heap.size → W.heap[o]? = w2.heap[o]?) → w2.heap.size ≤ W.heap.size → IntsI W p RS)
    (i3 : ∀ W : World, G W → (∀ o, w2.heap.size ≤ o → o < w3.heap.size → W.heap[o]? = w3.heap[o]?) → w3.heap.size ≤ W.heap.size → IntsI W p' RT) :
    JoinSt w ((((w3.setCell ⟨w.heap.size, 0, none⟩ p).setCell ⟨w.heap.size, 1, none⟩ q).setCell ⟨w.heap.size + 1, 0, none⟩ p').setCell ⟨w.heap.size + 1, 1, none⟩ q') p q p' q' ∧
    IntsI ((((w3.setCell ⟨w.heap.size, 0, none⟩ p).setCell ⟨w.heap.size, 1, none⟩ q).setCell ⟨w.heap.size + 1, 0, none⟩ p').setCell ⟨w.heap.size + 1, 1, none⟩ q') p RS ∧
    IntsI ((((w3.setCell ⟨w.heap.size, 0, none⟩ p).setCell ⟨w.heap.size, 1, none⟩ q).setCell ⟨w.heap.size + 1, 0, none⟩ p').setCell ⟨w.heap.size + 1, 1, none⟩ q') p' RT ∧
    w1.heap.size ≤ ((((w3.setCell ⟨w.heap.size, 0, none⟩ p).setCell ⟨w.heap.size, 1, none⟩ q).setCell ⟨w.heap.size + 1, 0, none⟩ p').setCell ⟨w.heap.size + 1, 1, none⟩ q').heap.size := by
  have L := R.lt
  have s2 := b2.size
  have s3 := b3.size
  have A3 := (A.keep b2).keep b3
  have B3 := (B.keep b2).keep b3
  have R3 := (R.keep b2).keep b3
  have bl3 : Below w.heap.size w w3 := bTrans (bTrans h1 b2) b3
  have bl : Below w.heap.size w ((((w3.setCell ⟨w.heap.size, 0, none⟩ p).setCell ⟨w.heap.size, 1, none⟩ q).setCell ⟨w.heap.size + 1, 0, none⟩ p').setCell ⟨w.heap.size + 1, 1, none⟩ q') := below_setCell (below_setCell (below_setCell (below_setCell bl3 (Nat.le_refl _) _ _) (Nat.le_refl _) _ _) (by omega) _ _) (by omega) _ _
  have sz : ((((w3.setCell ⟨w.heap.size, 0, none⟩ p).setCell ⟨w.heap.size, 1, none⟩ q).setCell ⟨w.heap.size + 1, 0, none⟩ p').setCell ⟨w.heap.size + 1, 1, none⟩ q').heap.size = w3.heap.size := by simp only [size_setCell]
  have hh : ∀ o, w1.heap.size ≤ o → ((((w3.setCell ⟨w.heap.size, 0, none⟩ p).setCell ⟨w.heap.size, 1, none⟩ q).setCell ⟨w.heap.size + 1, 0, none⟩ p').setCell ⟨w.heap.size + 1, 1, none⟩ q').heap[o]? = w3.heap[o]? := fun o ho => by
    rw [heap_setCell_other _ _ _ _ (by show o ≠ w.heap.size + 1; omega), heap_setCell_other _ _ _ _ (by show o ≠ w.heap.size + 1; omega), heap_setCell_other _ _ _ _ (by show o ≠ w.heap.size; omega), heap_setCell_other _ _ _ _ (by show o ≠ w.heap.size; omega)]
  refine ⟨⟨?_, ?_, ?_, bl⟩, ?_, ?_, by rw [sz]; omega⟩
  · have A4 : Box ((w3.setCell ⟨w.heap.size, 0, none⟩ p).setCell ⟨w.heap.size, 1, none⟩ q) w.heap.size p q 26 := arr_stored A3
    exact (A4.win (win_setCell _ _ _ _) (.inl (Nat.lt_succ_self _))).win (win_setCell _ _ _ _) (.inl (Nat.lt_succ_self _))
  · have B4 : Box ((w3.setCell ⟨w.heap.size, 0, none⟩ p).setCell ⟨w.heap.size, 1, none⟩ q) (w.heap.size + 1) x' y' 26 := (B3.win (win_setCell _ _ _ _) (.inr (Nat.le_refl _))).win (win_setCell _ _ _ _) (.inr (Nat.le_refl _))
    exact arr_stored B4
  · exact (((R3.win (win_setCell _ _ _ _) (.inr (by omega))).win (win_setCell _ _ _ _) (.inr (by omega))).win (win_setCell _ _ _ _) (.inr (Nat.le_refl _))).win (win_setCell _ _ _ _) (.inr (Nat.le_refl _))
  · exact i2 _ (hG _ bl) (fun o h1 h2 => by rw [hh o h1, b3.block o h2]) (by rw [sz]; exact s3)
  · exact i3 _ (hG _ bl) (fun o h1 h2 => hh o (by omega)) (by rw [sz]; exact Nat.le_refl _)
set_option maxRecDepth 20000 in
set_option maxHeartbeats 8000000 in
/-- Join. -/
theorem join_impl {s d t e : List Int} {w : World} {v u : Value} (h : ArrI w v s d) (k : ArrI w u t e) (hs : s.length ≤ 1048576) (hd : d.length ≤ 1048576) (ht : t.length ≤ 1048576) (he : e.length ≤ 1048576) :
    Calls Try.prog 6 #[v, u] w fun r w' => ∃ v', r = .returned (.tuple #[v', .int .i64 (joinR s d t e).1]) ∧ Arr w.heap.size w'.heap.size w' v' (joinR s d t e).2.1 (joinR s d t e).2.2 ∧ Below w.heap.size w w' := by
  have H : Hid (ArrI w v s d) := h
  have K : Hid (ArrI w u t e) := k
  obtain ⟨a, c, b, f, rfl, h1, h2, g1, g2⟩ := h
  obtain ⟨a', c', b', f', rfl, k1, k2, g3, g4⟩ := k
  have HOK : Hid (∀ (W : World) (o : Nat), Below w.heap.size w W → W.heap[o]? = some (.cells #[.slice a s.length c, .slice b d.length f, .slice a' t.length c', .slice b' e.length f'] 26 (0, 0)) → Calls Try.prog 18 #[.slice (some ⟨o, 0, none⟩) 2 2] W fun r w' => r = .returned (.bool (arrOk s d && arrOk t e)) ∧ Below W.heap.size W w') := fun W o hb ho => allOk2_impl (H.out.keep hb) (K.out.keep hb) hs hd ht he ho
  have HWA : Hid (∀ W, Calls Try.prog 19 #[.agg #[.slice a s.length c, .slice b d.length f]] W fun r w' => ∃ a2 c2, r = .returned (.agg #[.slice a2 (rowsS s).length c2, .slice b d.length f]) ∧ (∀ W' : World, Below w.heap.size w W' → (∀ o, W.heap.size ≤ o → o < w'.heap.size → W'.heap[o]? = w'.heap[o]?) → w'.heap.size ≤ W'.heap.size → IntsI W' (.slice a2 (rowsS s).length c2) (rowsS s)) ∧ Below W.heap.size W w') := fun W => withRows3_impl (fun W' hb => by obtain ⟨_, _, _, _, ev, i, _, g, _⟩ := H.out.keep hb; cases ev; exact ⟨_, _, rfl, g, i⟩)
  have HWB : Hid (∀ W, Calls Try.prog 19 #[.agg #[.slice a' t.length c', .slice b' e.length f']] W fun r w' => ∃ a2 c2, r = .returned (.agg #[.slice a2 (rowsS t).length c2, .slice b' e.length f']) ∧ (∀ W' : World, Below w.heap.size w W' → (∀ o, W.heap.size ≤ o → o < w'.heap.size → W'.heap[o]? = w'.heap[o]?) → w'.heap.size ≤ W'.heap.size → IntsI W' (.slice a2 (rowsS t).length c2) (rowsS t)) ∧ Below W.heap.size W w') := fun W => withRows3_impl (fun W' hb => by obtain ⟨_, _, _, _, ev, i, _, g, _⟩ := K.out.keep hb; cases ev; exact ⟨_, _, rfl, g, i⟩)
  have HI1 : Hid (Ints w b d) := h2
  have HI2 : Hid (Ints w b' e) := k2
  obtain ⟨x, hx⟩ : ∃ x, x = (joinR s d t e).1 := ⟨_, rfl⟩
  obtain ⟨S, hS⟩ : ∃ S, S = (joinR s d t e).2.1 := ⟨_, rfl⟩
  obtain ⟨D, hD⟩ : ∃ D, D = (joinR s d t e).2.2 := ⟨_, rfl⟩
  rw [← hx, ← hS, ← hD]
  have E1 : Hid (¬ (arrOk s d = true ∧ arrOk t e = true) → x = 1 ∧ S = [] ∧ D = []) := fun h => by
    rw [hx, hS, hD, joinR_bad h]; exact ⟨rfl, rfl, rfl⟩
  by_cases ho : arrOk s d = true ∧ arrOk t e = true
  · obtain ⟨m, tl, q1, m0, m1, r1, l1⟩ := rows_cons ho.1
    obtain ⟨n, tl', q2, n0, n1, r2, l2⟩ := rows_cons ho.2
    have hd3 := arrOk_len ho.1
    have he3 := arrOk_len ho.2
    have ER := joinR_told ho.1 ho.2 q1 q2
    have hoo : (arrOk s d && arrOk t e) = true := by rw [ho.1, ho.2]; rfl
    rw [hoo] at HOK
    rw [ER] at hx hS hD
    obtain ⟨RS, hRS⟩ : ∃ RS, RS = rowsS s := ⟨_, rfl⟩
    obtain ⟨RT, hRT⟩ : ∃ RT, RT = rowsS t := ⟨_, rfl⟩
    rw [← hRS] at HWA q1
    rw [← hRT] at HWB q2
    obtain ⟨SH, hSH⟩ : ∃ SH, SH = (m + n) :: tl := ⟨_, rfl⟩
    have QS : Hid (RS = m :: tl) := q1
    have QT : Hid (RT = n :: tl') := q2
    have hp1 : 0 < RS.length := by rw [q1]; simp
    have hp2 : 0 < RT.length := by rw [q2]; simp
    have hp1i : (0 : Int) < (RS.length : Int) := by omega
    have hp2i : (0 : Int) < (RT.length : Int) := by omega
    have LR : Hid (RS.length ≤ 3 ∧ RT.length ≤ 3) := by show _ ∧ _; rw [q1, q2]; simp; omega
    have HOF : Hid (∀ W v, IntsI W v RS → Calls Try.prog 20 #[v, .int .i64 (m + n)] W fun r w' => ∃ a' c', r = .returned (.slice a' SH.length c') ∧ Piece W.heap.size w'.heap.size w' (.slice a' SH.length c') SH ∧ Below W.heap.size W w') := fun W v hv => by
      have q := ofRows_impl (m + n) hv (by have := LR.out; omega) (by intro k; rw [k] at hp1; simp at hp1)
      rw [show RS.drop 1 = tl by rw [q1]; rfl, ← hSH] at q
      exact q
    have HN0 : Hid (∀ W a2 c2, IntsI W (.slice a2 RS.length c2) RS → ∃ ab ao, a2 = some ⟨ab, ao, none⟩ ∧ W.cell? ⟨ab, ao, none⟩ = some (.int .i64 m) ∧ ab < W.heap.size) := fun W a2 c2 hi => by
      obtain ⟨qa, qc, qe, _, qi⟩ := hi
      cases qe
      obtain ⟨ab, ao, rfl, hl, q⟩ := qi.at hp1
      rw [Nat.add_zero] at q
      exact ⟨ab, ao, rfl, by rw [q, q1]; rfl, hl⟩
    have HM0 : Hid (∀ W a2 c2, IntsI W (.slice a2 RT.length c2) RT → ∃ ab ao, a2 = some ⟨ab, ao, none⟩ ∧ W.cell? ⟨ab, ao, none⟩ = some (.int .i64 n) ∧ ab < W.heap.size) := fun W a2 c2 hi => by
      obtain ⟨qa, qc, qe, _, qi⟩ := hi
      cases qe
      obtain ⟨ab, ao, rfl, hl, q⟩ := qi.at hp2
      rw [Nat.add_zero] at q
      exact ⟨ab, ao, rfl, by rw [q, q2]; rfl, hl⟩
    have E2 : Hid (RS.length ≠ RT.length → x = 4 ∧ S = [] ∧ D = []) := fun h => by
      rw [hx, hS, hD, if_pos (show tl.length ≠ tl'.length by rw [q1, q2] at h; simpa using h)]; exact ⟨rfl, rfl, rfl⟩
    have E3 : Hid (RS.length = RT.length → tl ≠ tl' → x = 3 ∧ S = [] ∧ D = []) := fun h h2 => by
      rw [hx, hS, hD, if_neg (show ¬ tl.length ≠ tl'.length by rw [q1, q2] at h; simpa using h), if_pos h2]; exact ⟨rfl, rfl, rfl⟩
    have E4 : Hid (tl = tl' → ¬ 0 ≤ sizeV SH → x = 6 ∧ S = [] ∧ D = []) := fun h h2 => by
      rw [hSH] at h2
      rw [hx, hS, hD, if_neg (show ¬ tl.length ≠ tl'.length by rw [h]; simp), if_neg (show ¬ tl ≠ tl' from fun k => k h), if_neg h2]; exact ⟨rfl, rfl, rfl⟩
    have E5 : Hid (tl = tl' → 0 ≤ sizeV SH → x = 0 ∧ S = SH ∧ D = d ++ e) := fun h h2 => by
      rw [hSH] at h2 ⊢
      rw [hx, hS, hD, if_neg (show ¬ tl.length ≠ tl'.length by rw [h]; simp), if_neg (show ¬ tl ≠ tl' from fun k => k h), if_pos h2]; exact ⟨rfl, rfl, rfl⟩
    have LSH : Hid (SH.length ≤ 3) := by show _ ≤ _; rw [hSH]; simp; omega
    have hwr : IntKind.i64.wrap (m + n) = m + n := wrapI (by omega) (by omega)
    clear ER E1 ho hoo q1 q2 r1 r2 h1 h2 k1 k2 g1 g2 g3 g4 hRS hRT hSH hx hS hD
    go_enter Try.func6, Try.ntmps6
    go_wp2_with fail
    refine (HOK.out _ _ (bAlloc (bAlloc (bAlloc (bAlloc (Below.refl _ _) _) _) _) _) (by exact (four5 w _ _ _ _).2.2.2)).mono ?_
    rintro r w1 ⟨rfl, hb⟩
    have q4 := four5 w (.cells #[.slice a s.length c, .slice b d.length f] 26) (.cells #[.slice a' t.length c', .slice b' e.length f'] 26) (.cells #[.slice none 0 0, .slice none 0 0] 26) (.cells #[.slice a s.length c, .slice b d.length f, .slice a' t.length c', .slice b' e.length f'] 26)
    have HB1 : Hid (Below w.heap.size w w1) := bTrans (bAlloc (bAlloc (bAlloc (bAlloc (Below.refl _ _) _) _) _) _) hb
    have X1 : Hid (Box w1 w.heap.size (.slice a s.length c) (.slice b d.length f) 26) := Box.keep q4.1 hb
    have Y1 : Hid (Box w1 (w.heap.size + 1) (.slice a' t.length c') (.slice b' e.length f') 26) := Box.keep q4.2.1 hb
    have R1 : Hid (Box w1 (w.heap.size + 1 + 1) (.slice none 0 0) (.slice none 0 0) 26) := Box.keep q4.2.2.1 hb
    have LT : Hid (w.heap.size + 1 + 1 < w1.heap.size) := R1.out.lt
    clear hb q4 HOK
    have x0 : (World.drew w1).cell? ⟨w.heap.size, 0, none⟩ = some (.slice a s.length c) := X1.out.c0
    have x1 : (World.drew w1).cell? ⟨w.heap.size, 1, none⟩ = some (.slice b d.length f) := X1.out.c1
    have x2 : (World.drew w1).cell? ⟨w.heap.size + 1, 0, none⟩ = some (.slice a' t.length c') := Y1.out.c0
    have x3 : (World.drew w1).cell? ⟨w.heap.size + 1, 1, none⟩ = some (.slice b' e.length f') := Y1.out.c1
    go_wp2_with fail
    go_cut [] from 14 (fun w' => ∃ (a2 : Option Addr) (c2 : Nat) (a3 : Option Addr) (c3 : Nat), JoinSt w w' (.slice a2 RS.length c2) (.slice b d.length f) (.slice a3 RT.length c3) (.slice b' e.length f') ∧ IntsI w' (.slice a2 RS.length c2) RS ∧ IntsI w' (.slice a3 RT.length c3) RT ∧ w1.heap.size ≤ w'.heap.size)
    case first =>
      go_region_with (first
        | (go_at_call_of 19 (Value.agg #[.slice a s.length c, .slice b d.length f]); refine (HWA.out _).mono ?_; rintro r w2 ⟨a2, c2, rfl, hin, hb⟩; have B2 : Hid (Below w1.drew.heap.size w1.drew w2) := hb; have I2 : Hid (∀ W' : World, Below w.heap.size w W' → (∀ o, w1.drew.heap.size ≤ o → o < w2.heap.size → W'.heap[o]? = w2.heap[o]?) → w2.heap.size ≤ W'.heap.size → IntsI W' (.slice a2 RS.length c2) RS) := hin; have y2 := (Box.keep (w := w1.drew) Y1.out hb).c0; have y3 := (Box.keep (w := w1.drew) Y1.out hb).c1; clear hin hb)
        | (go_at_call_of 19 (Value.agg #[.slice a' t.length c', .slice b' e.length f']); refine (HWB.out _).mono ?_; rintro r w3 ⟨a3, c3, rfl, hin, hb⟩; have B3 : Hid (Below w2.heap.size w2 w3) := hb; have I3 : Hid (∀ W' : World, Below w.heap.size w W' → (∀ o, w2.heap.size ≤ o → o < w3.heap.size → W'.heap[o]? = w3.heap[o]?) → w3.heap.size ≤ W'.heap.size → IntsI W' (.slice a3 RT.length c3) RT) := hin; have X3 : Hid (Box w3 w.heap.size (.slice a s.length c) (.slice b d.length f) 26) := (Box.keep (w := w1.drew) X1.out B2.out).keep hb; have Y3 : Hid (Box w3 (w.heap.size + 1) (.slice a' t.length c') (.slice b' e.length f') 26) := (Box.keep (w := w1.drew) Y1.out B2.out).keep hb; have z0 := X3.out.c0; have z1 := X3.out.c1; have z2 := Y3.out.c0; have z3 := Y3.out.c1; have f0 : w3.frozen? ⟨w.heap.size, 0, none⟩ = false := free_at X3.out 0; have f1 : w3.frozen? ⟨w.heap.size, 1, none⟩ = false := free_at X3.out 1; have f2 : w3.frozen? ⟨w.heap.size + 1, 0, none⟩ = false := free_at Y3.out 0; have f3 : w3.frozen? ⟨w.heap.size + 1, 1, none⟩ = false := free_at Y3.out 1; clear hin hb))
      all_goals
        go_wp2_with fail
        go_meet
        case rel =>
          obtain ⟨st, ia, ib, hsz⟩ := join_st (G := fun W => Below w.heap.size w W) (q := .slice b d.length f) (q' := .slice b' e.length f') (fun _ h => h) X1.out Y1.out R1.out HB1.out (bTrans ((Below.refl w1.heap.size w1).drew) B2.out) B3.out I2.out I3.out
          exact ⟨_, _, _, _, st, ia, ib, hsz⟩
    obtain ⟨W4, hwc⟩ : ∃ x, x = wc := ⟨_, rfl⟩
    subst hwc
    obtain ⟨a2, c2, a3, c3, st, ia, ib, hsz⟩ := hcut
    have ST : Hid (JoinSt w W4 (.slice a2 RS.length c2) (.slice b d.length f) (.slice a3 RT.length c3) (.slice b' e.length f')) := st
    have IA : Hid (IntsI W4 (.slice a2 RS.length c2) RS) := ia
    have IB : Hid (IntsI W4 (.slice a3 RT.length c3) RT) := ib
    have SZ4 : Hid (w1.heap.size ≤ W4.heap.size) := hsz
    clear st ia ib hsz x0 x1 x2 x3 X1 Y1 R1 HB1 HWA HWB
    go_wp2_with fail
    obtain ⟨ab, ao, rfl, ca, la⟩ := HN0.out _ _ _ IA.out
    obtain ⟨bb, bo, rfl, cb, lb⟩ := HM0.out _ _ _ IB.out
    have x0 := ST.out.a.c0
    have x2 := ST.out.b.c0
    clear HN0 HM0
    go_region_held3 (fun w' => w'.cell? ⟨w.heap.size, 0, none⟩ = some (.slice (some ⟨ab, ao, none⟩) RS.length c2) ∧ w'.cell? ⟨w.heap.size + 1, 0, none⟩ = some (.slice (some ⟨bb, bo, none⟩) RT.length c3) ∧ w'.cell? ⟨ab, ao, none⟩ = some (.int .i64 m) ∧ w'.cell? ⟨bb, bo, none⟩ = some (.int .i64 n))
      (first | with_reducible exact ⟨y0, y2, y4, y5⟩ | exact ⟨x0, x2, ca, cb⟩)
      ((go_at_call 20; refine (HOF.out _ _ (IA.out.keep ((Below.refl W4.heap.size W4).drew))).mono ?_; rintro r w5 ⟨a5, c5, rfl, hp, hb⟩; have B5 : Hid (Below W4.heap.size W4 w5) := bTrans ((Below.refl W4.heap.size W4).drew) hb; have P5 : Hid (Piece W4.heap.size w5.heap.size w5 (.slice a5 SH.length c5) SH) := hp.mono (by exact Nat.le_refl _) (Nat.le_refl _); have y0 := (ST.out.a.keep B5.out).c0; have y2 := (ST.out.b.keep B5.out).c0; have y4 := (B5.out.cell (p := ⟨ab, ao, none⟩) la).trans ca; have y5 := (B5.out.cell (p := ⟨bb, bo, none⟩) lb).trans cb; clear hp hb))
    have X5 : Hid (Box w5 w.heap.size (.slice (some ⟨ab, ao, none⟩) RS.length c2) (.slice b d.length f) 26) := ST.out.a.keep B5.out
    have Y5 : Hid (Box w5 (w.heap.size + 1) (.slice (some ⟨bb, bo, none⟩) RT.length c3) (.slice b' e.length f') 26) := ST.out.b.keep B5.out
    have R5 : Hid (Box w5 (w.heap.size + 1 + 1) (.slice none 0 0) (.slice none 0 0) 26) := ST.out.r.keep B5.out
    have HB5 : Hid (Below w.heap.size w w5) := bTrans ST.out.bl B5.out
    have IA5 : Hid (IntsI w5 (.slice (some ⟨ab, ao, none⟩) RS.length c2) RS) := IA.out.keep B5.out
    have IB5 : Hid (IntsI w5 (.slice (some ⟨bb, bo, none⟩) RT.length c3) RT) := IB.out.keep B5.out
    clear ST IA IB x0 x2 y0 y2 y4 y5 ca cb la lb HOF
    have x0 := X5.out.c0
    have x2 := Y5.out.c0
    by_cases hl : RS.length = RT.length
    · have hlb : ((RS.length : Int) != (RT.length : Int)) = false := by simp [hl]
      have HL : Hid (RS.length = RT.length) := hl
      clear hl
      obtain ⟨_, _, ev, ga, ja⟩ := IA5.out
      cases ev
      obtain ⟨_, _, ev, gb, jb⟩ := IB5.out
      cases ev
      obtain ⟨a6, c6, hra, i6⟩ := ints_from (M := 1) ja ga (by omega)
      obtain ⟨b6, d6, hrb, k6⟩ := ints_from (M := 1) jb gb (by omega)
      rw [show RS.drop 1 = tl by rw [QS.out]; rfl] at hra i6
      rw [show RT.drop 1 = tl' by rw [QT.out]; rfl] at hrb k6
      simp only [show ((1 : Nat) : Int) = 1 from rfl] at hra hrb
      have HEQ : Hid (∀ W, Below w5.heap.size w5 W → Calls Try.prog 21 #[.slice a6 tl.length c6, .slice b6 tl'.length d6] W fun r w' => r = .returned (.bool (decide (tl = tl'))) ∧ Below W.heap.size W w') := fun W hb => by
        refine (equal_impl c6 d6 (by omega) (i6.keep hb) (k6.keep hb)).mono ?_
        rintro r w' ⟨rfl, j, rfl⟩
        exact ⟨rfl, bDrewN (Below.refl _ _) j⟩
      clear ja jb ga gb i6 k6 IA5 IB5
      go_wp2_with fail
      go_region_held3 (fun w' => w'.cell? ⟨w.heap.size, 0, none⟩ = some (.slice (some ⟨ab, ao, none⟩) RS.length c2) ∧ w'.cell? ⟨w.heap.size + 1, 0, none⟩ = some (.slice (some ⟨bb, bo, none⟩) RT.length c3))
        (first | with_reducible exact ⟨y0, y2⟩ | exact ⟨x0, x2⟩)
        ((go_at_call 21; refine (HEQ.out _ ((Below.refl w5.heap.size w5).drew)).mono ?_; rintro r w6 ⟨rfl, hb⟩; have B6 : Hid (Below w5.heap.size w5 w6) := bTrans ((Below.refl w5.heap.size w5).drew) hb; have y0 := (X5.out.keep B6.out).c0; have y2 := (Y5.out.keep B6.out).c0; clear hb))
      have X6 : Hid (Box w6 w.heap.size (.slice (some ⟨ab, ao, none⟩) RS.length c2) (.slice b d.length f) 26) := X5.out.keep B6.out
      have Y6 : Hid (Box w6 (w.heap.size + 1) (.slice (some ⟨bb, bo, none⟩) RT.length c3) (.slice b' e.length f') 26) := Y5.out.keep B6.out
      have R6 : Hid (Box w6 (w.heap.size + 1 + 1) (.slice none 0 0) (.slice none 0 0) 26) := R5.out.keep B6.out
      have HB6 : Hid (Below w.heap.size w w6) := bTrans HB5.out B6.out
      have P6 : Hid (Piece W4.heap.size w5.heap.size w6 (.slice a5 SH.length c5) SH) := P5.out.keep B6.out
      have L6 : Hid (w.heap.size + 1 + 1 < W4.heap.size ∧ W4.heap.size ≤ w5.heap.size ∧ w5.heap.size ≤ w6.heap.size) := ⟨Nat.lt_of_lt_of_le LT.out SZ4.out, B5.out.size, B6.out.size⟩
      clear X5 Y5 R5 P5 HB5 B5 B6 x0 x2 y0 y2 hra hrb HEQ
      by_cases htl : tl = tl'
      · have hdt : decide (tl = tl') = true := by simpa using htl
        rw [hdt]
        obtain ⟨_, _, ev, i5⟩ := P6.out.ints
        cases ev
        have HSO : Hid (Calls Try.prog 22 #[.slice a5 SH.length c5] w6 fun r w' => r = .returned (.bool (decide (0 ≤ sizeV SH))) ∧ Below w6.heap.size w6 w') := ok_impl c5 i5
        clear i5 hdt
        go_wp2_with fail
        refine (HSO.out).mono ?_
        rintro r w7 ⟨rfl, hb⟩
        have X7 : Hid (Box w7 w.heap.size (.slice (some ⟨ab, ao, none⟩) RS.length c2) (.slice b d.length f) 26) := X6.out.keep hb
        have Y7 : Hid (Box w7 (w.heap.size + 1) (.slice (some ⟨bb, bo, none⟩) RT.length c3) (.slice b' e.length f') 26) := Y6.out.keep hb
        have R7 : Hid (Box w7 (w.heap.size + 1 + 1) (.slice none 0 0) (.slice none 0 0) 26) := R6.out.keep hb
        have HB7 : Hid (Below w.heap.size w w7) := bTrans HB6.out hb
        have P7 : Hid (Piece W4.heap.size w5.heap.size w7 (.slice a5 SH.length c5) SH) := P6.out.keep hb
        have L7 : Hid (w6.heap.size ≤ w7.heap.size) := hb.size
        clear hb X6 Y6 R6 HB6 P6 HSO
        by_cases hz : 0 ≤ sizeV SH
        · obtain ⟨rfl, eS, eD⟩ := E5.out htl hz
          have ES : Hid (S = SH ∧ D = d ++ e) := ⟨eS, eD⟩
          have hdz : decide (0 ≤ sizeV SH) = true := by simpa using hz
          rw [hdz]
          obtain ⟨P, hP⟩ : ∃ P, P = d.length + e.length := ⟨_, rfl⟩
          have HP : Hid (P = d.length + e.length) := hP
          have hP3 : P ≤ 600 := by omega
          have hmk : ∀ w, (Instr.makeSlice 24 (.int .i64 ((d.length : Int) + (e.length : Int))) (.int .i64 ((d.length : Int) + (e.length : Int)))).run Try.prog w = .ok (.slice (some ⟨w.heap.size, 0, none⟩) P P) (w.alloc (.cells (vals (List.replicate P 0)) 3)) := fun w => by
            have q := make_ints P (by omega) w
            rw [hP] at q ⊢
            push_cast at q
            exact q
          have x0 := X7.out.c0
          have x1 := X7.out.c1
          have x2 := Y7.out.c0
          have x3 := Y7.out.c1
          clear E2 E3 E4 E5 eS eD hz hdz htl hP
          go_wp2_with fail
          clear x0 x1 x2 x3 hmk
          generalize hW8 : w7.alloc (.cells (vals (List.replicate P 0)) 3) = W8
          have O8 : Hid (OwnInts W8 w7.heap.size (List.replicate P 0)) := by rw [← hW8]; exact ownInts_new w7 _
          have B8 : Hid (Below w7.heap.size w7 W8) := by rw [← hW8]; exact bAlloc (Below.refl _ _) _
          clear hW8
          have hc1 := copy_paste (k := 0) (n := P) (l := List.replicate P 0) (show OwnInts W8.drew w7.heap.size (List.replicate P 0) from O8.out) (HI1.out.keep (bTrans (bTrans HB7.out B8.out) ((Below.refl W8.heap.size W8).drew))) (by have := HP.out; simp; omega) 3 P f
          rw [show min d.length P = d.length by have := HP.out; omega] at hc1
          have O9 : OwnInts (W8.drew.setRow w7.heap.size (vals (paste (List.replicate P 0) 0 d d.length))) w7.heap.size (paste (List.replicate P 0) 0 d d.length) := (show OwnInts W8.drew w7.heap.size (List.replicate P 0) from O8.out).setRow _
          have B9 : Below w7.heap.size w7 (W8.drew.setRow w7.heap.size (vals (paste (List.replicate P 0) 0 d d.length))) := below_setRow B8.out.drew (Nat.le_refl _) _
          generalize W8.drew.setRow w7.heap.size (vals (paste (List.replicate P 0) 0 d d.length)) = W9 at hc1 O9 B9
          obtain ⟨K, hK0, hKe, hsl⟩ : ∃ K : Nat, K + e.length ≤ P ∧ paste (paste (List.replicate P 0) 0 d d.length) K e e.length = d ++ e ∧ ∀ W, (Instr.slice 24 (.slice (some ⟨w7.heap.size, 0, none⟩) P P) (some (.int .i64 (d.length : Int))) none none).run Try.prog W = .ok (.slice (some ⟨w7.heap.size, K, none⟩) e.length e.length) W := by
            have hPe : P - d.length = e.length := by have := HP.out; omega
            have hr := fun W => run_from (a := some ⟨w7.heap.size, 0, none⟩) (n := P) (c := P) (M := d.length) (by have := HP.out; omega) (Nat.le_refl _) W
            rw [hPe] at hr
            by_cases h0 : e.length = 0
            · refine ⟨0, by have := HP.out; omega, ?_, fun W => by have q := hr W; rw [if_pos h0] at q; exact q⟩
              have he0 : e = [] := List.eq_nil_of_length_eq_zero h0
              have hPd : P = d.length := by have := HP.out; omega
              subst he0
              rw [hPd]
              simp [paste]
            · refine ⟨d.length, by have := HP.out; omega, ?_, fun W => by have q := hr W; rw [if_neg h0] at q; have ea : ((⟨w7.heap.size, 0, none⟩ : Addr).add (d.length * 1)) = ⟨w7.heap.size, d.length, none⟩ := (by by_cases hd0 : d.length = 0 <;> simp [Addr.add, hd0]); simp only [Option.map_some, ea] at q; exact q⟩
              rw [HP.out]
              simp [paste]
          have hc2 := copy_paste (k := K) (n := e.length) (l := paste (List.replicate P 0) 0 d d.length) O9 (HI2.out.keep (bTrans HB7.out B9)) (by rw [paste_length (by have := HP.out; simp; omega) (Nat.le_refl _)]; simp; omega) 3 e.length f'
          rw [show min e.length e.length = e.length by omega, hKe] at hc2
          have O10 : Hid (OwnInts (W9.setRow w7.heap.size (vals (d ++ e))) w7.heap.size (d ++ e)) := O9.setRow _
          have B10 : Hid (Below w7.heap.size w7 (W9.setRow w7.heap.size (vals (d ++ e)))) := below_setRow B9 (Nat.le_refl _) _
          generalize W9.setRow w7.heap.size (vals (d ++ e)) = W10 at hc2 O10 B10
          have B9' : Hid (Below w7.heap.size w7 W9) := B9
          have x1 : W8.drew.cell? ⟨w.heap.size, 1, none⟩ = some (.slice b d.length f) := (X7.out.keep B8.out).c1
          have x3 : W8.drew.cell? ⟨w.heap.size + 1, 1, none⟩ = some (.slice b' e.length f') := (Y7.out.keep B8.out).c1
          have y1 := (X7.out.keep B9'.out).c1
          have y3 := (Y7.out.keep B9'.out).c1
          have z1 := (X7.out.keep B10.out).c1
          have z3 := (Y7.out.keep B10.out).c1
          have hdP : (d.length : Int) ≤ (P : Int) := by have := HP.out; omega
          clear B9 O9 hKe hK0
          go_region_held3 (fun w' => w'.cell? ⟨w.heap.size, 1, none⟩ = some (.slice b d.length f) ∧ w'.cell? ⟨w.heap.size + 1, 1, none⟩ = some (.slice b' e.length f'))
            (first | with_reducible exact ⟨x1, x3⟩ | with_reducible exact ⟨y1, y3⟩ | with_reducible exact ⟨z1, z3⟩)
            (fail)
          clear hc1 hc2 hsl x1 x3 y1 y3 z1 z3 hdP
          have R10 : Hid (Box W10 (w.heap.size + 1 + 1) (.slice none 0 0) (.slice none 0 0) 26) := R7.out.keep B10.out
          have HB10 : Hid (Below w.heap.size w W10) := bTrans HB7.out B10.out
          have PS : Hid (Piece W4.heap.size w5.heap.size W10 (.slice a5 SH.length c5) SH) := P7.out.keep B10.out
          have PD : Hid (Piece w7.heap.size (w7.heap.size + 1) W10 (.slice (some ⟨w7.heap.size, 0, none⟩) P P) (d ++ e)) := by
            have q := OwnInts.piece O10.out (B := w7.heap.size) (C := w7.heap.size + 1) (Nat.le_refl _) (Nat.lt_succ_self _) P (by rw [List.length_append]; have := HP.out; omega)
            rw [List.length_append, ← HP.out] at q
            exact q
          have S10 : Hid (w7.heap.size + 1 ≤ W10.heap.size) := lt_of_heapA O10.out
          clear O10
          have y0 := R10.out.c0
          have y1 := R10.out.c1
          have f0 : W10.frozen? ⟨w.heap.size + 1 + 1, 0, none⟩ = false := free_at R10.out 0
          have f1 : W10.frozen? ⟨w.heap.size + 1 + 1, 1, none⟩ = false := free_at R10.out 1
          have HR : Hid (((W10.setCell ⟨w.heap.size + 1 + 1, 0, none⟩ (.slice a5 SH.length c5)).setCell ⟨w.heap.size + 1 + 1, 1, none⟩ (.slice (some ⟨w7.heap.size, 0, none⟩) P P)).heap[w.heap.size + 1 + 1]? = some (.cells #[.slice a5 SH.length c5, .slice (some ⟨w7.heap.size, 0, none⟩) P P] 26 (0, 0))) := arr_stored R10.out
          go_wp2
          refine bodyPost_ret (results_arr_tmp Try.results6 _ _ (w.heap.size + 1 + 1) _ _ rfl HR.out) rfl ?_
          refine ⟨_, rfl, ?_, below_setCell (below_setCell HB10.out (by omega) _ _) (by omega) _ _⟩
          obtain ⟨l1', l2', l3'⟩ := L6.out
          have l4' := L7.out
          have l5' := S10.out
          rw [ES.out.1, ES.out.2]
          have p1' := (PS.out.win (win_setCell _ (w.heap.size + 1 + 1) 0 (.slice a5 SH.length c5)) (.inr (by omega))).win (win_setCell _ (w.heap.size + 1 + 1) 1 (.slice (some ⟨w7.heap.size, 0, none⟩) P P)) (.inr (by omega))
          have p2' := (PD.out.win (win_setCell _ (w.heap.size + 1 + 1) 0 (.slice a5 SH.length c5)) (.inr (by omega))).win (win_setCell _ (w.heap.size + 1 + 1) 1 (.slice (some ⟨w7.heap.size, 0, none⟩) P P)) (.inr (by omega))
          exact ⟨_, _, rfl, p1'.mono (by omega) (by simp only [size_setCell]; omega), p2'.mono (by omega) (by simp only [size_setCell]; omega), p1'.apart p2' (.inl (by omega))⟩
        · obtain ⟨rfl, rfl, rfl⟩ := E4.out htl (by omega)
          have hdz : decide (0 ≤ sizeV SH) = false := by simpa using hz
          rw [hdz]
          clear E2 E3 E4 E5 hz hdz htl
          have y0 := R7.out.c0
          have y1 := R7.out.c1
          have f0 : w7.frozen? ⟨w.heap.size + 1 + 1, 0, none⟩ = false := free_at R7.out 0
          have f1 : w7.frozen? ⟨w.heap.size + 1 + 1, 1, none⟩ = false := free_at R7.out 1
          have HR : Hid (((w7.setCell ⟨w.heap.size + 1 + 1, 0, none⟩ (.slice none 0 0)).setCell ⟨w.heap.size + 1 + 1, 1, none⟩ (.slice none 0 0)).heap[w.heap.size + 1 + 1]? = some (.cells #[.slice none 0 0, .slice none 0 0] 26 (0, 0))) := arr_stored R7.out
          go_wp2
          refine bodyPost_ret (results_arr_tmp Try.results6 _ _ (w.heap.size + 1 + 1) _ _ rfl HR.out) rfl ?_
          exact ⟨_, rfl, arr_zero _ _ _, below_setCell (below_setCell HB7.out (by omega) _ _) (by omega) _ _⟩
      · obtain ⟨rfl, rfl, rfl⟩ := E3.out HL.out htl
        have hdt : decide (tl = tl') = false := by simpa using htl
        rw [hdt]
        clear E2 E3 E4 E5 htl hdt
        have y0 := R6.out.c0
        have y1 := R6.out.c1
        have f0 : w6.frozen? ⟨w.heap.size + 1 + 1, 0, none⟩ = false := free_at R6.out 0
        have f1 : w6.frozen? ⟨w.heap.size + 1 + 1, 1, none⟩ = false := free_at R6.out 1
        have HR : Hid (((w6.setCell ⟨w.heap.size + 1 + 1, 0, none⟩ (.slice none 0 0)).setCell ⟨w.heap.size + 1 + 1, 1, none⟩ (.slice none 0 0)).heap[w.heap.size + 1 + 1]? = some (.cells #[.slice none 0 0, .slice none 0 0] 26 (0, 0))) := arr_stored R6.out
        go_wp2
        refine bodyPost_ret (results_arr_tmp Try.results6 _ _ (w.heap.size + 1 + 1) _ _ rfl HR.out) rfl ?_
        exact ⟨_, rfl, arr_zero _ _ _, below_setCell (below_setCell HB6.out (by omega) _ _) (by omega) _ _⟩
    · obtain ⟨rfl, rfl, rfl⟩ := E2.out hl
      have hlb : ((RS.length : Int) != (RT.length : Int)) = true := by simp; omega
      clear E2 E3 E4 E5 hl
      have y0 := R5.out.c0
      have y1 := R5.out.c1
      have f0 : w5.frozen? ⟨w.heap.size + 1 + 1, 0, none⟩ = false := free_at R5.out 0
      have f1 : w5.frozen? ⟨w.heap.size + 1 + 1, 1, none⟩ = false := free_at R5.out 1
      have HR : Hid (((w5.setCell ⟨w.heap.size + 1 + 1, 0, none⟩ (.slice none 0 0)).setCell ⟨w.heap.size + 1 + 1, 1, none⟩ (.slice none 0 0)).heap[w.heap.size + 1 + 1]? = some (.cells #[.slice none 0 0, .slice none 0 0] 26 (0, 0))) := arr_stored R5.out
      go_wp2
      refine bodyPost_ret (results_arr_tmp Try.results6 _ _ (w.heap.size + 1 + 1) _ _ rfl HR.out) rfl ?_
      exact ⟨_, rfl, arr_zero _ _ _, below_setCell (below_setCell HB5.out (by omega) _ _) (by omega) _ _⟩
  · obtain ⟨rfl, rfl, rfl⟩ := E1.out ho
    have hoo : (arrOk s d && arrOk t e) = false := by
      cases h1 : arrOk s d <;> cases h2 : arrOk t e <;> simp_all
    rw [hoo] at HOK
    clear E1 ho hoo hx hS hD HWA HWB h1 h2 k1 k2 g1 g2 g3 g4
    go_enter Try.func6, Try.ntmps6
    go_wp2_with fail
    refine (HOK.out _ _ (bAlloc (bAlloc (bAlloc (bAlloc (Below.refl _ _) _) _) _) _) (by exact (four5 w _ _ _ _).2.2.2)).mono ?_
    rintro r w1 ⟨rfl, hb⟩
    have q4 := four5 w (.cells #[.slice a s.length c, .slice b d.length f] 26) (.cells #[.slice a' t.length c', .slice b' e.length f'] 26) (.cells #[.slice none 0 0, .slice none 0 0] 26) (.cells #[.slice a s.length c, .slice b d.length f, .slice a' t.length c', .slice b' e.length f'] 26)
    have HB1 : Hid (Below w.heap.size w w1) := bTrans (bAlloc (bAlloc (bAlloc (bAlloc (Below.refl _ _) _) _) _) _) hb
    have R1 : Hid (Box w1 (w.heap.size + 1 + 1) (.slice none 0 0) (.slice none 0 0) 26) := Box.keep q4.2.2.1 hb
    clear hb q4 HOK
    have y0 := R1.out.c0
    have y1 := R1.out.c1
    have f0 : w1.frozen? ⟨w.heap.size + 1 + 1, 0, none⟩ = false := free_at R1.out 0
    have f1 : w1.frozen? ⟨w.heap.size + 1 + 1, 1, none⟩ = false := free_at R1.out 1
    have HR : Hid (((w1.setCell ⟨w.heap.size + 1 + 1, 0, none⟩ (.slice none 0 0)).setCell ⟨w.heap.size + 1 + 1, 1, none⟩ (.slice none 0 0)).heap[w.heap.size + 1 + 1]? = some (.cells #[.slice none 0 0, .slice none 0 0] 26 (0, 0))) := arr_stored R1.out
    go_wp2
    refine bodyPost_ret (results_arr_tmp Try.results6 _ _ (w.heap.size + 1 + 1) _ _ rfl HR.out) rfl ?_
    exact ⟨_, rfl, arr_zero _ _ _, below_setCell (below_setCell HB1.out (by omega) _ _) (by omega) _ _⟩
end Go.Proofs.Ytdobohobhpailaa
