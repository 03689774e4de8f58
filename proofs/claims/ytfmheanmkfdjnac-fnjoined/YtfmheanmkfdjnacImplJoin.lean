/-
  Walks: the program's Join.
-/
import Derived.Test.YtfmheanmkfdjnacMakeQ
import Derived.Test.YtfmheanmkfdjnacImplMake10
import Derived.Test.YtfmheanmkfdjnacImplArr1
import Derived.Test.YtfmheanmkfdjnacCutI
import Derived.Test.YtfmheanmkfdjnacCuts2
import Derived.Deep.Cut
namespace Go.Proofs.Ytfmheanmkfdjnac
open Go.RowKit
set_option linter.unusedVariables false
set_option linter.unusedSimpArgs false
/-- What 'a, b = withRows(a), withRows(b)' leaves. -/
structure JoinSt (w W : World) (x y x' y' : Value) : Prop where
  a : Box W w.heap.size x y 26
  b : Box W (w.heap.size + 1) x' y' 26
  r : Box W (w.heap.size + 1 + 1) (.slice none 0 0) (.slice none 0 0) 26
  bl : Below w.heap.size w W
theorem join_st {w w1 w2 w3 : World} {x y x' y' p q p' q' : Value} {RS RT : List Int} {G : World → Prop} (hG : ∀ W, Below w.heap.size w W → G W)
    (A : Box w1 w.heap.size x y 26) (B : Box w1 (w.heap.size + 1) x' y' 26) (R : Box w1 (w.heap.size + 1 + 1) (.slice none 0 0) (.slice none 0 0) 26) (h1 : Below w.heap.size w w1)
    (b2 : Below w1.heap.size w1 w2) (b3 : Below w2.heap.size w2 w3)
    (i2 : ∀ W : World, G W → (∀ o, w1.heap.size ≤ o → o < w2.heap.size → W.heap[o]? = w2.heap[o]?) → w2.heap.size ≤ W.heap.size → IntsI W p RS)
    (i3 : ∀ W : World, G W → (∀ o, w2.heap.size ≤ o → o < w3.heap.size → W.heap[o]? = w3.heap[o]?) → w3.heap.size ≤ W.heap.size → IntsI W p' RT) :
    JoinSt w ((((w3.setCell ⟨w.heap.size, 0, none⟩ p).setCell ⟨w.heap.size, 1, none⟩ q).setCell ⟨w.heap.size + 1, 0, none⟩ p').setCell ⟨w.heap.size + 1, 1, none⟩ q') p q p' q' ∧
    IntsI ((((w3.setCell ⟨w.heap.size, 0, none⟩ p).setCell ⟨w.heap.size, 1, none⟩ q).setCell ⟨w.heap.size + 1, 0, none⟩ p').setCell ⟨w.heap.size + 1, 1, none⟩ q') p RS ∧
    IntsI ((((w3.setCell ⟨w.heap.size, 0, none⟩ p).setCell ⟨w.heap.size, 1, none⟩ q).setCell ⟨w.heap.size + 1, 0, none⟩ p').setCell ⟨w.heap.size + 1, 1, none⟩ q') p' RT ∧
    w1.heap.size ≤ ((((w3.setCell ⟨w.heap.size, 0, none⟩ p).setCell ⟨w.heap.size, 1, none⟩ q).setCell ⟨w.heap.size + 1, 0, none⟩ p').setCell ⟨w.heap.size + 1, 1, none⟩ q').heap.size := by
  have L := R.lt
  have s2 := b2.size
  have s3 := b3.size
  have A3 := (A.keep b2).keep b3
  have B3 := (B.keep b2).keep b3
  have R3 := (R.keep b2).keep b3
  have bl3 : Below w.heap.size w w3 := bTrans (bTrans h1 b2) b3
  have bl : Below w.heap.size w ((((w3.setCell ⟨w.heap.size, 0, none⟩ p).setCell ⟨w.heap.size, 1, none⟩ q).setCell ⟨w.heap.size + 1, 0, none⟩ p').setCell ⟨w.heap.size + 1, 1, none⟩ q') := below_setCell (below_setCell (below_setCell (below_setCell bl3 (Nat.le_refl _) _ _) (Nat.le_refl _) _ _) (by omega) _ _) (by omega) _ _
  have sz : ((((w3.setCell ⟨w.heap.size, 0, none⟩ p).setCell ⟨w.heap.size, 1, none⟩ q).setCell ⟨w.heap.size + 1, 0, none⟩ p').setCell ⟨w.heap.size + 1, 1, none⟩ q').heap.size = w3.heap.size := by simp only [size_setCell]
  have hh : ∀ o, w1.heap.size ≤ o → ((((w3.setCell ⟨w.heap.size, 0, none⟩ p).setCell ⟨w.heap.size, 1, none⟩ q).setCell ⟨w.heap.size + 1, 0, none⟩ p').setCell ⟨w.heap.size + 1, 1, none⟩ q').heap[o]? = w3.heap[o]? := fun o ho => by
    rw [heap_setCell_other _ _ _ _ (by show o ≠ w.heap.size + 1; omega), heap_setCell_other _ _ _ _ (by show o ≠ w.heap.size + 1; omega), heap_setCell_other _ _ _ _ (by show o ≠ w.heap.size; omega), heap_setCell_other _ _ _ _ (by show o ≠ w.heap.size; omega)]
  refine ⟨⟨?_, ?_, ?_, bl⟩, ?_, ?_, by rw [sz]; omega⟩
  · have A4 : Box ((w3.setCell ⟨w.heap.size, 0, none⟩ p).setCell ⟨w.heap.size, 1, none⟩ q) w.heap.size p q 26 := arr_stored A3
    exact (A4.win (win_setCell _ _ _ _) (.inl (Nat.lt_succ_self _))).win (win_setCell _ _ _ _) (.inl (Nat.lt_succ_self _))
  · have B4 : Box ((w3.setCell ⟨w.heap.size, 0, none⟩ p).setCell ⟨w.heap.size, 1, none⟩ q) (w.heap.size + 1) x' y' 26 := (B3.win (win_setCell _ _ _ _) (.inr (Nat.le_refl _))).win (win_setCell _ _ _ _) (.inr (Nat.le_refl _))
    exact arr_stored B4
  · exact (((R3.win (win_setCell _ _ _ _) (.inr (by omega))).win (win_setCell _ _ _ _) (.inr (by omega))).win (win_setCell _ _ _ _) (.inr (Nat.le_refl _))).win (win_setCell _ _ _ _) (.inr (Nat.le_refl _))
  · exact i2 _ (hG _ bl) (fun o h1 h2 => by rw [hh o h1, b3.block o h2]) (by rw [sz]; exact s3)
  · exact i3 _ (hG _ bl) (fun o h1 h2 => hh o (by omega)) (by rw [sz]; exact Nat.le_refl _)
set_option maxRecDepth 20000 in
set_option maxHeartbeats 8000000 in
/-- Join. -/
theorem join_impl {s d t e : List Int} {w : World} {v u : Value} (h : ArrI w v s d) (k : ArrI w u t e) (hs : s.length ≤ 1048576) (hd : d.length ≤ 1048576) (ht : t.length ≤ 1048576) (he : e.length ≤ 1048576) :
    Calls Try.prog 35 #[v, u] w fun r w' => ∃ v', r = .returned (.tuple #[v', .int .i64 (joinR s d t e).1]) ∧ Arr w.heap.size w'.heap.size w' v' (joinR s d t e).2.1 (joinR s d t e).2.2 ∧ Below w.heap.size w w' := by
  have H : Hid (ArrI w v s d) := h
  have K : Hid (ArrI w u t e) := k
  obtain ⟨a, c, b, f, rfl, h1, h2, g1, g2⟩ := h
  obtain ⟨a', c', b', f', rfl, k1, k2, g3, g4⟩ := k
  have HOK : Hid (∀ (W : World) (o : Nat), Below w.heap.size w W → W.heap[o]? = some (.cells #[.slice a s.length c, .slice b d.length f, .slice a' t.length c', .slice b' e.length f'] 26 (0, 0)) → Calls Try.prog 72 #[.slice (some ⟨o, 0, none⟩) 2 2] W fun r w' => r = .returned (.bool (arrOk s d && arrOk t e)) ∧ Below W.heap.size W w') := fun W o hb ho => allOk2_impl (H.out.keep hb) (K.out.keep hb) hs hd ht he ho
  have HWA : Hid (∀ W, Calls Try.prog 85 #[.agg #[.slice a s.length c, .slice b d.length f]] W fun r w' => ∃ a2 c2, r = .returned (.agg #[.slice a2 (rowsS s).length c2, .slice b d.length f]) ∧ (∀ W' : World, Below w.heap.size w W' → (∀ o, W.heap.size ≤ o → o < w'.heap.size → W'.heap[o]? = w'.heap[o]?) → w'.heap.size ≤ W'.heap.size → IntsI W' (.slice a2 (rowsS s).length c2) (rowsS s)) ∧ Below W.heap.size W w') := fun W => withRows3_impl (fun W' hb => by obtain ⟨_, _, _, _, ev, i, _, g, _⟩ := H.out.keep hb; cases ev; exact ⟨_, _, rfl, g, i⟩)
  have HWB : Hid (∀ W, Calls Try.prog 85 #[.agg #[.slice a' t.length c', .slice b' e.length f']] W fun r w' => ∃ a2 c2, r = .returned (.agg #[.slice a2 (rowsS t).length c2, .slice b' e.length f']) ∧ (∀ W' : World, Below w.heap.size w W' → (∀ o, W.heap.size ≤ o → o < w'.heap.size → W'.heap[o]? = w'.heap[o]?) → w'.heap.size ≤ W'.heap.size → IntsI W' (.slice a2 (rowsS t).length c2) (rowsS t)) ∧ Below W.heap.size W w') := fun W => withRows3_impl (fun W' hb => by obtain ⟨_, _, _, _, ev, i, _, g, _⟩ := K.out.keep hb; cases ev; exact ⟨_, _, rfl, g, i⟩)
  have HI1 : Hid (Ints w b d) := h2
  have HI2 : Hid (Ints w b' e) := k2
  obtain ⟨x, hx⟩ : ∃ x, x = (joinR s d t e).1 := ⟨_, rfl⟩
  obtain ⟨S, hS⟩ : ∃ S, S = (joinR s d t e).2.1 := ⟨_, rfl⟩
  obtain ⟨D, hD⟩ : ∃ D, D = (joinR s d t e).2.2 := ⟨_, rfl⟩
  rw [← hx, ← hS, ← hD]
  have E1 : Hid (¬ (arrOk s d = true ∧ arrOk t e = true) → x = 1 ∧ S = [] ∧ D = []) := fun h => by
    rw [hx, hS, hD, joinR_bad h]; exact ⟨rfl, rfl, rfl⟩
  by_cases ho : arrOk s d = true ∧ arrOk t e = true
  · obtain ⟨m, tl, q1, m0, m1, r1, l1⟩ := rows_cons ho.1
    obtain ⟨n, tl', q2, n0, n1, r2, l2⟩ := rows_cons ho.2
    have hd3 := arrOk_len ho.1
    have he3 := arrOk_len ho.2
    have ER := joinR_told ho.1 ho.2 q1 q2
    have hoo : (arrOk s d && arrOk t e) = true := by rw [ho.1, ho.2]; rfl
    rw [hoo] at HOK
    rw [ER] at hx hS hD
    obtain ⟨RS, hRS⟩ : ∃ RS, RS = rowsS s := ⟨_, rfl⟩
    obtain ⟨RT, hRT⟩ : ∃ RT, RT = rowsS t := ⟨_, rfl⟩
    rw [← hRS] at HWA q1
    rw [← hRT] at HWB q2
    obtain ⟨SH, hSH⟩ : ∃ SH, SH = (m + n) :: tl := ⟨_, rfl⟩
    have QS : Hid (RS = m :: tl) := q1
    have QT : Hid (RT = n :: tl') := q2
    have hp1 : 0 < RS.length := by rw [q1]; simp
    have hp2 : 0 < RT.length := by rw [q2]; simp
    have hp1i : (0 : Int) < (RS.length : Int) := by omega
    have hp2i : (0 : Int) < (RT.length : Int) := by omega
    have LR : Hid (RS.length ≤ 3 ∧ RT.length ≤ 3) := by show _ ∧ _; rw [q1, q2]; simp; omega
    have HOF : Hid (∀ W v, IntsI W v RS → Calls Try.prog 86 #[v, .int .i64 (m + n)] W fun r w' => ∃ a' c', r = .returned (.slice a' SH.length c') ∧ Piece W.heap.size w'.heap.size w' (.slice a' SH.length c') SH ∧ Below W.heap.size W w') := fun W v hv => by
      have q := ofRows_impl (m + n) hv (by have := LR.out; omega) (by intro k; rw [k] at hp1; simp at hp1)
      rw [show RS.drop 1 = tl by rw [q1]; rfl, ← hSH] at q
      exact q
    have HN0 : Hid (∀ W a2 c2, IntsI W (.slice a2 RS.length c2) RS → ∃ ab ao, a2 = some ⟨ab, ao, none⟩ ∧ W.cell? ⟨ab, ao, none⟩ = some (.int .i64 m) ∧ ab < W.heap.size) := fun W a2 c2 hi => by
      obtain ⟨qa, qc, qe, _, qi⟩ := hi
      cases qe
      obtain ⟨ab, ao, rfl, hl, q⟩ := qi.at hp1
      rw [Nat.add_zero] at q
      exact ⟨ab, ao, rfl, by rw [q, q1]; rfl, hl⟩
    have HM0 : Hid (∀ W a2 c2, IntsI W (.slice a2 RT.length c2) RT → ∃ ab ao, a2 = some ⟨ab, ao, none⟩ ∧ W.cell? ⟨ab, ao, none⟩ = some (.int .i64 n) ∧ ab < W.heap.size) := fun W a2 c2 hi => by
      obtain ⟨qa, qc, qe, _, qi⟩ := hi
      cases qe
      obtain ⟨ab, ao, rfl, hl, q⟩ := qi.at hp2
      rw [Nat.add_zero] at q
      exact ⟨ab, ao, rfl, by rw [q, q2]; rfl, hl⟩
    have E2 : Hid (RS.length ≠ RT.length → x = 4 ∧ S = [] ∧ D = []) := fun h => by
      rw [hx, hS, hD, if_pos (show tl.length ≠ tl'.length by rw [q1, q2] at h; simpa using h)]; exact ⟨rfl, rfl, rfl⟩
    have E3 : Hid (RS.length = RT.length → tl ≠ tl' → x = 3 ∧ S = [] ∧ D = []) := fun h h2 => by
      rw [hx, hS, hD, if_neg (show ¬ tl.length ≠ tl'.length by rw [q1, q2] at h; simpa using h), if_pos h2]; exact ⟨rfl, rfl, rfl⟩
    have E4 : Hid (tl = tl' → ¬ 0 ≤ sizeV SH → x = 6 ∧ S = [] ∧ D = []) := fun h h2 => by
      rw [hSH] at h2
      rw [hx, hS, hD, if_neg (show ¬ tl.length ≠ tl'.length by rw [h]; simp), if_neg (show ¬ tl ≠ tl' from fun k => k h), if_neg h2]; exact ⟨rfl, rfl, rfl⟩
    have E5 : Hid (tl = tl' → 0 ≤ sizeV SH → x = 0 ∧ S = SH ∧ D = d ++ e) := fun h h2 => by
      rw [hSH] at h2 ⊢
      rw [hx, hS, hD, if_neg (show ¬ tl.length ≠ tl'.length by rw [h]; simp), if_neg (show ¬ tl ≠ tl' from fun k => k h), if_pos h2]; exact ⟨rfl, rfl, rfl⟩
    have LSH : Hid (SH.length ≤ 3) := by show _ ≤ _; rw [hSH]; simp; omega
    have hwr : IntKind.i64.wrap (m + n) = m + n := wrapI (by omega) (by omega)
    clear ER E1 ho hoo q1 q2 r1 r2 h1 h2 k1 k2 g1 g2 g3 g4 hRS hRT hSH hx hS hD
    go_enter Try.func35, Try.ntmps35
    go_wp2_with fail
    refine (HOK.out _ _ (bAlloc (bAlloc (bAlloc (bAlloc (Below.refl _ _) _) _) _) _) (by exact (four5 w _ _ _ _).2.2.2)).mono ?_
    rintro r w1 ⟨rfl, hb⟩
    have q4 := four5 w (.cells #[.slice a s.length c, .slice b d.length f] 26) (.cells #[.slice a' t.length c', .slice b' e.length f'] 26) (.cells #[.slice none 0 0, .slice none 0 0] 26) (.cells #[.slice a s.length c, .slice b d.length f, .slice a' t.length c', .slice b' e.length f'] 26)
    have HB1 : Hid (Below w.heap.size w w1) := bTrans (bAlloc (bAlloc (bAlloc (bAlloc (Below.refl _ _) _) _) _) _) hb
    have X1 : Hid (Box w1 w.heap.size (.slice a s.length c) (.slice b d.length f) 26) := Box.keep q4.1 hb
    have Y1 : Hid (Box w1 (w.heap.size + 1) (.slice a' t.length c') (.slice b' e.length f') 26) := Box.keep q4.2.1 hb
    have R1 : Hid (Box w1 (w.heap.size + 1 + 1) (.slice none 0 0) (.slice none 0 0) 26) := Box.keep q4.2.2.1 hb
    have LT : Hid (w.heap.size + 1 + 1 < w1.heap.size) := R1.out.lt
    clear hb q4 HOK
    have x0 : (World.drew w1).cell? ⟨w.heap.size, 0, none⟩ = some (.slice a s.length c) := X1.out.c0
    have x1 : (World.drew w1).cell? ⟨w.heap.size, 1, none⟩ = some (.slice b d.length f) := X1.out.c1
    have x2 : (World.drew w1).cell? ⟨w.heap.size + 1, 0, none⟩ = some (.slice a' t.length c') := Y1.out.c0
    have x3 : (World.drew w1).cell? ⟨w.heap.size + 1, 1, none⟩ = some (.slice b' e.length f') := Y1.out.c1
    go_wp2_with fail
    go_cut [] from 14 (fun w' => ∃ (a2 : Option Addr) (c2 : Nat) (a3 : Option Addr) (c3 : Nat), JoinSt w w' (.slice a2 RS.length c2) (.slice b d.length f) (.slice a3 RT.length c3) (.slice b' e.length f') ∧ IntsI w' (.slice a2 RS.length c2) RS ∧ IntsI w' (.slice a3 RT.length c3) RT ∧ w1.heap.size ≤ w'.heap.size)
    case first =>
      go_region_with (first
        | (go_at_call_of 85 (Value.agg #[.slice a s.length c, .slice b d.length f]); refine (HWA.out _).mono ?_; rintro r w2 ⟨a2, c2, rfl, hin, hb⟩; have B2 : Hid (Below w1.drew.heap.size w1.drew w2) := hb; have I2 : Hid (∀ W' : World, Below w.heap.size w W' → (∀ o, w1.drew.heap.size ≤ o → o < w2.heap.size → W'.heap[o]? = w2.heap[o]?) → w2.heap.size ≤ W'.heap.size → IntsI W' (.slice a2 RS.length c2) RS) := hin; have y2 := (Box.keep (w := w1.drew) Y1.out hb).c0; have y3 := (Box.keep (w := w1.drew) Y1.out hb).c1; clear hin hb)
        | (go_at_call_of 85 (Value.agg #[.slice a' t.length c', .slice b' e.length f']); refine (HWB.out _).mono ?_; rintro r w3 ⟨a3, c3, rfl, hin, hb⟩; have B3 : Hid (Below w2.heap.size w2 w3) := hb; have I3 : Hid (∀ W' : World, Below w.heap.size w W' → (∀ o, w2.heap.size ≤ o → o < w3.heap.size → W'.heap[o]? = w3.heap[o]?) → w3.heap.size ≤ W'.heap.size → IntsI W' (.slice a3 RT.length c3) RT) := hin; have X3 : Hid (Box w3 w.heap.size (.slice a s.length c) (.slice b d.length f) 26) := (Box.keep (w := w1.drew) X1.out B2.out).keep hb; have Y3 : Hid (Box w3 (w.heap.size + 1) (.slice a' t.length c') (.slice b' e.length f') 26) := (Box.keep (w := w1.drew) Y1.out B2.out).keep hb; have z0 := X3.out.c0; have z1 := X3.out.c1; have z2 := Y3.out.c0; have z3 := Y3.out.c1; have f0 : w3.frozen? ⟨w.heap.size, 0, none⟩ = false := free_at X3.out 0; have f1 : w3.frozen? ⟨w.heap.size, 1, none⟩ = false := free_at X3.out 1; have f2 : w3.frozen? ⟨w.heap.size + 1, 0, none⟩ = false := free_at Y3.out 0; have f3 : w3.frozen? ⟨w.heap.size + 1, 1, none⟩ = false := free_at Y3.out 1; clear hin hb))
      all_goals
        go_wp2_with fail
        go_meet
        case rel =>
          obtain ⟨st, ia, ib, hsz⟩ := join_st (G := fun W => Below w.heap.size w W) (q := .slice b d.length f) (q' := .slice b' e.length f') (fun _ h => h) X1.out Y1.out R1.out HB1.out (bTrans ((Below.refl w1.heap.size w1).drew) B2.out) B3.out I2.out I3.out
          exact ⟨_, _, _, _, st, ia, ib, hsz⟩
    obtain ⟨W4, hwc⟩ : ∃ x, x = wc := ⟨_, rfl⟩
    subst hwc
    obtain ⟨a2, c2, a3, c3, st, ia, ib, hsz⟩ := hcut
    have ST : Hid (JoinSt w W4 (.slice a2 RS.length c2) (.slice b d.length f) (.slice a3 RT.length c3) (.slice b' e.length f')) := st
    have IA : Hid (IntsI W4 (.slice a2 RS.length c2) RS) := ia
    have IB : Hid (IntsI W4 (.slice a3 RT.length c3) RT) := ib
    have SZ4 : Hid (w1.heap.size ≤ W4.heap.size) := hsz
    clear st ia ib hsz x0 x1 x2 x3 X1 Y1 R1 HB1 HWA HWB
    go_wp2_with fail
    obtain ⟨ab, ao, rfl, ca, la⟩ := HN0.out _ _ _ IA.out
    obtain ⟨bb, bo, rfl, cb, lb⟩ := HM0.out _ _ _ IB.out
    have x0 := ST.out.a.c0
    have x2 := ST.out.b.c0
    clear HN0 HM0
    go_region_held3 (fun w' => w'.cell? ⟨w.heap.size, 0, none⟩ = some (.slice (some ⟨ab, ao, none⟩) RS.length c2) ∧ w'.cell? ⟨w.heap.size + 1, 0, none⟩ = some (.slice (some ⟨bb, bo, none⟩) RT.length c3) ∧ w'.cell? ⟨ab, ao, none⟩ = some (.int .i64 m) ∧ w'.cell? ⟨bb, bo, none⟩ = some (.int .i64 n))
      (first | with_reducible exact ⟨y0, y2, y4, y5⟩ | exact ⟨x0, x2, ca, cb⟩)
      ((go_at_call 86; refine (HOF.out _ _ (IA.out.keep ((Below.refl W4.heap.size W4).drew))).mono ?_; rintro r w5 ⟨a5, c5, rfl, hp, hb⟩; have B5 : Hid (Below W4.heap.size W4 w5) := bTrans ((Below.refl W4.heap.size W4).drew) hb; have P5 : Hid (Piece W4.heap.size w5.heap.size w5 (.slice a5 SH.length c5) SH) := hp.mono (by exact Nat.le_refl _) (Nat.le_refl _); have y0 := (ST.out.a.keep B5.out).c0; have y2 := (ST.out.b.keep B5.out).c0; have y4 := (B5.out.cell (p := ⟨ab, ao, none⟩) la).trans ca; have y5 := (B5.out.cell (p := ⟨bb, bo, none⟩) lb).trans cb; clear hp hb))
    have X5 : Hid (Box w5 w.heap.size (.slice (some ⟨ab, ao, none⟩) RS.length c2) (.slice b d.length f) 26) := ST.out.a.keep B5.out
    have Y5 : Hid (Box w5 (w.heap.size + 1) (.slice (some ⟨bb, bo, none⟩) RT.length c3) (.slice b' e.length f') 26) := ST.out.b.keep B5.out
    have R5 : Hid (Box w5 (w.heap.size + 1 + 1) (.slice none 0 0) (.slice none 0 0) 26) := ST.out.r.keep B5.out
    have HB5 : Hid (Below w.heap.size w w5) := bTrans ST.out.bl B5.out
    have IA5 : Hid (IntsI w5 (.slice (some ⟨ab, ao, none⟩) RS.length c2) RS) := IA.out.keep B5.out
    have IB5 : Hid (IntsI w5 (.slice (some ⟨bb, bo, none⟩) RT.length c3) RT) := IB.out.keep B5.out
    clear ST IA IB x0 x2 y0 y2 y4 y5 ca cb la lb HOF
    have x0 := X5.out.c0
    have x2 := Y5.out.c0
    by_cases hl : RS.length = RT.length
    · have hlb : ((RS.length : Int) != (RT.length : Int)) = false := by simp [hl]
      have HL : Hid (RS.length = RT.length) := hl
      clear hl
      obtain ⟨_, _, ev, ga, ja⟩ := IA5.out
      cases ev
      obtain ⟨_, _, ev, gb, jb⟩ := IB5.out
      cases ev
      obtain ⟨a6, c6, hra, i6⟩ := ints_from (M := 1) ja ga (by omega)
      obtain ⟨b6, d6, hrb, k6⟩ := ints_from (M := 1) jb gb (by omega)
      rw [show RS.drop 1 = tl by rw [QS.out]; rfl] at hra i6
      rw [show RT.drop 1 = tl' by rw [QT.out]; rfl] at hrb k6
      simp only [show ((1 : Nat) : Int) = 1 from rfl] at hra hrb
      have HEQ : Hid (∀ W, Below w5.heap.size w5 W → Calls Try.prog 87 #[.slice a6 tl.length c6, .slice b6 tl'.length d6] W fun r w' => r = .returned (.bool (decide (tl = tl'))) ∧ Below W.heap.size W w') := fun W hb => by
        refine (equal_impl c6 d6 (by omega) (i6.keep hb) (k6.keep hb)).mono ?_
        rintro r w' ⟨rfl, j, rfl⟩
        exact ⟨rfl, bDrewN (Below.refl _ _) j⟩
      clear ja jb ga gb i6 k6 IA5 IB5
      go_wp2_with fail
      go_region_held3 (fun w' => w'.cell? ⟨w.heap.size, 0, none⟩ = some (.slice (some ⟨ab, ao, none⟩) RS.length c2) ∧ w'.cell? ⟨w.heap.size + 1, 0, none⟩ = some (.slice (some ⟨bb, bo, none⟩) RT.length c3))
        (first | with_reducible exact ⟨y0, y2⟩ | exact ⟨x0, x2⟩)
        ((go_at_call 87; refine (HEQ.out _ ((Below.refl w5.heap.size w5).drew)).mono ?_; rintro r w6 ⟨rfl, hb⟩; have B6 : Hid (Below w5.heap.size w5 w6) := bTrans ((Below.refl w5.heap.size w5).drew) hb; have y0 := (X5.out.keep B6.out).c0; have y2 := (Y5.out.keep B6.out).c0; clear hb))
      have X6 : Hid (Box w6 w.heap.size (.slice (some ⟨ab, ao, none⟩) RS.length c2) (.slice b d.length f) 26) := X5.out.keep B6.out
      have Y6 : Hid (Box w6 (w.heap.size + 1) (.slice (some ⟨bb, bo, none⟩) RT.length c3) (.slice b' e.length f') 26) := Y5.out.keep B6.out
      have R6 : Hid (Box w6 (w.heap.size + 1 + 1) (.slice none 0 0) (.slice none 0 0) 26) := R5.out.keep B6.out
      have HB6 : Hid (Below w.heap.size w w6) := bTrans HB5.out B6.out
      have P6 : Hid (Piece W4.heap.size w5.heap.size w6 (.slice a5 SH.length c5) SH) := P5.out.keep B6.out
      have L6 : Hid (w.heap.size + 1 + 1 < W4.heap.size ∧ W4.heap.size ≤ w5.heap.size ∧ w5.heap.size ≤ w6.heap.size) := ⟨Nat.lt_of_lt_of_le LT.out SZ4.out, B5.out.size, B6.out.size⟩
      clear X5 Y5 R5 P5 HB5 B5 B6 x0 x2 y0 y2 hra hrb HEQ
      by_cases htl : tl = tl'
      · have hdt : decide (tl = tl') = true := by simpa using htl
        rw [hdt]
        obtain ⟨_, _, ev, i5⟩ := P6.out.ints
        cases ev
        have HSO : Hid (Calls Try.prog 75 #[.slice a5 SH.length c5] w6 fun r w' => r = .returned (.bool (decide (0 ≤ sizeV SH))) ∧ Below w6.heap.size w6 w') := ok_impl c5 i5
        clear i5 hdt
        go_wp2_with fail
        refine (HSO.out).mono ?_
        rintro r w7 ⟨rfl, hb⟩
        have X7 : Hid (Box w7 w.heap.size (.slice (some ⟨ab, ao, none⟩) RS.length c2) (.slice b d.length f) 26) := X6.out.keep hb
        have Y7 : Hid (Box w7 (w.heap.size + 1) (.slice (some ⟨bb, bo, none⟩) RT.length c3) (.slice b' e.length f') 26) := Y6.out.keep hb
        have R7 : Hid (Box w7 (w.heap.size + 1 + 1) (.slice none 0 0) (.slice none 0 0) 26) := R6.out.keep hb
        have HB7 : Hid (Below w.heap.size w w7) := bTrans HB6.out hb
        have P7 : Hid (Piece W4.heap.size w5.heap.size w7 (.slice a5 SH.length c5) SH) := P6.out.keep hb
        have L7 : Hid (w6.heap.size ≤ w7.heap.size) := hb.size
        clear hb X6 Y6 R6 HB6 P6 HSO
        by_cases hz : 0 ≤ sizeV SH
        · obtain ⟨rfl, eS, eD⟩ := E5.out htl hz
          have ES : Hid (S = SH ∧ D = d ++ e) := ⟨eS, eD⟩
          have hdz : decide (0 ≤ sizeV SH) = true := by simpa using hz
          rw [hdz]
          obtain ⟨P, hP⟩ : ∃ P, P = d.length + e.length := ⟨_, rfl⟩
          have HP : Hid (P = d.length + e.length) := hP
          have hP3 : P ≤ 600 := by omega
          have hmk : ∀ w, (Instr.makeSlice 24 (.int .i64 ((d.length : Int) + (e.length : Int))) (.int .i64 ((d.length : Int) + (e.length : Int)))).run Try.prog w = .ok (.slice (some ⟨w.heap.size, 0, none⟩) P P) (w.alloc (.cells (vals (List.replicate P 0)) 3)) := fun w => by
            have q := make_ints P (by omega) w
            rw [hP] at q ⊢
            push_cast at q
            exact q
          have x0 := X7.out.c0
          have x1 := X7.out.c1
          have x2 := Y7.out.c0
          have x3 := Y7.out.c1
          clear E2 E3 E4 E5 eS eD hz hdz htl hP
          go_wp2_with fail
          clear x0 x1 x2 x3 hmk
          generalize hW8 : w7.alloc (.cells (vals (List.replicate P 0)) 3) = W8
          have O8 : Hid (OwnInts W8 w7.heap.size (List.replicate P 0)) := by rw [← hW8]; exact ownInts_new w7 _
          have B8 : Hid (Below w7.heap.size w7 W8) := by rw [← hW8]; exact bAlloc (Below.refl _ _) _
          clear hW8
          have hc1 := copy_paste (k := 0) (n := P) (l := List.replicate P 0) (show OwnInts W8.drew w7.heap.size (List.replicate P 0) from O8.out) (HI1.out.keep (bTrans (bTrans HB7.out B8.out) ((Below.refl W8.heap.size W8).drew))) (by have := HP.out; simp; omega) 3 P f
          rw [show min d.length P = d.length by have := HP.out; omega] at hc1
          have O9 : OwnInts (W8.drew.setRow w7.heap.size (vals (paste (List.replicate P 0) 0 d d.length))) w7.heap.size (paste (List.replicate P 0) 0 d d.length) := (show OwnInts W8.drew w7.heap.size (List.replicate P 0) from O8.out).setRow _
          have B9 : Below w7.heap.size w7 (W8.drew.setRow w7.heap.size (vals (paste (List.replicate P 0) 0 d d.length))) := below_setRow B8.out.drew (Nat.le_refl _) _
          generalize W8.drew.setRow w7.heap.size (vals (paste (List.replicate P 0) 0 d d.length)) = W9 at hc1 O9 B9
          obtain ⟨K, hK0, hKe, hsl⟩ : ∃ K : Nat, K + e.length ≤ P ∧ paste (paste (List.replicate P 0) 0 d d.length) K e e.length = d ++ e ∧ ∀ W, (Instr.slice 24 (.slice (some ⟨w7.heap.size, 0, none⟩) P P) (some (.int .i64 (d.length : Int))) none none).run Try.prog W = .ok (.slice (some ⟨w7.heap.size, K, none⟩) e.length e.length) W := by
            have hPe : P - d.length = e.length := by have := HP.out; omega
            have hr := fun W => run_from (a := some ⟨w7.heap.size, 0, none⟩) (n := P) (c := P) (M := d.length) (by have := HP.out; omega) (Nat.le_refl _) W
            rw [hPe] at hr
            by_cases h0 : e.length = 0
            · refine ⟨0, by have := HP.out; omega, ?_, fun W => by have q := hr W; rw [if_pos h0] at q; exact q⟩
              have he0 : e = [] := List.eq_nil_of_length_eq_zero h0
              have hPd : P = d.length := by have := HP.out; omega
              subst he0
              rw [hPd]
              simp [paste]
            · refine ⟨d.length, by have := HP.out; omega, ?_, fun W => by have q := hr W; rw [if_neg h0] at q; have ea : ((⟨w7.heap.size, 0, none⟩ : Addr).add (d.length * 1)) = ⟨w7.heap.size, d.length, none⟩ := (by by_cases hd0 : d.length = 0 <;> simp [Addr.add, hd0]); simp only [Option.map_some, ea] at q; exact q⟩
              rw [HP.out]
              simp [paste]
          have hc2 := copy_paste (k := K) (n := e.length) (l := paste (List.replicate P 0) 0 d d.length) O9 (HI2.out.keep (bTrans HB7.out B9)) (by rw [paste_length (by have := HP.out; simp; omega) (Nat.le_refl _)]; simp; omega) 3 e.length f'
          rw [show min e.length e.length = e.length by omega, hKe] at hc2
          have O10 : Hid (OwnInts (W9.setRow w7.heap.size (vals (d ++ e))) w7.heap.size (d ++ e)) := O9.setRow _
          have B10 : Hid (Below w7.heap.size w7 (W9.setRow w7.heap.size (vals (d ++ e)))) := below_setRow B9 (Nat.le_refl _) _
          generalize W9.setRow w7.heap.size (vals (d ++ e)) = W10 at hc2 O10 B10
          have B9' : Hid (Below w7.heap.size w7 W9) := B9
          have x1 : W8.drew.cell? ⟨w.heap.size, 1, none⟩ = some (.slice b d.length f) := (X7.out.keep B8.out).c1
          have x3 : W8.drew.cell? ⟨w.heap.size + 1, 1, none⟩ = some (.slice b' e.length f') := (Y7.out.keep B8.out).c1
          have y1 := (X7.out.keep B9'.out).c1
          have y3 := (Y7.out.keep B9'.out).c1
          have z1 := (X7.out.keep B10.out).c1
          have z3 := (Y7.out.keep B10.out).c1
          have hdP : (d.length : Int) ≤ (P : Int) := by have := HP.out; omega
          clear B9 O9 hKe hK0
          go_region_held3 (fun w' => w'.cell? ⟨w.heap.size, 1, none⟩ = some (.slice b d.length f) ∧ w'.cell? ⟨w.heap.size + 1, 1, none⟩ = some (.slice b' e.length f'))
            (first | with_reducible exact ⟨x1, x3⟩ | with_reducible exact ⟨y1, y3⟩ | with_reducible exact ⟨z1, z3⟩)
            (fail)
          clear hc1 hc2 hsl x1 x3 y1 y3 z1 z3 hdP
          have R10 : Hid (Box W10 (w.heap.size + 1 + 1) (.slice none 0 0) (.slice none 0 0) 26) := R7.out.keep B10.out
          have HB10 : Hid (Below w.heap.size w W10) := bTrans HB7.out B10.out
          have PS : Hid (Piece W4.heap.size w5.heap.size W10 (.slice a5 SH.length c5) SH) := P7.out.keep B10.out
          have PD : Hid (Piece w7.heap.size (w7.heap.size + 1) W10 (.slice (some ⟨w7.heap.size, 0, none⟩) P P) (d ++ e)) := by
            have q := OwnInts.piece O10.out (B := w7.heap.size) (C := w7.heap.size + 1) (Nat.le_refl _) (Nat.lt_succ_self _) P (by rw [List.length_append]; have := HP.out; omega)
            rw [List.length_append, ← HP.out] at q
            exact q
          have S10 : Hid (w7.heap.size + 1 ≤ W10.heap.size) := lt_of_heapA O10.out
          clear O10
          have y0 := R10.out.c0
          have y1 := R10.out.c1
          have f0 : W10.frozen? ⟨w.heap.size + 1 + 1, 0, none⟩ = false := free_at R10.out 0
          have f1 : W10.frozen? ⟨w.heap.size + 1 + 1, 1, none⟩ = false := free_at R10.out 1
          have HR : Hid (((W10.setCell ⟨w.heap.size + 1 + 1, 0, none⟩ (.slice a5 SH.length c5)).setCell ⟨w.heap.size + 1 + 1, 1, none⟩ (.slice (some ⟨w7.heap.size, 0, none⟩) P P)).heap[w.heap.size + 1 + 1]? = some (.cells #[.slice a5 SH.length c5, .slice (some ⟨w7.heap.size, 0, none⟩) P P] 26 (0, 0))) := arr_stored R10.out
          go_wp2
          refine bodyPost_ret (results_arr_tmp Try.results35 _ _ (w.heap.size + 1 + 1) _ _ rfl HR.out) rfl ?_
          refine ⟨_, rfl, ?_, below_setCell (below_setCell HB10.out (by omega) _ _) (by omega) _ _⟩
          obtain ⟨l1', l2', l3'⟩ := L6.out
          have l4' := L7.out
          have l5' := S10.out
          rw [ES.out.1, ES.out.2]
          have p1' := (PS.out.win (win_setCell _ (w.heap.size + 1 + 1) 0 (.slice a5 SH.length c5)) (.inr (by omega))).win (win_setCell _ (w.heap.size + 1 + 1) 1 (.slice (some ⟨w7.heap.size, 0, none⟩) P P)) (.inr (by omega))
          have p2' := (PD.out.win (win_setCell _ (w.heap.size + 1 + 1) 0 (.slice a5 SH.length c5)) (.inr (by omega))).win (win_setCell _ (w.heap.size + 1 + 1) 1 (.slice (some ⟨w7.heap.size, 0, none⟩) P P)) (.inr (by omega))
          exact ⟨_, _, rfl, p1'.mono (by omega) (by simp only [size_setCell]; omega), p2'.mono (by omega) (by simp only [size_setCell]; omega), p1'.apart p2' (.inl (by omega))⟩
        · obtain ⟨rfl, rfl, rfl⟩ := E4.out htl (by omega)
          have hdz : decide (0 ≤ sizeV SH) = false := by simpa using hz
          rw [hdz]
          clear E2 E3 E4 E5 hz hdz htl
          have y0 := R7.out.c0
          have y1 := R7.out.c1
          have f0 : w7.frozen? ⟨w.heap.size + 1 + 1, 0, none⟩ = false := free_at R7.out 0
          have f1 : w7.frozen? ⟨w.heap.size + 1 + 1, 1, none⟩ = false := free_at R7.out 1
          have HR : Hid (((w7.setCell ⟨w.heap.size + 1 + 1, 0, none⟩ (.slice none 0 0)).setCell ⟨w.heap.size + 1 + 1, 1, none⟩ (.slice none 0 0)).heap[w.heap.size + 1 + 1]? = some (.cells #[.slice none 0 0, .slice none 0 0] 26 (0, 0))) := arr_stored R7.out
          go_wp2
          refine bodyPost_ret (results_arr_tmp Try.results35 _ _ (w.heap.size + 1 + 1) _ _ rfl HR.out) rfl ?_
          exact ⟨_, rfl, arr_zero _ _ _, below_setCell (below_setCell HB7.out (by omega) _ _) (by omega) _ _⟩
      · obtain ⟨rfl, rfl, rfl⟩ := E3.out HL.out htl
        have hdt : decide (tl = tl') = false := by simpa using htl
        rw [hdt]
        clear E2 E3 E4 E5 htl hdt
        have y0 := R6.out.c0
        have y1 := R6.out.c1
        have f0 : w6.frozen? ⟨w.heap.size + 1 + 1, 0, none⟩ = false := free_at R6.out 0
        have f1 : w6.frozen? ⟨w.heap.size + 1 + 1, 1, none⟩ = false := free_at R6.out 1
        have HR : Hid (((w6.setCell ⟨w.heap.size + 1 + 1, 0, none⟩ (.slice none 0 0)).setCell ⟨w.heap.size + 1 + 1, 1, none⟩ (.slice none 0 0)).heap[w.heap.size + 1 + 1]? = some (.cells #[.slice none 0 0, .slice none 0 0] 26 (0, 0))) := arr_stored R6.out
        go_wp2
        refine bodyPost_ret (results_arr_tmp Try.results35 _ _ (w.heap.size + 1 + 1) _ _ rfl HR.out) rfl ?_
        exact ⟨_, rfl, arr_zero _ _ _, below_setCell (below_setCell HB6.out (by omega) _ _) (by omega) _ _⟩
    · obtain ⟨rfl, rfl, rfl⟩ := E2.out hl
      have hlb : ((RS.length : Int) != (RT.length : Int)) = true := by simp; omega
      clear E2 E3 E4 E5 hl
      have y0 := R5.out.c0
      have y1 := R5.out.c1
      have f0 : w5.frozen? ⟨w.heap.size + 1 + 1, 0, none⟩ = false := free_at R5.out 0
      have f1 : w5.frozen? ⟨w.heap.size + 1 + 1, 1, none⟩ = false := free_at R5.out 1
      have HR : Hid (((w5.setCell ⟨w.heap.size + 1 + 1, 0, none⟩ (.slice none 0 0)).setCell ⟨w.heap.size + 1 + 1, 1, none⟩ (.slice none 0 0)).heap[w.heap.size + 1 + 1]? = some (.cells #[.slice none 0 0, .slice none 0 0] 26 (0, 0))) := arr_stored R5.out
      go_wp2
      refine bodyPost_ret (results_arr_tmp Try.results35 _ _ (w.heap.size + 1 + 1) _ _ rfl HR.out) rfl ?_
      exact ⟨_, rfl, arr_zero _ _ _, below_setCell (below_setCell HB5.out (by omega) _ _) (by omega) _ _⟩
  · obtain ⟨rfl, rfl, rfl⟩ := E1.out ho
    have hoo : (arrOk s d && arrOk t e) = false := by
      cases h1 : arrOk s d <;> cases h2 : arrOk t e <;> simp_all
    rw [hoo] at HOK
    clear E1 ho hoo hx hS hD HWA HWB h1 h2 k1 k2 g1 g2 g3 g4
    go_enter Try.func35, Try.ntmps35
    go_wp2_with fail
    refine (HOK.out _ _ (bAlloc (bAlloc (bAlloc (bAlloc (Below.refl _ _) _) _) _) _) (by exact (four5 w _ _ _ _).2.2.2)).mono ?_
    rintro r w1 ⟨rfl, hb⟩
    have q4 := four5 w (.cells #[.slice a s.length c, .slice b d.length f] 26) (.cells #[.slice a' t.length c', .slice b' e.length f'] 26) (.cells #[.slice none 0 0, .slice none 0 0] 26) (.cells #[.slice a s.length c, .slice b d.length f, .slice a' t.length c', .slice b' e.length f'] 26)
    have HB1 : Hid (Below w.heap.size w w1) := bTrans (bAlloc (bAlloc (bAlloc (bAlloc (Below.refl _ _) _) _) _) _) hb
    have R1 : Hid (Box w1 (w.heap.size + 1 + 1) (.slice none 0 0) (.slice none 0 0) 26) := Box.keep q4.2.2.1 hb
    clear hb q4 HOK
    have y0 := R1.out.c0
    have y1 := R1.out.c1
    have f0 : w1.frozen? ⟨w.heap.size + 1 + 1, 0, none⟩ = false := free_at R1.out 0
    have f1 : w1.frozen? ⟨w.heap.size + 1 + 1, 1, none⟩ = false := free_at R1.out 1
    have HR : Hid (((w1.setCell ⟨w.heap.size + 1 + 1, 0, none⟩ (.slice none 0 0)).setCell ⟨w.heap.size + 1 + 1, 1, none⟩ (.slice none 0 0)).heap[w.heap.size + 1 + 1]? = some (.cells #[.slice none 0 0, .slice none 0 0] 26 (0, 0))) := arr_stored R1.out
    go_wp2
    refine bodyPost_ret (results_arr_tmp Try.results35 _ _ (w.heap.size + 1 + 1) _ _ rfl HR.out) rfl ?_
    exact ⟨_, rfl, arr_zero _ _ _, below_setCell (below_setCell HB1.out (by omega) _ _) (by omega) _ _⟩
end Go.Proofs.Ytfmheanmkfdjnac
