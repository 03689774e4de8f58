/-
  Walks: the program's Inner.
-/
import Derived.Test.YtnkacfgbkfkhdaaGreatY35
import Derived.Test.YtnkacfgbkfkhdaaGreatY39
import Derived.Test.YtnkacfgbkfkhdaaGreatY40
import Derived.Test.YtnkacfgbkfkhdaaGreatY30
import Derived.Test.YtnkacfgbkfkhdaaGreatY41
import Derived.Deep.Cut
namespace Go.Proofs.YtnkacfgbkfkhdaaGreat
open Go.RowKit Go.Shelf
set_option linter.unusedVariables false
set_option linter.unusedSimpArgs false
theorem flat_one (c : Nat → Int × Int) (N : Nat) : ((List.range N).flatMap (fun k => if (c k).2 = 0 then [(c k).1] else [])).length ≤ N := by
  induction N with
  | zero => simp
  | succ N ih =>
    rw [List.range_succ, List.flatMap_append, List.length_append]
    have : (List.flatMap (fun k => if (c k).2 = 0 then [(c k).1] else []) [N]).length ≤ 1 := by
      simp only [List.flatMap_cons, List.flatMap_nil, List.append_nil]
      split <;> simp
    omega
theorem vecs_n {w : World} {v : Value} {F : List (List Int)} {n : Nat} (h : ArrsI w v F) (hF : F.length = 2 * n) : ∃ x k, v = .slice x n k := by
  obtain ⟨a, m, c, rfl, h1, _⟩ := h
  obtain rfl : m = n := by omega
  exact ⟨a, c, rfl⟩
set_option maxRecDepth 20000 in
set_option maxHeartbeats 40000000 in
/-- Inner. -/
theorem inner_impl {F G : Int} {s d t e : List Int} {w : World} {v u : Value} (h : ArrI w v s d) (k : ArrI w u t e) (hs : s.length ≤ 1048576) (hd : d.length ≤ 1048576) (ht : t.length ≤ 1048576) (he : e.length ≤ 1048576) :
    Calls Tryz.prog 6 #[.int .i64 F, .int .i64 G, v, u] w fun r w' => ∃ v', r = .returned (.tuple #[v', .int .i64 (innerR F G s d t e).1]) ∧ Arr w.heap.size w'.heap.size w' v' (innerR F G s d t e).2.1 (innerR F G s d t e).2.2 ∧ Below w.heap.size w w' := by
  have H : Hid (ArrI w v s d) := h
  have K : Hid (ArrI w u t e) := k
  obtain ⟨a, c, b, f, rfl, h1, h2, gc, gf⟩ := h
  obtain ⟨a', c', b', f', rfl, k1, k2, gc', gf'⟩ := k
  have HOK : Hid (∀ (W : World) (o : Nat), Below w.heap.size w W → W.heap[o]? = some (.cells #[.slice a s.length c, .slice b d.length f, .slice a' t.length c', .slice b' e.length f'] 26 (0, 0)) → Calls Tryz.prog 19 #[.slice (some ⟨o, 0, none⟩) 2 2] W fun r w' => r = .returned (.bool (arrOk s d && arrOk t e)) ∧ Below W.heap.size W w') := fun W o hb ho => allOk2_impl (H.out.keep hb) (K.out.keep hb) hs hd ht he ho
  have H1 : Hid (Ints w a s) := h1
  have K1 : Hid (Ints w a' t) := k1
  have GC : Hid (s.length ≤ c) := gc
  have GC' : Hid (t.length ≤ c') := gc'
  have HTE : Hid (t.length ≤ 1048576 ∧ e.length ≤ 1048576) := ⟨ht, he⟩
  obtain ⟨x, hx⟩ : ∃ x, x = (innerR F G s d t e).1 := ⟨_, rfl⟩
  obtain ⟨S, hS⟩ : ∃ S, S = (innerR F G s d t e).2.1 := ⟨_, rfl⟩
  obtain ⟨D, hD⟩ : ∃ D, D = (innerR F G s d t e).2.2 := ⟨_, rfl⟩
  rw [← hx, ← hS, ← hD]
  have E1 : Hid (¬ (arrOk s d = true ∧ arrOk t e = true ∧ sign2 F = true ∧ sign2 G = true) → x = 1 ∧ S = [] ∧ D = []) := fun q => by
    rw [innerR_bad q] at hx hS hD; exact ⟨hx, hS, hD⟩
  have E4 : Hid ((arrOk s d = true ∧ arrOk t e = true ∧ sign2 F = true ∧ sign2 G = true) → ¬ ((s.length = 1 ∨ s.length = 2) ∧ (t.length = 1 ∨ t.length = 2)) → x = 4 ∧ S = [] ∧ D = []) := fun q1 q2 => by
    rw [innerR_told q1, if_neg q2] at hx hS hD; exact ⟨hx, hS, hD⟩
  have E3 : Hid ((arrOk s d = true ∧ arrOk t e = true ∧ sign2 F = true ∧ sign2 G = true) → ((s.length = 1 ∨ s.length = 2) ∧ (t.length = 1 ∨ t.length = 2)) → s.getD (s.length - 1) 0 ≠ t.getD 0 0 → x = 3 ∧ S = [] ∧ D = []) := fun q1 q2 q3 => by
    rw [innerR_told q1, if_pos q2, if_pos q3] at hx hS hD; exact ⟨hx, hS, hD⟩
  have E6 : Hid ((arrOk s d = true ∧ arrOk t e = true ∧ sign2 F = true ∧ sign2 G = true) → ((s.length = 1 ∨ s.length = 2) ∧ (t.length = 1 ∨ t.length = 2)) → s.getD (s.length - 1) 0 = t.getD 0 0 → sizeV (innerS s t) < 0 → x = 6 ∧ S = [] ∧ D = []) := fun q1 q2 q3 q4 => by
    rw [innerR_told q1, if_pos q2, if_neg (by simpa using q3), if_pos q4] at hx hS hD; exact ⟨hx, hS, hD⟩
  have E0 : Hid ((arrOk s d = true ∧ arrOk t e = true ∧ sign2 F = true ∧ sign2 G = true) → ((s.length = 1 ∨ s.length = 2) ∧ (t.length = 1 ∨ t.length = 2)) → s.getD (s.length - 1) 0 = t.getD 0 0 → 0 ≤ sizeV (innerS s t) →
      (firstC (fun k => (innerK F G d t e k).2) (sizeV (innerS s t)).toNat = 0 → x = 0 ∧ innerS s t = S ∧ D = (List.range (sizeV (innerS s t)).toNat).map (fun k => (innerK F G d t e k).1)) ∧ (∀ y, y ≠ 0 → firstC (fun k => (innerK F G d t e k).2) (sizeV (innerS s t)).toNat = y → x = y ∧ S = [] ∧ D = [])) := fun q1 q2 q3 q4 => by
    rw [innerR_told q1, if_pos q2, if_neg (by simpa using q3), if_neg (by omega)] at hx hS hD
    refine ⟨fun q => ?_, fun y hy q => ?_⟩
    · rw [q, mkR_good] at hx hS hD; exact ⟨hx, hS.symm, hD⟩
    · rw [q, mkR_bad hy] at hx hS hD; exact ⟨hx, hS, hD⟩
  clear hx hS hD h1 h2 k1 k2 hs hd ht he gc gf gc' gf'
  go_enter Tryz.func6, Tryz.ntmps6
  go_wp2_with fail
  refine (knownTwo_impl F _).mono ?_
  rintro r w0 ⟨rfl, hb⟩
  have HB0 : Hid (Below w.heap.size w w0) := bTrans (bAlloc (bAlloc (bAlloc (Below.refl _ _) _) _) _) hb
  have X0 : Hid (Box w0 w.heap.size (.slice a s.length c) (.slice b d.length f) 26) := (((box_new w _ _ _).keep (bAlloc (Below.refl _ _) _)).keep (bAlloc (Below.refl _ _) _)).keep hb
  have Y0 : Hid (Box w0 (w.heap.size + 1) (.slice a' t.length c') (.slice b' e.length f') 26) := ((box_new2 w _ _ _ _).keep (bAlloc (Below.refl _ _) _)).keep hb
  have R0 : Hid (Box w0 (w.heap.size + 1 + 1) (.slice none 0 0) (.slice none 0 0) 26) := (box3o w _ _ _ _ _).keep hb
  clear hb
  by_cases HF : sign2 F = true
  · rw [HF]
    have x0 := X0.out.c0
    have x1 := X0.out.c1
    have y0 := Y0.out.c0
    have y1 := Y0.out.c1
    go_wp2_with fail
    refine (knownTwo_impl G _).mono ?_
    rintro r w1 ⟨rfl, hb⟩
    clear x0 x1 y0 y1
    have X1 : Hid (Box w1 w.heap.size (.slice a s.length c) (.slice b d.length f) 26) := X0.out.keep hb
    have Y1 : Hid (Box w1 (w.heap.size + 1) (.slice a' t.length c') (.slice b' e.length f') 26) := Y0.out.keep hb
    have R1 : Hid (Box w1 (w.heap.size + 1 + 1) (.slice none 0 0) (.slice none 0 0) 26) := R0.out.keep hb
    have HB1 : Hid (Below w.heap.size w w1) := bTrans HB0.out hb
    clear hb X0 Y0 R0 HB0
    by_cases HG : sign2 G = true
    · rw [HG]
      have x0 := X1.out.c0
      have x1 := X1.out.c1
      have y0 := Y1.out.c0
      have y1 := Y1.out.c1
      go_wp2_with fail
      refine (HOK.out _ _ (bAlloc HB1.out _) (by exact heap_alloc_new w1 _)).mono ?_
      rintro r w2 ⟨rfl, hbb⟩
      have hb : Below w1.heap.size w1 w2 := bTrans (bAlloc (Below.refl _ _) _) hbb
      clear hbb
      clear x0 x1 y0 y1
      have X2 : Hid (Box w2 w.heap.size (.slice a s.length c) (.slice b d.length f) 26) := X1.out.keep hb
      have Y2 : Hid (Box w2 (w.heap.size + 1) (.slice a' t.length c') (.slice b' e.length f') 26) := Y1.out.keep hb
      have R2 : Hid (Box w2 (w.heap.size + 1 + 1) (.slice none 0 0) (.slice none 0 0) 26) := R1.out.keep hb
      have HB2 : Hid (Below w.heap.size w w2) := bTrans HB1.out hb
      clear hb X1 Y1 R1 HB1
      by_cases HO : (arrOk s d && arrOk t e) = true
      · rw [HO]
        have HALL : Hid (arrOk s d = true ∧ arrOk t e = true ∧ sign2 F = true ∧ sign2 G = true) := by
          have q := HO
          rw [Bool.and_eq_true] at q
          exact ⟨q.1, q.2, HF, HG⟩
        clear HO HF HG HOK
        have x0 := X2.out.c0
        have x1 := X2.out.c1
        have y0 := Y2.out.c0
        have y1 := Y2.out.c1
        go_wp2_with fail
        refine (ofVectors_impl (H.out.keep HB2.out)).mono ?_
        rintro r w3 ⟨rfl, hb⟩
        clear x0 x1 y0 y1
        have X3 : Hid (Box w3 w.heap.size (.slice a s.length c) (.slice b d.length f) 26) := X2.out.keep hb
        have Y3 : Hid (Box w3 (w.heap.size + 1) (.slice a' t.length c') (.slice b' e.length f') 26) := Y2.out.keep hb
        have R3 : Hid (Box w3 (w.heap.size + 1 + 1) (.slice none 0 0) (.slice none 0 0) 26) := R2.out.keep hb
        have HB3 : Hid (Below w.heap.size w w3) := bTrans HB2.out hb
        clear hb X2 Y2 R2 HB2
        by_cases h1 : s.length = 1 ∨ s.length = 2
        · rw [decide_eq_true h1]
          have x0 := X3.out.c0
          have x1 := X3.out.c1
          have y0 := Y3.out.c0
          have y1 := Y3.out.c1
          go_wp2_with fail
          refine (ofVectors_impl (K.out.keep HB3.out)).mono ?_
          rintro r w4 ⟨rfl, hb⟩
          clear x0 x1 y0 y1
          have X4 : Hid (Box w4 w.heap.size (.slice a s.length c) (.slice b d.length f) 26) := X3.out.keep hb
          have Y4 : Hid (Box w4 (w.heap.size + 1) (.slice a' t.length c') (.slice b' e.length f') 26) := Y3.out.keep hb
          have R4 : Hid (Box w4 (w.heap.size + 1 + 1) (.slice none 0 0) (.slice none 0 0) 26) := R3.out.keep hb
          have HB4 : Hid (Below w.heap.size w w4) := bTrans HB3.out hb
          clear hb X3 Y3 R3 HB3
          by_cases h2 : t.length = 1 ∨ t.length = 2
          · rw [decide_eq_true h2]
            have HL : Hid ((s.length = 1 ∨ s.length = 2) ∧ (t.length = 1 ∨ t.length = 2)) := ⟨h1, h2⟩
            obtain ⟨M, hM⟩ : ∃ M, M = s.length - 1 := ⟨_, rfl⟩
            have hMs : M < s.length := by omega
            have hw1 : IntKind.i64.wrap ((s.length : Int) - 1) = (M : Int) := by rw [show ((s.length : Int) - 1) = (M : Int) by omega]; exact wrapI (by omega) (by omega)
            have hM1 : (M : Int) < (s.length : Int) := by omega
            have hM0 : (0 : Int) ≤ (M : Int) := by omega
            have hT1 : (0 : Int) < (t.length : Int) := by omega
            obtain ⟨bX, oX, rfl, hbX, cX⟩ := H1.out.at hMs
            obtain ⟨bY, oY, rfl, hbY, cY⟩ := K1.out.at (k := 0) (by omega)
            have CXW : Hid (∀ W, Below w.heap.size w W → W.cell? ⟨bX, oX + M, none⟩ = some (.int .i64 (s.getD M 0))) := fun W hb => (hb.cell (p := ⟨bX, oX + M, none⟩) hbX).trans cX
            have CYW : Hid (∀ W, Below w.heap.size w W → W.cell? ⟨bY, oY, none⟩ = some (.int .i64 (t.getD 0 0))) := fun W hb => by rw [Nat.add_zero] at cY; exact (hb.cell (p := ⟨bY, oY, none⟩) hbY).trans cY
            clear cX cY hbX hbY
            have EM : Hid (s.getD (s.length - 1) 0 = s.getD M 0) := by show _ = _; rw [hM]
            have S1L : Hid ((s.take M).length = M) := by show _ = _; rw [List.length_take]; omega
            have S1E : Hid (innerS s t = s.take M ++ t.drop 1) := by show _ = _; unfold innerS; rw [← hM]
            have TNE : Hid (t ≠ []) := by show _ ≠ _; intro q; rw [q] at h2; simp at h2
            have SNE : Hid (s ≠ []) := by show _ ≠ _; intro q; rw [q] at h1; simp at h1
            have SL2 : Hid (s.length ≤ 2 ∧ t.length ≤ 2) := by show _ ∧ _; omega
            clear hM h1 h2
            obtain ⟨aS, cS, hrS, iS⟩ := ints_upto (M := M) H1.out GC.out (by omega)
            obtain ⟨tl, ct, hra, iT⟩ := tail_cut_ne K1.out TNE.out GC'.out
            obtain ⟨s1, hs1⟩ : ∃ s1, s1 = s.take M := ⟨_, rfl⟩
            obtain ⟨t1, ht1⟩ : ∃ t1, t1 = t.drop 1 := ⟨_, rfl⟩
            obtain ⟨SH, hSH⟩ : ∃ SH, SH = s1 ++ t1 := ⟨_, rfl⟩
            have EIS : Hid (innerS s t = SH) := by show _ = _; rw [S1E.out, hSH, hs1, ht1]
            have hrs : ∀ W, (Go.Instr.slice 24 (.slice (some ⟨bX, oX, none⟩) s.length c) none (some (.int .i64 (M : Int))) none).run Tryz.prog W = .ok (.slice aS s1.length cS) W := by
              rw [hs1, S1L.out]; exact hrS
            have IS : Hid (Ints w aS s1) := by show Ints _ _ _; rw [hs1]; exact iS
            rw [← ht1] at hra iT
            obtain ⟨tl', ct', ev, _, iT⟩ := iT
            cases ev
            have LST : Hid (s1.length + t1.length ≤ 1048576) := by
              have q := SL2.out
              show _ ≤ _
              rw [hs1, ht1, List.length_take, List.length_drop]; omega
            have HCC : Hid (∀ (W : World) (o : Nat), Below w.heap.size w W → W.heap[o]? = some (.cells #[.slice aS s1.length cS, .slice tl t1.length ct] 24 (0, 0)) → Calls Tryz.prog 21 #[.slice (some ⟨o, 0, none⟩) 2 2] W fun r w' => ∃ a' k', r = .returned (.slice a' SH.length k') ∧ NewInts W.heap.size w' (.slice a' SH.length k') SH ∧ Below W.heap.size W w') := fun W o hb ho => by
              rw [hSH]
              exact concat_impl (IS.out.keep hb) (iT.keep hb) LST.out ho
            clear hrS iS hs1 ht1 hSH
            have x0 := X4.out.c0
            have x1 := X4.out.c1
            have y0 := Y4.out.c0
            have y1 := Y4.out.c1
            go_wp2_with fail
            go_cut [11] from 48 (fun v w' => ∃ (a3 : Option Addr) (c3 : Nat), v = .slice a3 SH.length c3 ∧ NewInts w4.heap.size w' (.slice a3 SH.length c3) SH ∧ Below w4.heap.size w4 w')
            case first =>
              have SK : Hid (∀ W, Below w4.heap.size w4 W → W.cell? ⟨w.heap.size, 0, none⟩ = some (.slice (some ⟨bX, oX, none⟩) s.length c) ∧ W.cell? ⟨w.heap.size + 1, 0, none⟩ = some (.slice (some ⟨bY, oY, none⟩) t.length c')) := fun W hb => ⟨(X4.out.keep hb).c0, (Y4.out.keep hb).c0⟩
              go_region_held3 (fun w' => w'.cell? ⟨w.heap.size, 0, none⟩ = some (.slice (some ⟨bX, oX, none⟩) s.length c) ∧ w'.cell? ⟨w.heap.size + 1, 0, none⟩ = some (.slice (some ⟨bY, oY, none⟩) t.length c'))
                ((refine SK.out _ ?_; (repeat first | with_reducible exact BC.out | with_reducible exact Below.refl _ _ | with_reducible refine bAlloc ?_ _ | with_reducible refine Below.drew ?_)))
                ((go_at_call 21; refine (HCC.out _ w4.heap.size (bTrans HB4.out (by repeat first | with_reducible exact Below.refl _ _ | with_reducible refine bAlloc ?_ _ | with_reducible refine Below.drew ?_)) (by exact heap_alloc_new w4 _)).mono ?_; rintro r wC ⟨a3, c3, rfl, hn, hbb⟩; have BC : Hid (Below w4.heap.size w4 wC) := bTrans (by repeat first | with_reducible exact Below.refl _ _ | with_reducible refine bAlloc ?_ _ | with_reducible refine Below.drew ?_) hbb; have NC : Hid (NewInts w4.heap.size wC (.slice a3 SH.length c3) SH) := hn.mono (by simp); clear hn hbb))
              all_goals
                go_wp2_with fail
                go_meet
                case rel => exact ⟨a3, c3, rfl, NC.out, BC.out⟩
            obtain ⟨w6, hwc⟩ : ∃ x, x = wc := ⟨_, rfl⟩
            subst hwc
            obtain ⟨a3, c3, rfl, hn, hb⟩ := hcut
            obtain ⟨w5, hw5⟩ : ∃ x, x = w4 := ⟨_, rfl⟩
            rw [← hw5] at hn hb X4 Y4 R4 HB4
            have X5 := X4
            have Y5 := Y4
            have R5 := R4
            have HB5 := HB4
            clear X4 Y4 R4 HB4
            have N6 : Hid (NewInts w5.heap.size w6 (.slice a3 SH.length c3) SH) := hn
            have L06 : Hid (w.heap.size ≤ w5.heap.size) := HB5.out.size
            have L56 : Hid (w5.heap.size ≤ w6.heap.size) := hb.size
            have LT5 : Hid (w.heap.size + 1 + 1 < w5.heap.size) := R5.out.lt
            clear hn HCC hrs hra hw5
            clear x0 x1 y0 y1
            have X6 : Hid (Box w6 w.heap.size (.slice (some ⟨bX, oX, none⟩) s.length c) (.slice b d.length f) 26) := X5.out.keep hb
            have Y6 : Hid (Box w6 (w.heap.size + 1) (.slice (some ⟨bY, oY, none⟩) t.length c') (.slice b' e.length f') 26) := Y5.out.keep hb
            have R6 : Hid (Box w6 (w.heap.size + 1 + 1) (.slice none 0 0) (.slice none 0 0) 26) := R5.out.keep hb
            have HB6 : Hid (Below w.heap.size w w6) := bTrans HB5.out hb
            clear hb X5 Y5 R5 HB5
            have x0 := X6.out.c0
            have x1 := X6.out.c1
            have y0 := Y6.out.c0
            have y1 := Y6.out.c1
            have cX6 := CXW.out _ HB6.out
            have cY6 := CYW.out _ HB6.out
            by_cases hl : s.getD M 0 = t.getD 0 0
            · have HLE : Hid (s.getD (s.length - 1) 0 = t.getD 0 0) := by show _ = _; rw [EM.out]; exact hl
              rw [hl] at cX6
              obtain ⟨nR, n, nC, hdim⟩ := inner_dims HALL.out.1 HALL.out.2.1 HL.out.1 HL.out.2 HLE.out
              have DIM : Hid (InnerD s d t e nR n nC) := hdim
              rw [hdim.n0] at cX6 cY6
              clear hdim hl
              go_wp2_with fail
              go_quiet (fail)
              generalize hWD : w6.drewN nq = w7
              have hb : Below w6.heap.size w6 w7 := by rw [← hWD]; exact bDrewN (Below.refl _ _) nq
              have N7 : Hid (NewInts w5.heap.size w7 (.slice a3 SH.length c3) SH) := N6.out.keep hb
              have L67 : Hid (w6.heap.size ≤ w7.heap.size) := hb.size
              clear hWD cX6 cY6 N6
              clear x0 x1 y0 y1
              have X7 : Hid (Box w7 w.heap.size (.slice (some ⟨bX, oX, none⟩) s.length c) (.slice b d.length f) 26) := X6.out.keep hb
              have Y7 : Hid (Box w7 (w.heap.size + 1) (.slice (some ⟨bY, oY, none⟩) t.length c') (.slice b' e.length f') 26) := Y6.out.keep hb
              have R7 : Hid (Box w7 (w.heap.size + 1 + 1) (.slice none 0 0) (.slice none 0 0) 26) := R6.out.keep hb
              have HB7 : Hid (Below w.heap.size w w7) := bTrans HB6.out hb
              clear hb X6 Y6 R6 HB6
              obtain ⟨_, _, ev, i7⟩ := N7.out.ints
              cases ev
              have HSO : Hid (Calls Tryz.prog 22 #[.slice a3 SH.length c3] w7 fun r w' => r = .returned (.bool (decide (0 ≤ sizeV SH))) ∧ Below w7.heap.size w7 w') := ok_impl c3 i7
              clear i7
              go_wp2_with fail
              refine (HSO.out).mono ?_
              rintro r w8 ⟨rfl, hb⟩
              have P8 : Hid (Piece w5.heap.size w7.heap.size w8 (.slice a3 SH.length c3) SH) := N7.out.piece.keep hb
              have L78 : Hid (w7.heap.size ≤ w8.heap.size) := hb.size
              clear HSO N7
              have X8 : Hid (Box w8 w.heap.size (.slice (some ⟨bX, oX, none⟩) s.length c) (.slice b d.length f) 26) := X7.out.keep hb
              have Y8 : Hid (Box w8 (w.heap.size + 1) (.slice (some ⟨bY, oY, none⟩) t.length c') (.slice b' e.length f') 26) := Y7.out.keep hb
              have R8 : Hid (Box w8 (w.heap.size + 1 + 1) (.slice none 0 0) (.slice none 0 0) 26) := R7.out.keep hb
              have HB8 : Hid (Below w.heap.size w w8) := bTrans HB7.out hb
              clear hb X7 Y7 R7 HB7
              rw [EIS.out] at E0 E6
              by_cases hz : 0 ≤ sizeV SH
              · rw [decide_eq_true hz]
                have E0' := E0.out HALL.out HL.out HLE.out hz
                obtain ⟨NN, hNN⟩ : ∃ NN, NN = nR * nC := ⟨_, rfl⟩
                have hsz : sizeV SH = (NN : Int) := by have q := DIM.out.size (by rw [EIS.out]; exact hz); rw [EIS.out, ← hNN] at q; exact q
                have hN3 : NN ≤ 300 := by have := DIM.out.count (by rw [EIS.out]; exact hz); omega
                rw [hsz, show ((NN : Int)).toNat = NN from rfl] at E0'
                obtain ⟨Q, hQ⟩ : ∃ Q : Nat → Int × Int, Q = fun k => innerK F G d t e k := ⟨_, rfl⟩
                have HQ : Hid (∀ k, Q k = cellR F G (rowV d n (k / nC)) (colV e n nC (k % nC)) n) := fun k => by rw [hQ]; exact DIM.out.at_ F G k
                have hst := inner_strung (N := NN) (c := Q) SH
                obtain ⟨FC, hFC⟩ : ∃ FC, FC = firstC (fun k => (Q k).2) NN := ⟨_, rfl⟩
                obtain ⟨FD, hFD⟩ : ∃ FD, FD = (List.range NN).flatMap (fun k => if (Q k).2 = 0 then [(Q k).1] else []) := ⟨_, rfl⟩
                rw [← hFC, ← hFD] at hst
                have EF : Hid (x = FC ∧ (mkR FC SH FD).2.1 = S ∧ (mkR FC SH FD).2.2 = D) := by
                  have e1 := E0'.1
                  have e2 := E0'.2
                  show _ ∧ _ ∧ _
                  rw [hst]
                  by_cases q : FC = 0
                  · obtain ⟨r1, r2, r3⟩ := e1 (by rw [← q, hFC, hQ])
                    rw [q, mkR_good]
                    exact ⟨r1, r2, by rw [r3, hQ]⟩
                  · obtain ⟨r1, r2, r3⟩ := e2 FC q (by rw [hFC, hQ])
                    rw [mkR_bad q]
                    exact ⟨r1, r2.symm, r3.symm⟩
                have nR3 : Hid (nR ≤ 300 ∧ nC ≤ 300) := ⟨DIM.out.2.2.2.2.1, DIM.out.2.2.2.2.2.2⟩
                obtain ⟨TR, hTR⟩ : ∃ TR, TR = t.reverse := ⟨_, rfl⟩
                obtain ⟨ED, hED⟩ : ∃ ED, ED = flipD t e := ⟨_, rfl⟩
                obtain ⟨FX, hFX⟩ : ∃ FX, FX = vecsF s d := ⟨_, rfl⟩
                obtain ⟨FY, hFY⟩ : ∃ FY, FY = vecsF TR ED := ⟨_, rfl⟩
                have VR := vecs_row DIM.out HALL.out.1
                have VC := vecs_col DIM.out HALL.out.2.1
                rw [← hTR, ← hED, ← hFY] at VC
                rw [← hFX] at VR
                have VRR : Hid (∀ i, i < nR → FX.getD (2 * i) [] = [(n : Int)] ∧ FX.getD (2 * i + 1) [] = rowV d n i ∧ arrOk [(n : Int)] (rowV d n i) = true) := VR.2
                have VCC : Hid (∀ j, j < nC → FY.getD (2 * j) [] = [(n : Int)] ∧ FY.getD (2 * j + 1) [] = colV e n nC j ∧ arrOk [(n : Int)] (colV e n nC j) = true) := VC.2
                have OKF : Hid (arrOk TR ED = true) := by show _ = _; rw [hTR, hED]; exact (flip_ok HALL.out.2.1).1
                have TRN : Hid (TR ≠ []) := by show _ ≠ _; rw [hTR]; intro q; exact TNE.out (by simpa using q)
                have HFL : Hid (∀ W, Below w.heap.size w W → Calls Tryz.prog 23 #[.agg #[.slice (some ⟨bY, oY, none⟩) t.length c', .slice b' e.length f']] W fun r w' => ∃ fa fc fb ff, r = .returned (.tuple #[.agg #[.slice fa TR.length fc, .slice fb ED.length ff], .int .i64 0]) ∧ ArrI w' (.agg #[.slice fa TR.length fc, .slice fb ED.length ff]) TR ED ∧ Below W.heap.size W w') := fun W hb => by
                  have q := flip_impl (K.out.keep hb) HTE.out.1 HTE.out.2
                  rw [show flipR t e = (0, TR, ED) from by rw [hTR, hED]; unfold flipR okC; rw [if_pos HALL.out.2.1]; rfl] at q
                  refine q.mono ?_
                  rintro r w' ⟨v', rfl, ha, hb'⟩
                  have hI := ha.arrI
                  obtain ⟨fa, fc, fb, ff, rfl, _, _, _, _⟩ := ha.arrI
                  exact ⟨fa, fc, fb, ff, rfl, hI, hb'⟩
                have HV1 : Hid (∀ W, Below w.heap.size w W → Calls Tryz.prog 24 #[.agg #[.slice (some ⟨bX, oX, none⟩) s.length c, .slice b d.length f]] W fun r w' => ∃ x k, r = .returned (.slice x nR k) ∧ ArrsI w' (.slice x nR k) FX ∧ Below W.heap.size W w') := fun W hb => by
                  refine (vectorsOf_impl (H.out.keep hb) HALL.out.1 SNE.out).mono ?_
                  rintro r w' ⟨v', rfl, ha, hb'⟩
                  rw [← hFX] at ha
                  obtain ⟨x, k, rfl⟩ := vecs_n ha VR.1
                  exact ⟨x, k, rfl, ha, hb'⟩
                have HV2 : Hid (∀ (W : World) (fa fb : Option Addr) (fc ff : Nat), ArrI W (.agg #[.slice fa TR.length fc, .slice fb ED.length ff]) TR ED → Calls Tryz.prog 24 #[.agg #[.slice fa TR.length fc, .slice fb ED.length ff]] W fun r w' => ∃ x k, r = .returned (.slice x nC k) ∧ ArrsI w' (.slice x nC k) FY ∧ Below W.heap.size W w') := fun W fa fb fc ff hA => by
                  refine (vectorsOf_impl hA OKF.out TRN.out).mono ?_
                  rintro r w' ⟨v', rfl, ha, hb'⟩
                  rw [← hFY] at ha
                  obtain ⟨x, k, rfl⟩ := vecs_n ha VC.1
                  exact ⟨x, k, rfl, ha, hb'⟩
                have HG9 : Hid (sign2 G = true) := HALL.out.2.2.2
                have HNN : Hid (NN = nR * nC) := hNN
                have HST : Hid (∀ (W : World) (p1 g7 g8 p q o B E : Nat) (a3 xa ya : Option Addr) (c3 xc yc : Nat), Below w.heap.size w W → W.cell? ⟨p1, 0, none⟩ = some (.func (.func 57) #[] #[.pointer (some ⟨p, 0, none⟩), .pointer (some ⟨q, 0, none⟩)]) → p1 < W.heap.size → MetAt W F G p q o → VecsAt w W g7 g8 (.slice xa nR xc) (.slice ya nC yc) FX FY → Piece B E W (.slice a3 SH.length c3) SH → B ≤ W.heap.size → E ≤ W.heap.size →
                    Calls Tryz.prog 26 #[.slice a3 SH.length c3, .int .i64 (NN : Int), .func (.func 27) #[] #[.pointer (some ⟨p1, 0, none⟩), .pointer (some ⟨g7, 0, none⟩), .pointer (some ⟨g8, 0, none⟩)]] W fun r w' => ∃ v', r = .returned (.tuple #[v', .int .i64 x]) ∧ Arr B w'.heap.size w' v' S D ∧ Below W.heap.size W w') := fun W p1 g7 g8 p q o B E a3 xa ya c3 xc yc hb hp lp hm hv hS hB hE => by
                  have key := strung3_impl (n := NN) (C := fun k => (Q k).2) (T := fun _ => []) (D := fun k => if (Q k).2 = 0 then [(Q k).1] else []) (f := 27) (p := .pointer (some ⟨p1, 0, none⟩)) (q := .pointer (some ⟨g7, 0, none⟩)) (p9 := .pointer (some ⟨g8, 0, none⟩)) (enters_of Tryz.func27 (by kernel_rfl) rfl) hS hB hE (by omega) (by omega) (fun k hk => Nat.le_trans (flat_one Q k) (by omega)) (fun W' k hk hb' => by
                    have hk' : k < nR * nC := by rw [← hNN]; exact hk
                    have h1 := DIM.out.row_lt hk'
                    have h2 := DIM.out.wide_pos hk'
                    have h3 := Nat.mod_lt k h2
                    obtain ⟨v1, v2, v3⟩ := VRR.out _ h1
                    obtain ⟨u1, u2, u3⟩ := VCC.out _ h3
                    have := inner1_impl (f := F) (g := G) (n := (n : Int)) (x := rowV d n (k / nC)) (y := colV e n nC (k % nC)) (hv.2.2.1.keep hb') (hv.2.2.2.1.keep hb') ((hb'.cell (p := ⟨p1, 0, none⟩) lp).trans hp) ((hv.1.keep hb').c0) ((hv.2.1.keep hb').c0) (Nat.lt_of_lt_of_le lp hb'.size) ((hv.1.keep hb').lt) ((hv.2.1.keep hb').lt) (hm.keep hb') HG9.out (neu_right F) h2 h1 (by omega) ⟨v1, v2⟩ ⟨u1, u2⟩ v3 u3 (by have := nR3.out; omega)
                    have e9 : ((n : Nat) : Int).toNat = n := rfl
                    rw [e9] at this
                    unfold cellL at this
                    rw [← HQ.out k] at this
                    exact this)
                  rw [← hFC, ← hFD] at key
                  obtain ⟨rfl, eS, eD⟩ := EF.out
                  rw [eS, eD] at key
                  exact key
                have hmul : (nR : Int) * (nC : Int) = (NN : Int) := by rw [hNN]; exact (Int.natCast_mul nR nC).symm
                have hwN : IntKind.i64.wrap (NN : Int) = (NN : Int) := wrapI (by omega) (by omega)
                clear E0 E1 E3 E4 E6 E0' hNN hsz hst hFC hFD EF hTR hED hFX hFY hQ VR VC hz HNN
                have x0 := X8.out.c0
                have x1 := X8.out.c1
                have y0 := Y8.out.c0
                have y1 := Y8.out.c1
                go_wp2_with fail
                refine (HFL.out _ HB8.out).mono ?_
                rintro r wF ⟨fa, fc, fb, ff, rfl, ha, hb⟩
                have AF : Hid (ArrI wF (.agg #[.slice fa TR.length fc, .slice fb ED.length ff]) TR ED) := ha
                have PF : Hid (Piece w5.heap.size w7.heap.size wF (.slice a3 SH.length c3) SH) := P8.out.keep hb
                have L8F : Hid (w8.heap.size ≤ wF.heap.size) := hb.size
                have hbF : Below w8.heap.size w8 wF := hb
                clear ha hb P8 HFL
                clear x0 x1 y0 y1
                have XF : Hid (Box wF w.heap.size (.slice (some ⟨bX, oX, none⟩) s.length c) (.slice b d.length f) 26) := X8.out.keep hbF
                have YF : Hid (Box wF (w.heap.size + 1) (.slice (some ⟨bY, oY, none⟩) t.length c') (.slice b' e.length f') 26) := Y8.out.keep hbF
                have RF : Hid (Box wF (w.heap.size + 1 + 1) (.slice none 0 0) (.slice none 0 0) 26) := R8.out.keep hbF
                have HBF : Hid (Below w.heap.size w wF) := bTrans HB8.out hbF
                clear hbF X8 Y8 R8 HB8
                go_wp2_with fail
                generalize hW9 : wF.alloc (.cells #[.slice fa TR.length fc, .slice fb ED.length ff] 26) = w9
                have hb9 : Below wF.heap.size wF w9 := by rw [← hW9]; exact bAlloc (Below.refl _ _) _
                have F9 : Hid (Box w9 wF.heap.size (.slice fa TR.length fc) (.slice fb ED.length ff) 26) := by rw [← hW9]; exact box_new wF _ _ _
                have A9 : Hid (∀ W, Below w9.heap.size w9 W → ArrI W (.agg #[.slice fa TR.length fc, .slice fb ED.length ff]) TR ED) := fun W hb => (AF.out.keep hb9).keep hb
                have P9 : Hid (Piece w5.heap.size w7.heap.size w9 (.slice a3 SH.length c3) SH) := PF.out.keep hb9
                have LF9 : Hid (w8.heap.size ≤ wF.heap.size ∧ wF.heap.size < w9.heap.size) := ⟨L8F.out, F9.out.lt⟩
                clear hW9 AF PF L8F
                have X9 : Hid (Box w9 w.heap.size (.slice (some ⟨bX, oX, none⟩) s.length c) (.slice b d.length f) 26) := XF.out.keep hb9
                have Y9 : Hid (Box w9 (w.heap.size + 1) (.slice (some ⟨bY, oY, none⟩) t.length c') (.slice b' e.length f') 26) := YF.out.keep hb9
                have R9 : Hid (Box w9 (w.heap.size + 1 + 1) (.slice none 0 0) (.slice none 0 0) 26) := RF.out.keep hb9
                have HB9 : Hid (Below w.heap.size w w9) := bTrans HBF.out hb9
                clear hb9 XF YF RF HBF
                obtain ⟨qF, hqF⟩ : ∃ qF, qF = wF.heap.size := ⟨_, rfl⟩
                have LQF : Hid (w.heap.size + 1 + 1 < qF) := by
                  have h1 := LT5.out
                  have h2 := L56.out
                  have h3 := L67.out
                  have h4 := L78.out
                  have h5 := LF9.out.1
                  show _ < _
                  omega
                have L09 : Hid (w5.heap.size ≤ w9.heap.size ∧ w7.heap.size ≤ w9.heap.size) := by
                  have h2 := L56.out
                  have h3 := L67.out
                  have h4 := L78.out
                  have h5 := LF9.out
                  show _ ∧ _
                  omega
                rw [← hqF] at F9 ⊢
                clear hqF LF9
                have x0 := X9.out.c0
                have x1 := X9.out.c1
                have z0 := F9.out.c0
                have z1 := F9.out.c1
                have hqlt : qF < w9.heap.size := F9.out.lt
                go_wp2_with fail
                go_cut [14, 15] from 79 (fun p q w' => ∃ (g7 g8 : Nat) (xa : Option Addr) (xc : Nat) (ya : Option Addr) (yc : Nat), p = .pointer (some ⟨g7, 0, none⟩) ∧ q = .pointer (some ⟨g8, 0, none⟩) ∧ VecsAt w9 w' g7 g8 (.slice xa nR xc) (.slice ya nC yc) FX FY)
                case first =>
                  have L2 := LQF.out
                  go_region_held3 (fun w' => w'.cell? ⟨w.heap.size, 0, none⟩ = some (.slice (some ⟨bX, oX, none⟩) s.length c) ∧ w'.cell? ⟨w.heap.size, 1, none⟩ = some (.slice b d.length f) ∧ w'.cell? ⟨qF, 0, none⟩ = some (.slice fa TR.length fc) ∧ w'.cell? ⟨qF, 1, none⟩ = some (.slice fb ED.length ff))
                    ((refine ⟨(show Box _ w.heap.size (.slice (some ⟨bX, oX, none⟩) s.length c) (.slice b d.length f) 26 from ?_).c0, (show Box _ w.heap.size (.slice (some ⟨bX, oX, none⟩) s.length c) (.slice b d.length f) 26 from ?_).c1, (show Box _ qF (.slice fa TR.length fc) (.slice fb ED.length ff) 26 from ?_).c0, (show Box _ qF (.slice fa TR.length fc) (.slice fb ED.length ff) 26 from ?_).c1⟩ <;> (repeat first | with_reducible exact XBV.out | with_reducible exact YBV.out | with_reducible exact XBU.out | with_reducible exact YBU.out | with_reducible exact X9.out | with_reducible exact F9.out | with_reducible refine Box.keep ?_ ((Below.refl _ _).drew) | with_reducible refine Box.keep ?_ (bAlloc (Below.refl _ _) _) | with_reducible refine Box.win ?_ (win_setCell _ _ _ _) (.inl (by (try simp); omega)))))
                    (first
                      | (go_at_call_of 24 (Value.agg #[.slice (some ⟨bX, oX, none⟩) s.length c, .slice b d.length f]); refine (HV1.out _ (bTrans HB9.out (by repeat first | with_reducible exact HRV.out | with_reducible exact HRU.out | with_reducible exact (Below.refl _ _).drew | with_reducible exact Below.refl _ _ | with_reducible refine bAlloc ?_ _ | with_reducible refine Below.drew ?_))).mono ?_; rintro r wU ⟨xa, xc, rfl, h4, hb⟩; have HRU : Hid (Below w9.heap.size w9 wU) := bTrans (by repeat first | with_reducible exact HRV.out | with_reducible exact HRU.out | with_reducible exact (Below.refl _ _).drew | with_reducible exact Below.refl _ _ | with_reducible refine bAlloc ?_ _ | with_reducible refine Below.drew ?_) hb; have IU : Hid (ArrsI wU (.slice xa nR xc) FX) := h4; have sU : w9.heap.size ≤ wU.heap.size := HRU.out.size; have XBU : Hid (Box wU w.heap.size (.slice (some ⟨bX, oX, none⟩) s.length c) (.slice b d.length f) 26) := X9.out.keep HRU.out; have YBU : Hid (Box wU qF (.slice fa TR.length fc) (.slice fb ED.length ff) 26) := F9.out.keep HRU.out; (try have p0 : Hid (One wU w9.heap.size (.slice none 0 0)) := One.keep (W := World.drew (World.alloc w9 (.cells #[.slice none 0 0] 48))) (One.new w9 _) hb); (try have p0 : Hid (One wU w9.heap.size (.slice none 0 0)) := One.keep (W := World.drew (World.alloc (World.alloc w9 (.cells #[.slice none 0 0] 48)) (.cells #[.slice none 0 0] 48))) (one_old2 w9 _ _) hb); (try have p1 : Hid (One wU (w9.heap.size + 1) (.slice none 0 0)) := One.keep (W := World.drew (World.alloc (World.alloc w9 (.cells #[.slice none 0 0] 48)) (.cells #[.slice none 0 0] 48))) (one_new2 w9 _ _) hb); clear h4 hb)
                      | (go_at_call_of 24 (Value.agg #[.slice fa TR.length fc, .slice fb ED.length ff]); refine (HV2.out _ _ _ _ _ (A9.out _ (by repeat first | with_reducible exact HRV.out | with_reducible exact HRU.out | with_reducible exact (Below.refl _ _).drew | with_reducible exact Below.refl _ _ | with_reducible refine bAlloc ?_ _ | with_reducible refine Below.drew ?_))).mono ?_; rintro r wV ⟨ya, yc, rfl, h5, hb⟩; have HRV : Hid (Below w9.heap.size w9 wV) := bTrans (by repeat first | with_reducible exact HRV.out | with_reducible exact HRU.out | with_reducible exact (Below.refl _ _).drew | with_reducible exact Below.refl _ _ | with_reducible refine bAlloc ?_ _ | with_reducible refine Below.drew ?_) hb; have HUV : Hid (Below wU.heap.size wU wV) := bTrans (by repeat first | exact Below.refl _ _ | refine bAlloc ?_ _) hb; have IV : Hid (ArrsI wV (.slice ya nC yc) FY) := h5; have IU' : Hid (ArrsI wV (.slice xa nR xc) FX) := IU.out.keep HUV.out; have sV : wU.heap.size ≤ wV.heap.size := HUV.out.size; have XBV : Hid (Box wV w.heap.size (.slice (some ⟨bX, oX, none⟩) s.length c) (.slice b d.length f) 26) := X9.out.keep HRV.out; have YBV : Hid (Box wV qF (.slice fa TR.length fc) (.slice fb ED.length ff) 26) := F9.out.keep HRV.out; (try have P0 : Hid (One wV w9.heap.size (.slice none 0 0)) := p0.out.keep HUV.out); (try have P1 : Hid (One wV (w9.heap.size + 1) (.slice none 0 0)) := p1.out.keep HUV.out); (try have Q0 : Hid (One wV wU.heap.size (.slice none 0 0)) := One.keep (W := World.alloc wU (.cells #[.slice none 0 0] 48)) (One.new wU _) hb); (try have Q0 : Hid (One wV wU.heap.size (.slice none 0 0)) := One.keep (W := World.alloc (World.alloc wU (.cells #[.slice none 0 0] 48)) (.cells #[.slice none 0 0] 48)) (one_old2 wU _ _) hb); (try have Q1 : Hid (One wV (wU.heap.size + 1) (.slice none 0 0)) := One.keep (W := World.alloc (World.alloc wU (.cells #[.slice none 0 0] 48)) (.cells #[.slice none 0 0] 48)) (one_new2 wU _ _) hb); (try have e4 := p0.out.lt); (try have e5 := p1.out.lt); (try have P0c0 := P0.out.c0); (try have P0d0 := (fun O : Obj => (P0.out.keep (bAlloc (Below.refl _ _) O)).c0)); (try have P0f0 : wV.frozen? ⟨w9.heap.size, 0, none⟩ = false := P0.out.free); (try have P0g0 : ∀ O : Obj, (wV.alloc O).frozen? ⟨w9.heap.size, 0, none⟩ = false := fun O => (P0.out.keep (bAlloc (Below.refl _ _) O)).free); (try have P0l := P0.out.lt); (try have P1c0 := P1.out.c0); (try have P1d0 := (fun O : Obj => (P1.out.keep (bAlloc (Below.refl _ _) O)).c0)); (try have P1f0 : wV.frozen? ⟨w9.heap.size + 1, 0, none⟩ = false := P1.out.free); (try have P1g0 : ∀ O : Obj, (wV.alloc O).frozen? ⟨w9.heap.size + 1, 0, none⟩ = false := fun O => (P1.out.keep (bAlloc (Below.refl _ _) O)).free); (try have P1l := P1.out.lt); (try have Q0c0 := Q0.out.c0); (try have Q0d0 := (fun O : Obj => (Q0.out.keep (bAlloc (Below.refl _ _) O)).c0)); (try have Q0f0 : wV.frozen? ⟨wU.heap.size, 0, none⟩ = false := Q0.out.free); (try have Q0g0 : ∀ O : Obj, (wV.alloc O).frozen? ⟨wU.heap.size, 0, none⟩ = false := fun O => (Q0.out.keep (bAlloc (Below.refl _ _) O)).free); (try have Q0l := Q0.out.lt); (try have Q1c0 := Q1.out.c0); (try have Q1d0 := (fun O : Obj => (Q1.out.keep (bAlloc (Below.refl _ _) O)).c0)); (try have Q1f0 : wV.frozen? ⟨wU.heap.size + 1, 0, none⟩ = false := Q1.out.free); (try have Q1g0 : ∀ O : Obj, (wV.alloc O).frozen? ⟨wU.heap.size + 1, 0, none⟩ = false := fun O => (Q1.out.keep (bAlloc (Below.refl _ _) O)).free); (try have Q1l := Q1.out.lt); clear h5 hb))
                  all_goals
                    go_wp2_with fail
                    go_meet
                    case rel =>
                      first
                        | (refine ⟨w9.heap.size, (w9.heap.size + 1), xa, xc, ya, yc, by with_reducible rfl, by with_reducible rfl, ?_⟩; have qq := put_two (w := w9) (V := wV) (q := w9.heap.size) (p := (w9.heap.size + 1)) HRV.out (by omega) (by omega) (by omega) P0.out P1.out ⟨_, _, _, rfl⟩ ⟨_, _, _, rfl⟩ IU'.out IV.out; with_reducible exact qq)
                        | (refine ⟨w9.heap.size, (w9.heap.size + 1), xa, xc, ya, yc, by with_reducible rfl, by with_reducible rfl, ?_⟩; have qq := (put_two (w := w9) (V := wV) (q := (w9.heap.size + 1)) (p := w9.heap.size) HRV.out (by omega) (by omega) (by omega) P1.out P0.out ⟨_, _, _, rfl⟩ ⟨_, _, _, rfl⟩ IV.out IU'.out).swap; with_reducible exact qq)
                        | (refine ⟨(w9.heap.size + 1), w9.heap.size, xa, xc, ya, yc, by with_reducible rfl, by with_reducible rfl, ?_⟩; have qq := put_two (w := w9) (V := wV) (q := (w9.heap.size + 1)) (p := w9.heap.size) HRV.out (by omega) (by omega) (by omega) P1.out P0.out ⟨_, _, _, rfl⟩ ⟨_, _, _, rfl⟩ IU'.out IV.out; with_reducible exact qq)
                        | (refine ⟨(w9.heap.size + 1), w9.heap.size, xa, xc, ya, yc, by with_reducible rfl, by with_reducible rfl, ?_⟩; have qq := (put_two (w := w9) (V := wV) (q := w9.heap.size) (p := (w9.heap.size + 1)) HRV.out (by omega) (by omega) (by omega) P0.out P1.out ⟨_, _, _, rfl⟩ ⟨_, _, _, rfl⟩ IV.out IU'.out).swap; with_reducible exact qq)
                        | (refine ⟨w9.heap.size, wU.heap.size, xa, xc, ya, yc, by with_reducible rfl, by with_reducible rfl, ?_⟩; have qq := put_two (w := w9) (V := wV) (q := w9.heap.size) (p := wU.heap.size) HRV.out (by omega) (by omega) (by omega) P0.out Q0.out ⟨_, _, _, rfl⟩ ⟨_, _, _, rfl⟩ IU'.out IV.out; with_reducible exact qq)
                        | (refine ⟨w9.heap.size, wU.heap.size, xa, xc, ya, yc, by with_reducible rfl, by with_reducible rfl, ?_⟩; have qq := (put_two (w := w9) (V := wV) (q := wU.heap.size) (p := w9.heap.size) HRV.out (by omega) (by omega) (by omega) Q0.out P0.out ⟨_, _, _, rfl⟩ ⟨_, _, _, rfl⟩ IV.out IU'.out).swap; with_reducible exact qq)
                        | (refine ⟨w9.heap.size, wV.heap.size, xa, xc, ya, yc, by with_reducible rfl, by with_reducible rfl, ?_⟩; have qq := put_lay (w := w9) (V := wV) (q := w9.heap.size) HRV.out (by omega) P0.out ⟨_, _, _, rfl⟩ IU'.out IV.out; with_reducible exact qq)
                        | (refine ⟨wU.heap.size, w9.heap.size, xa, xc, ya, yc, by with_reducible rfl, by with_reducible rfl, ?_⟩; have qq := put_two (w := w9) (V := wV) (q := wU.heap.size) (p := w9.heap.size) HRV.out (by omega) (by omega) (by omega) Q0.out P0.out ⟨_, _, _, rfl⟩ ⟨_, _, _, rfl⟩ IU'.out IV.out; with_reducible exact qq)
                        | (refine ⟨wU.heap.size, w9.heap.size, xa, xc, ya, yc, by with_reducible rfl, by with_reducible rfl, ?_⟩; have qq := (put_two (w := w9) (V := wV) (q := w9.heap.size) (p := wU.heap.size) HRV.out (by omega) (by omega) (by omega) P0.out Q0.out ⟨_, _, _, rfl⟩ ⟨_, _, _, rfl⟩ IV.out IU'.out).swap; with_reducible exact qq)
                        | (refine ⟨wU.heap.size, (wU.heap.size + 1), xa, xc, ya, yc, by with_reducible rfl, by with_reducible rfl, ?_⟩; have qq := put_two (w := w9) (V := wV) (q := wU.heap.size) (p := (wU.heap.size + 1)) HRV.out (by omega) (by omega) (by omega) Q0.out Q1.out ⟨_, _, _, rfl⟩ ⟨_, _, _, rfl⟩ IU'.out IV.out; with_reducible exact qq)
                        | (refine ⟨wU.heap.size, (wU.heap.size + 1), xa, xc, ya, yc, by with_reducible rfl, by with_reducible rfl, ?_⟩; have qq := (put_two (w := w9) (V := wV) (q := (wU.heap.size + 1)) (p := wU.heap.size) HRV.out (by omega) (by omega) (by omega) Q1.out Q0.out ⟨_, _, _, rfl⟩ ⟨_, _, _, rfl⟩ IV.out IU'.out).swap; with_reducible exact qq)
                        | (refine ⟨(wU.heap.size + 1), wU.heap.size, xa, xc, ya, yc, by with_reducible rfl, by with_reducible rfl, ?_⟩; have qq := put_two (w := w9) (V := wV) (q := (wU.heap.size + 1)) (p := wU.heap.size) HRV.out (by omega) (by omega) (by omega) Q1.out Q0.out ⟨_, _, _, rfl⟩ ⟨_, _, _, rfl⟩ IU'.out IV.out; with_reducible exact qq)
                        | (refine ⟨(wU.heap.size + 1), wU.heap.size, xa, xc, ya, yc, by with_reducible rfl, by with_reducible rfl, ?_⟩; have qq := (put_two (w := w9) (V := wV) (q := wU.heap.size) (p := (wU.heap.size + 1)) HRV.out (by omega) (by omega) (by omega) Q0.out Q1.out ⟨_, _, _, rfl⟩ ⟨_, _, _, rfl⟩ IV.out IU'.out).swap; with_reducible exact qq)
                        | (refine ⟨wU.heap.size, wV.heap.size, xa, xc, ya, yc, by with_reducible rfl, by with_reducible rfl, ?_⟩; have qq := put_lay (w := w9) (V := wV) (q := wU.heap.size) HRV.out (by omega) Q0.out ⟨_, _, _, rfl⟩ IU'.out IV.out; with_reducible exact qq)
                        | (refine ⟨wV.heap.size, w9.heap.size, xa, xc, ya, yc, by with_reducible rfl, by with_reducible rfl, ?_⟩; have qq := (put_lay (w := w9) (V := wV) (q := w9.heap.size) HRV.out (by omega) P0.out ⟨_, _, _, rfl⟩ IV.out IU'.out).swap; with_reducible exact qq)
                        | (refine ⟨wV.heap.size, wU.heap.size, xa, xc, ya, yc, by with_reducible rfl, by with_reducible rfl, ?_⟩; have qq := (put_lay (w := w9) (V := wV) (q := wU.heap.size) HRV.out (by omega) Q0.out ⟨_, _, _, rfl⟩ IV.out IU'.out).swap; with_reducible exact qq)
                        | (refine ⟨wV.heap.size, (wV.heap.size + 1), xa, xc, ya, yc, by with_reducible rfl, by with_reducible rfl, ?_⟩; have qq := lay_two (w := w9) (V := wV) HRV.out IU'.out IV.out; with_reducible exact qq)
                        | (refine ⟨(wV.heap.size + 1), wV.heap.size, xa, xc, ya, yc, by with_reducible rfl, by with_reducible rfl, ?_⟩; have qq := (lay_two (w := w9) (V := wV) HRV.out IV.out IU'.out).swap; with_reducible exact qq)
                obtain ⟨w10, hwc⟩ : ∃ x, x = wc := ⟨_, rfl⟩
                subst hwc
                obtain ⟨g7, g8, xa, xc, ya, yc, rfl, rfl, hv⟩ := hcut
                have hb : Below w9.heap.size w9 w10 := hv.2.2.2.2
                have V10 : Hid (VecsAt w9 w10 g7 g8 (.slice xa nR xc) (.slice ya nC yc) FX FY) := hv
                have P10 : Hid (Piece w5.heap.size w7.heap.size w10 (.slice a3 SH.length c3) SH) := P9.out.keep hb
                have R10 : Hid (Box w10 (w.heap.size + 1 + 1) (.slice none 0 0) (.slice none 0 0) 26) := R9.out.keep hb
                have HB10 : Hid (Below w.heap.size w w10) := bTrans HB9.out hb
                have L010 : Hid (w9.heap.size ≤ w10.heap.size) := hb.size
                clear hv hb P9 R9 HB9 X9 Y9 F9 A9 HV1 HV2 x0 x1 z0 z1 hqlt
                go_wp2_with fail
                refine (meeting_impl F G _).mono ?_
                rintro r w11 ⟨p, q, o, rfl, hm, hb⟩
                have M11 : Hid (MetAt w11 F G p q o) := hm
                have P11 : Hid (Piece w5.heap.size w7.heap.size w11 (.slice a3 SH.length c3) SH) := P10.out.keep hb
                have R11 : Hid (Box w11 (w.heap.size + 1 + 1) (.slice none 0 0) (.slice none 0 0) 26) := R10.out.keep hb
                have HB11 : Hid (Below w.heap.size w w11) := bTrans HB10.out hb
                have V11 : Hid (VecsAt w w11 g7 g8 (.slice xa nR xc) (.slice ya nC yc) FX FY) := ⟨V10.out.1.keep hb, V10.out.2.1.keep hb, V10.out.2.2.1.keep hb, V10.out.2.2.2.1.keep hb, HB11.out⟩
                have L1011 : Hid (w10.heap.size ≤ w11.heap.size) := hb.size
                clear hm hb P10 R10 HB10 V10
                have BA : Hid (∀ O, Below w11.heap.size w11 (w11.alloc O)) := fun O => bAlloc (Below.refl _ _) O
                have t7 : ∀ O, (w11.alloc O).cell? ⟨g7, 0, none⟩ = some (.slice xa nR xc) := fun O => (V11.out.1.keep (BA.out O)).c0
                have t8 : ∀ O, (w11.alloc O).cell? ⟨g8, 0, none⟩ = some (.slice ya nC yc) := fun O => (V11.out.2.1.keep (BA.out O)).c0
                have VA : Hid (∀ O, VecsAt w (w11.alloc O) g7 g8 (.slice xa nR xc) (.slice ya nC yc) FX FY) := fun O => ⟨V11.out.1.keep (BA.out O), V11.out.2.1.keep (BA.out O), V11.out.2.2.1.keep (BA.out O), V11.out.2.2.2.1.keep (BA.out O), bTrans HB11.out (BA.out O)⟩
                go_wp2_with fail
                refine (HST.out _ w11.heap.size g7 g8 p q o w5.heap.size w7.heap.size a3 xa ya c3 xc yc (bTrans HB11.out (BA.out _)) (by exact cell_at (heap_alloc_new w11 _) rfl) (by simp) (M11.out.keep (BA.out _)) (VA.out _) (P11.out.keep (BA.out _)) (by have := L09.out; have := L010.out; have := L1011.out; simp; omega) (by have := L09.out; have := L010.out; have := L1011.out; simp; omega)).mono ?_
                rintro r w12 ⟨v12, rfl, ha, hbb⟩
                obtain ⟨a7, k7, b7, f7, rfl, _, _, _, _⟩ := ha.arrI
                have hb : Below w11.heap.size w11 w12 := bTrans (BA.out _) hbb
                have HA : Hid (Arr w5.heap.size w12.heap.size w12 (.agg #[.slice a7 S.length k7, .slice b7 D.length f7]) S D) := ha
                have RR : Hid (Box w12 (w.heap.size + 1 + 1) (.slice none 0 0) (.slice none 0 0) 26) := R11.out.keep hb
                have HB12 : Hid (Below w.heap.size w w12) := bTrans HB11.out hb
                clear ha hb hbb HST V11 VA M11 P11 R11 HB11 BA t7 t8
                have r0 := RR.out.c0
                have r1 := RR.out.c1
                have f0 : w12.frozen? ⟨w.heap.size + 1 + 1, 0, none⟩ = false := free_at RR.out 0
                have f1 : w12.frozen? ⟨w.heap.size + 1 + 1, 1, none⟩ = false := free_at RR.out 1
                have HR : Hid (((w12.setCell ⟨w.heap.size + 1 + 1, 0, none⟩ (.slice a7 S.length k7)).setCell ⟨w.heap.size + 1 + 1, 1, none⟩ (.slice b7 D.length f7)).heap[w.heap.size + 1 + 1]? = some (.cells #[.slice a7 S.length k7, .slice b7 D.length f7] 26 (0, 0))) := arr_stored RR.out
                go_wp2
                refine bodyPost_ret (results_arr_tmp Tryz.results6 _ _ (w.heap.size + 1 + 1) _ _ rfl HR.out) rfl ?_
                refine ⟨_, rfl, ?_, below_setCell (below_setCell HB12.out (by omega) _ _) (by omega) _ _⟩
                have L := LT5.out
                exact ((HA.out.setCell L _ _).setCell L _ _).mono (by omega) (by simp [size_setCell])
              · rw [decide_eq_false hz]
                obtain ⟨rfl, rfl, rfl⟩ := E6.out HALL.out HL.out HLE.out (by omega)
                clear E0 E1 E3 E4 E6
                have r0 := R8.out.c0
                have r1 := R8.out.c1
                have f0 : w8.frozen? ⟨w.heap.size + 1 + 1, 0, none⟩ = false := free_at R8.out 0
                have f1 : w8.frozen? ⟨w.heap.size + 1 + 1, 1, none⟩ = false := free_at R8.out 1
                have HR : Hid (((w8.setCell ⟨w.heap.size + 1 + 1, 0, none⟩ (.slice none 0 0)).setCell ⟨w.heap.size + 1 + 1, 1, none⟩ (.slice none 0 0)).heap[w.heap.size + 1 + 1]? = some (.cells #[.slice none 0 0, .slice none 0 0] 26 (0, 0))) := arr_stored R8.out
                go_wp2
                refine bodyPost_ret (results_arr_tmp Tryz.results6 _ _ (w.heap.size + 1 + 1) _ _ rfl HR.out) rfl ?_
                exact ⟨_, rfl, arr_zero _ _ _, below_setCell (below_setCell HB8.out (by omega) _ _) (by omega) _ _⟩
            · have hl2 : (s.getD M 0 != t.getD 0 0) = true := by simpa using hl
              obtain ⟨rfl, rfl, rfl⟩ := E3.out HALL.out HL.out (by rw [EM.out]; exact hl)
              clear E0 E1 E3 E4 E6 EM CXW CYW hl
              generalize s.getD M 0 = l0 at *
              generalize t.getD 0 0 = n0 at *
              go_wp2_with fail
              go_quiet (fail)
              generalize hWD : w6.drewN nq = w7
              have hb : Below w6.heap.size w6 w7 := by rw [← hWD]; exact bDrewN (Below.refl _ _) nq
              clear hWD cX6 cY6
              clear x0 x1 y0 y1
              have X7 : Hid (Box w7 w.heap.size (.slice (some ⟨bX, oX, none⟩) s.length c) (.slice b d.length f) 26) := X6.out.keep hb
              have Y7 : Hid (Box w7 (w.heap.size + 1) (.slice (some ⟨bY, oY, none⟩) t.length c') (.slice b' e.length f') 26) := Y6.out.keep hb
              have R7 : Hid (Box w7 (w.heap.size + 1 + 1) (.slice none 0 0) (.slice none 0 0) 26) := R6.out.keep hb
              have HB7 : Hid (Below w.heap.size w w7) := bTrans HB6.out hb
              clear hb X6 Y6 R6 HB6
              have r0 := R7.out.c0
              have r1 := R7.out.c1
              have f0 : w7.frozen? ⟨w.heap.size + 1 + 1, 0, none⟩ = false := free_at R7.out 0
              have f1 : w7.frozen? ⟨w.heap.size + 1 + 1, 1, none⟩ = false := free_at R7.out 1
              have HR : Hid (((w7.setCell ⟨w.heap.size + 1 + 1, 0, none⟩ (.slice none 0 0)).setCell ⟨w.heap.size + 1 + 1, 1, none⟩ (.slice none 0 0)).heap[w.heap.size + 1 + 1]? = some (.cells #[.slice none 0 0, .slice none 0 0] 26 (0, 0))) := arr_stored R7.out
              go_wp2
              refine bodyPost_ret (results_arr_tmp Tryz.results6 _ _ (w.heap.size + 1 + 1) _ _ rfl HR.out) rfl ?_
              exact ⟨_, rfl, arr_zero _ _ _, below_setCell (below_setCell HB7.out (by omega) _ _) (by omega) _ _⟩
          · rw [decide_eq_false h2]
            obtain ⟨rfl, rfl, rfl⟩ := E4.out HALL.out (fun q => h2 q.2)
            clear E0 E1 E3 E4 E6
            have r0 := R4.out.c0
            have r1 := R4.out.c1
            have f0 : w4.frozen? ⟨w.heap.size + 1 + 1, 0, none⟩ = false := free_at R4.out 0
            have f1 : w4.frozen? ⟨w.heap.size + 1 + 1, 1, none⟩ = false := free_at R4.out 1
            have HR : Hid (((w4.setCell ⟨w.heap.size + 1 + 1, 0, none⟩ (.slice none 0 0)).setCell ⟨w.heap.size + 1 + 1, 1, none⟩ (.slice none 0 0)).heap[w.heap.size + 1 + 1]? = some (.cells #[.slice none 0 0, .slice none 0 0] 26 (0, 0))) := arr_stored R4.out
            go_wp2
            refine bodyPost_ret (results_arr_tmp Tryz.results6 _ _ (w.heap.size + 1 + 1) _ _ rfl HR.out) rfl ?_
            exact ⟨_, rfl, arr_zero _ _ _, below_setCell (below_setCell HB4.out (by omega) _ _) (by omega) _ _⟩
        · rw [decide_eq_false h1]
          obtain ⟨rfl, rfl, rfl⟩ := E4.out HALL.out (fun q => h1 q.1)
          clear E0 E1 E3 E4 E6
          have r0 := R3.out.c0
          have r1 := R3.out.c1
          have f0 : w3.frozen? ⟨w.heap.size + 1 + 1, 0, none⟩ = false := free_at R3.out 0
          have f1 : w3.frozen? ⟨w.heap.size + 1 + 1, 1, none⟩ = false := free_at R3.out 1
          have HR : Hid (((w3.setCell ⟨w.heap.size + 1 + 1, 0, none⟩ (.slice none 0 0)).setCell ⟨w.heap.size + 1 + 1, 1, none⟩ (.slice none 0 0)).heap[w.heap.size + 1 + 1]? = some (.cells #[.slice none 0 0, .slice none 0 0] 26 (0, 0))) := arr_stored R3.out
          go_wp2
          refine bodyPost_ret (results_arr_tmp Tryz.results6 _ _ (w.heap.size + 1 + 1) _ _ rfl HR.out) rfl ?_
          exact ⟨_, rfl, arr_zero _ _ _, below_setCell (below_setCell HB3.out (by omega) _ _) (by omega) _ _⟩
      · rw [show (arrOk s d && arrOk t e) = false by simpa using HO]
        obtain ⟨rfl, rfl, rfl⟩ := E1.out (fun q => HO (by rw [q.1, q.2.1]; rfl))
        clear E0 E1 E3 E4 E6
        have r0 := R2.out.c0
        have r1 := R2.out.c1
        have f0 : w2.frozen? ⟨w.heap.size + 1 + 1, 0, none⟩ = false := free_at R2.out 0
        have f1 : w2.frozen? ⟨w.heap.size + 1 + 1, 1, none⟩ = false := free_at R2.out 1
        have HR : Hid (((w2.setCell ⟨w.heap.size + 1 + 1, 0, none⟩ (.slice none 0 0)).setCell ⟨w.heap.size + 1 + 1, 1, none⟩ (.slice none 0 0)).heap[w.heap.size + 1 + 1]? = some (.cells #[.slice none 0 0, .slice none 0 0] 26 (0, 0))) := arr_stored R2.out
        go_wp2
        refine bodyPost_ret (results_arr_tmp Tryz.results6 _ _ (w.heap.size + 1 + 1) _ _ rfl HR.out) rfl ?_
        exact ⟨_, rfl, arr_zero _ _ _, below_setCell (below_setCell HB2.out (by omega) _ _) (by omega) _ _⟩
    · rw [show sign2 G = false by simpa using HG]
      obtain ⟨rfl, rfl, rfl⟩ := E1.out (fun q => HG q.2.2.2)
      clear E0 E1 E3 E4 E6
      have r0 := R1.out.c0
      have r1 := R1.out.c1
      have f0 : w1.frozen? ⟨w.heap.size + 1 + 1, 0, none⟩ = false := free_at R1.out 0
      have f1 : w1.frozen? ⟨w.heap.size + 1 + 1, 1, none⟩ = false := free_at R1.out 1
      have HR : Hid (((w1.setCell ⟨w.heap.size + 1 + 1, 0, none⟩ (.slice none 0 0)).setCell ⟨w.heap.size + 1 + 1, 1, none⟩ (.slice none 0 0)).heap[w.heap.size + 1 + 1]? = some (.cells #[.slice none 0 0, .slice none 0 0] 26 (0, 0))) := arr_stored R1.out
      go_wp2
      refine bodyPost_ret (results_arr_tmp Tryz.results6 _ _ (w.heap.size + 1 + 1) _ _ rfl HR.out) rfl ?_
      exact ⟨_, rfl, arr_zero _ _ _, below_setCell (below_setCell HB1.out (by omega) _ _) (by omega) _ _⟩
  · rw [show sign2 F = false by simpa using HF]
    obtain ⟨rfl, rfl, rfl⟩ := E1.out (fun q => HF q.2.2.1)
    clear E0 E1 E3 E4 E6
    have r0 := R0.out.c0
    have r1 := R0.out.c1
    have f0 : w0.frozen? ⟨w.heap.size + 1 + 1, 0, none⟩ = false := free_at R0.out 0
    have f1 : w0.frozen? ⟨w.heap.size + 1 + 1, 1, none⟩ = false := free_at R0.out 1
    have HR : Hid (((w0.setCell ⟨w.heap.size + 1 + 1, 0, none⟩ (.slice none 0 0)).setCell ⟨w.heap.size + 1 + 1, 1, none⟩ (.slice none 0 0)).heap[w.heap.size + 1 + 1]? = some (.cells #[.slice none 0 0, .slice none 0 0] 26 (0, 0))) := arr_stored R0.out
    go_wp2
    refine bodyPost_ret (results_arr_tmp Tryz.results6 _ _ (w.heap.size + 1 + 1) _ _ rfl HR.out) rfl ?_
    exact ⟨_, rfl, arr_zero _ _ _, below_setCell (below_setCell HB0.out (by omega) _ _) (by omega) _ _⟩
end Go.Proofs.YtnkacfgbkfkhdaaGreat
