/-
  Walks: the specification's Inner.
-/
import Derived.Test.YtnkacfgbkfkhdaaGreatY42
import Derived.Test.YtnkacfgbkfkhdaaGreatSpecCell
import Derived.Test.YtnkacfgbkfkhdaaGreatY30
import Derived.Test.YtnkacfgbkfkhdaaGreatY41
import Derived.Test.YtnkacfgbkfkhdaaGreatY14
import Derived.Deep.Cut
namespace Go.Proofs.YtnkacfgbkfkhdaaGreat
open Go.RowKit
set_option linter.unusedVariables false
set_option linter.unusedSimpArgs false
theorem in12 (n : Nat) : (decide ((1 : Int) ≤ (n : Int)) && decide ((n : Int) ≤ 2)) = decide (n = 1 ∨ n = 2) := by
  by_cases h : n = 1 ∨ n = 2
  · rw [decide_eq_true h, decide_eq_true (by omega), decide_eq_true (by omega)]; rfl
  · rw [decide_eq_false h]
    by_cases q : (1 : Int) ≤ (n : Int)
    · rw [decide_eq_true q, decide_eq_false (by omega)]; rfl
    · rw [decide_eq_false q]; rfl
theorem colV_succ (e : List Int) (k wide j : Nat) : colV e (k + 1) wide j = colV e k wide j ++ [e.getD (k * wide + j) 0] := by
  unfold colV; rw [List.range_succ, List.map_append]; rfl
/-- The cut of a list of numbers, from one on up to another. -/
theorem ints_mid {w : World} {a : Option Addr} {l : List Int} {c L M : Nat} (h : Ints w a l) (hc : l.length ≤ c) (hL : L ≤ M) (hM : M ≤ l.length) :
    ∃ a' c', (∀ W, (Go.Instr.slice 24 (.slice a l.length c) (some (.int .i64 (L : Int))) (some (.int .i64 (M : Int))) none).run Tryz.prog W = .ok (.slice a' (M - L) c') W) ∧ Ints w a' ((l.drop L).take (M - L)) := by
  have hrun : ∀ W, (Go.Instr.slice 24 (.slice a l.length c) (some (.int .i64 (L : Int))) (some (.int .i64 (M : Int))) none).run Tryz.prog W = .ok (sliced a L M c 1) W := by
    intro W
    have hs : (sizeOf 3).run Tryz.prog W = .ok 1 W := by kernel_rfl
    have he : Tryz.prog.elem 24 = 3 := by kernel_rfl
    rw [run_slice_lh (P := Tryz.prog) (w := W) 24 a l.length c (by rw [he]; exact Tryz.underlying24) .i64 .i64 (L : Int) (M : Int) (by omega) (by omega) (by omega), he, hs]
    simp [Result.andThen]
  refine ⟨_, _, hrun, ?_⟩
  by_cases h0 : M - L = 0
  · exact .inl (by simp [h0])
  · obtain ⟨b, o, rfl, _, _⟩ := h.at (k := 0) (by omega)
    have q := ints_cut (m := L) (n := M - L) h (by omega)
    rw [if_neg (by omega)]
    by_cases hL0 : L = 0 <;> simpa [Addr.add, hL0] using q
set_option maxRecDepth 20000 in
set_option maxHeartbeats 40000000 in
/-- Inner. -/
theorem inner_spec {F G : Int} {s d t e : List Int} {w : World} {v u : Value} (h : ArrI w v s d) (k : ArrI w u t e) (hs : s.length ≤ 1048576) (hd : d.length ≤ 1048576) (ht : t.length ≤ 1048576) (he : e.length ≤ 1048576) :
    Calls Tryz.prog 7 #[.int .i64 F, .int .i64 G, v, u] w fun r w' => ∃ v', r = .returned (.tuple #[v', .int .i64 (innerR F G s d t e).1]) ∧ Arr w.heap.size w'.heap.size w' v' (innerR F G s d t e).2.1 (innerR F G s d t e).2.2 ∧ Below w.heap.size w w' := by
  have H : Hid (ArrI w v s d) := h
  have K : Hid (ArrI w u t e) := k
  obtain ⟨a, c, b, f, rfl, h1, h2, gc, gf⟩ := h
  obtain ⟨a', c', b', f', rfl, k1, k2, gc', gf'⟩ := k
  have H1 : Hid (Ints w a s) := h1
  have H2 : Hid (Ints w b d) := h2
  have K1 : Hid (Ints w a' t) := k1
  have K2 : Hid (Ints w b' e) := k2
  have HD : Hid (d.length ≤ 1048576) := hd
  have HE : Hid (e.length ≤ 1048576) := he
  have GC : Hid (s.length ≤ c) := gc
  have GF : Hid (d.length ≤ f) := gf
  have GC' : Hid (t.length ≤ c') := gc'
  obtain ⟨x, hx⟩ : ∃ x, x = (innerR F G s d t e).1 := ⟨_, rfl⟩
  obtain ⟨S, hS⟩ : ∃ S, S = (innerR F G s d t e).2.1 := ⟨_, rfl⟩
  obtain ⟨D, hD⟩ : ∃ D, D = (innerR F G s d t e).2.2 := ⟨_, rfl⟩
  rw [← hx, ← hS, ← hD]
  have E1 : Hid (¬ (arrOk s d = true ∧ arrOk t e = true ∧ sign2 F = true ∧ sign2 G = true) → x = 1 ∧ S = [] ∧ D = []) := fun q => by
    rw [innerR_bad q] at hx hS hD; exact ⟨hx, hS, hD⟩
  have E4 : Hid ((arrOk s d = true ∧ arrOk t e = true ∧ sign2 F = true ∧ sign2 G = true) → ¬ ((s.length = 1 ∨ s.length = 2) ∧ (t.length = 1 ∨ t.length = 2)) → x = 4 ∧ S = [] ∧ D = []) := fun q1 q2 => by
    rw [innerR_told q1, if_neg q2] at hx hS hD; exact ⟨hx, hS, hD⟩
  have E3 : Hid ((arrOk s d = true ∧ arrOk t e = true ∧ sign2 F = true ∧ sign2 G = true) → ((s.length = 1 ∨ s.length = 2) ∧ (t.length = 1 ∨ t.length = 2)) → s.getD (s.length - 1) 0 ≠ t.getD 0 0 → x = 3 ∧ S = [] ∧ D = []) := fun q1 q2 q3 => by
    rw [innerR_told q1, if_pos q2, if_pos q3] at hx hS hD; exact ⟨hx, hS, hD⟩
  have E6 : Hid ((arrOk s d = true ∧ arrOk t e = true ∧ sign2 F = true ∧ sign2 G = true) → ((s.length = 1 ∨ s.length = 2) ∧ (t.length = 1 ∨ t.length = 2)) → s.getD (s.length - 1) 0 = t.getD 0 0 → sizeV (innerS s t) < 0 → x = 6 ∧ S = [] ∧ D = []) := fun q1 q2 q3 q4 => by
    rw [innerR_told q1, if_pos q2, if_neg (by simpa using q3), if_pos q4] at hx hS hD; exact ⟨hx, hS, hD⟩
  have E0 : Hid ((arrOk s d = true ∧ arrOk t e = true ∧ sign2 F = true ∧ sign2 G = true) → ((s.length = 1 ∨ s.length = 2) ∧ (t.length = 1 ∨ t.length = 2)) → s.getD (s.length - 1) 0 = t.getD 0 0 → 0 ≤ sizeV (innerS s t) →
      (firstC (fun k => (innerK F G d t e k).2) (sizeV (innerS s t)).toNat = 0 → x = 0 ∧ innerS s t = S ∧ D = (List.range (sizeV (innerS s t)).toNat).map (fun k => (innerK F G d t e k).1)) ∧ (∀ y, y ≠ 0 → firstC (fun k => (innerK F G d t e k).2) (sizeV (innerS s t)).toNat = y → x = y ∧ S = [] ∧ D = [])) := fun q1 q2 q3 q4 => by
    rw [innerR_told q1, if_pos q2, if_neg (by simpa using q3), if_neg (by omega)] at hx hS hD
    refine ⟨fun q => ?_, fun y hy q => ?_⟩
    · rw [q, mkR_good] at hx hS hD; exact ⟨hx, hS.symm, hD⟩
    · rw [q, mkR_bad hy] at hx hS hD; exact ⟨hx, hS, hD⟩
  clear hx hS hD h1 h2 k1 k2 hs hd ht he gc gf gc' gf'
  go_enter Tryz.func7, Tryz.ntmps7
  go_wp2_with fail
  refine (arrOk_spec (H.out.keep (bAlloc (bAlloc (bAlloc (bAlloc (Below.refl _ _) _) _) _) _)) HD.out).mono ?_
  rintro r w1 ⟨rfl, hb⟩
  have HB1 : Hid (Below w.heap.size w w1) := bTrans (bAlloc (bAlloc (bAlloc (bAlloc (Below.refl _ _) _) _) _) _) hb
  have q1 := four7 w (.cells #[.slice a s.length c, .slice b d.length f] 26) (.cells #[.slice a' t.length c', .slice b' e.length f'] 26) (.cells #[.slice none 0 0, .slice none 0 0] 26) (.cells #[.slice none 0 0, .slice none 0 0] 26)
  have X1 : Hid (Box w1 w.heap.size (.slice a s.length c) (.slice b d.length f) 26) := Box.keep q1.1 hb
  have Y1 : Hid (Box w1 (w.heap.size + 1) (.slice a' t.length c') (.slice b' e.length f') 26) := Box.keep q1.2.1 hb
  have R1 : Hid (Box w1 (w.heap.size + 1 + 1) (.slice none 0 0) (.slice none 0 0) 26) := Box.keep q1.2.2.1 hb
  have Z1 : Hid (Box w1 (w.heap.size + 1 + 1 + 1) (.slice none 0 0) (.slice none 0 0) 26) := Box.keep q1.2.2.2 hb
  clear hb q1
  by_cases HO : arrOk s d = true
  · rw [HO]
    have x0 := X1.out.c0
    have x1 := X1.out.c1
    have y0 := Y1.out.c0
    have y1 := Y1.out.c1
    go_wp2_with fail
    refine (arrOk_spec (K.out.keep HB1.out) HE.out).mono ?_
    rintro r w2 ⟨rfl, hb⟩
    have HB2 : Hid (Below w.heap.size w w2) := bTrans HB1.out hb
    have X2 : Hid (Box w2 w.heap.size (.slice a s.length c) (.slice b d.length f) 26) := X1.out.keep hb
    have Y2 : Hid (Box w2 (w.heap.size + 1) (.slice a' t.length c') (.slice b' e.length f') 26) := Y1.out.keep hb
    have R2 : Hid (Box w2 (w.heap.size + 1 + 1) (.slice none 0 0) (.slice none 0 0) 26) := R1.out.keep hb
    have Z2 : Hid (Box w2 (w.heap.size + 1 + 1 + 1) (.slice none 0 0) (.slice none 0 0) 26) := Z1.out.keep hb
    clear hb X1 Y1 R1 Z1 HB1
    clear x0 x1 y0 y1
    by_cases HO' : arrOk t e = true
    · rw [HO']
      go_wp2_with fail
      refine (sign2_spec F _).mono ?_
      rintro r w9 ⟨rfl, hw⟩
      subst w9
      by_cases HF : sign2 F = true
      · rw [HF]
        go_wp2_with fail
        refine (sign2_spec G _).mono ?_
        rintro r w9 ⟨rfl, hw⟩
        subst w9
        by_cases HG : sign2 G = true
        · rw [HG]
          have HALL : Hid (arrOk s d = true ∧ arrOk t e = true ∧ sign2 F = true ∧ sign2 G = true) := ⟨HO, HO', HF, HG⟩
          clear HO HO' HF HG
          have x0 := X2.out.c0
          have x1 := X2.out.c1
          have y0 := Y2.out.c0
          have y1 := Y2.out.c1
          go_wp2_with fail
          refine (in_spec _ _ _ _).mono ?_
          rintro r w9 ⟨rfl, hw⟩
          subst w9
          rw [in12]
          by_cases h1 : s.length = 1 ∨ s.length = 2
          · rw [decide_eq_true h1]
            go_wp2_with fail
            refine (in_spec _ _ _ _).mono ?_
            rintro r w9 ⟨rfl, hw⟩
            subst w9
            rw [in12]
            by_cases h2 : t.length = 1 ∨ t.length = 2
            · rw [decide_eq_true h2]
              have HL : Hid ((s.length = 1 ∨ s.length = 2) ∧ (t.length = 1 ∨ t.length = 2)) := ⟨h1, h2⟩
              obtain ⟨M, hM⟩ : ∃ M, M = s.length - 1 := ⟨_, rfl⟩
              have hMs : M < s.length := by omega
              have hw1 : IntKind.i64.wrap ((s.length : Int) - 1) = (M : Int) := by rw [show ((s.length : Int) - 1) = (M : Int) by omega]; exact wrapI (by omega) (by omega)
              have hM1 : (M : Int) < (s.length : Int) := by omega
              have hM0 : (0 : Int) ≤ (M : Int) := by omega
              have hT1 : (0 : Int) < (t.length : Int) := by omega
              obtain ⟨bX, oX, rfl, hbX, cX⟩ := H1.out.at hMs
              obtain ⟨bY, oY, rfl, hbY, cY⟩ := K1.out.at (k := 0) (by omega)
              have cX2 : w2.cell? ⟨bX, oX + M, none⟩ = some (.int .i64 (s.getD M 0)) := (HB2.out.cell (p := ⟨bX, oX + M, none⟩) hbX).trans cX
              have cY2 : w2.cell? ⟨bY, oY, none⟩ = some (.int .i64 (t.getD 0 0)) := by rw [Nat.add_zero] at cY; exact (HB2.out.cell (p := ⟨bY, oY, none⟩) hbY).trans cY
              clear cX cY hbX hbY
              have EM : Hid (s.getD (s.length - 1) 0 = s.getD M 0) := by show _ = _; rw [hM]
              have S1L : Hid ((s.take M).length = M) := by show _ = _; rw [List.length_take]; omega
              have S1E : Hid (innerS s t = s.take M ++ t.drop 1) := by show _ = _; unfold innerS; rw [← hM]
              have TNE : Hid (t ≠ []) := by show _ ≠ _; intro q; rw [q] at h2; simp at h2
              have SL2 : Hid (s.length ≤ 2 ∧ t.length ≤ 2) := by show _ ∧ _; omega
              clear hM h1 h2
              by_cases hl : s.getD M 0 = t.getD 0 0
              · have HLE : Hid (s.getD (s.length - 1) 0 = t.getD 0 0) := by show _ = _; rw [EM.out]; exact hl
                rw [hl] at cX2
                obtain ⟨nR, n, nC, hdim⟩ := inner_dims HALL.out.1 HALL.out.2.1 HL.out.1 HL.out.2 HLE.out
                have DIM : Hid (InnerD s d t e nR n nC) := hdim
                rw [hdim.n0] at cX2 cY2
                have hn3 : n ≤ 300 := hdim.2.2.2.2.2.1
                have hn0 : (0 : Int) ≤ (n : Int) := by omega
                obtain ⟨aS, cS, hrS, iS⟩ := ints_upto (M := M) H1.out GC.out (by omega)
                obtain ⟨tl, ct, hra, iT⟩ := tail_cut_ne K1.out TNE.out GC'.out
                obtain ⟨s1, hs1⟩ : ∃ s1, s1 = s.take M := ⟨_, rfl⟩
                obtain ⟨t1, ht1⟩ : ∃ t1, t1 = t.drop 1 := ⟨_, rfl⟩
                obtain ⟨SH, hSH⟩ : ∃ SH, SH = s1 ++ t1 := ⟨_, rfl⟩
                have EIS : Hid (innerS s t = SH) := by show _ = _; rw [S1E.out, hSH, hs1, ht1]
                have EW : Hid (sizeV t1 = (nC : Int)) := by show _ = _; rw [ht1]; exact hdim.wide
                have hrs : ∀ W, (Go.Instr.slice 24 (.slice (some ⟨bX, oX, none⟩) s.length c) none (some (.int .i64 (M : Int))) none).run Tryz.prog W = .ok (.slice aS s1.length cS) W := by
                  rw [hs1, S1L.out]; exact hrS
                have IS2 : Hid (Ints w2 aS s1) := by show Ints _ _ _; rw [hs1]; exact iS.keep HB2.out
                rw [← ht1] at hra iT
                obtain ⟨tl', ct', ev, _, iT⟩ := iT
                cases ev
                have IT : Hid (Ints w tl t1) := iT
                have IT2 : Hid (Ints w2 tl t1) := iT.keep HB2.out
                have LST : Hid (s1.length + t1.length ≤ 2097152) := by
                  have q := SL2.out
                  show _ ≤ _
                  rw [hs1, ht1, List.length_take, List.length_drop]; omega
                clear hrS iS iT hdim hs1 ht1
                obtain ⟨aA, cA, wA, aB, cB, wB, aC, cC, wC, aD, cD, wD, aE, cE, wE, aF, cF, wF, aG, cG, wG, ⟨rA, rB, rC, rD, rE, rF, rG⟩, ⟨bA, bB, bC, bD, bE, bF, bG⟩, ⟨nD, nE, nF, nG⟩, ⟨xE, xB, xF, xC, xG⟩⟩ := shape_ways (w := w2) IS2.out IT2.out LST.out cS ct (.cells #[] 3) (.cells #[.slice none 0 0, .slice none 0 0] 26) rfl rfl
                have RA : Hid (_ = _) := rA
                have BA : Hid (Below w2.heap.size w2 wA) := bA
                have XA : Hid (Box wA w.heap.size (.slice (some ⟨bX, oX, none⟩) s.length c) (.slice b d.length f) 26) := X2.out.keep bA
                have YA : Hid (Box wA (w.heap.size + 1) (.slice (some ⟨bY, oY, none⟩) t.length c') (.slice b' e.length f') 26) := Y2.out.keep bA
                have RB : Hid (_ = _) := rB
                have BB : Hid (Below w2.heap.size w2 wB) := bB
                have XB : Hid (Box wB w.heap.size (.slice (some ⟨bX, oX, none⟩) s.length c) (.slice b d.length f) 26) := X2.out.keep bB
                have YB : Hid (Box wB (w.heap.size + 1) (.slice (some ⟨bY, oY, none⟩) t.length c') (.slice b' e.length f') 26) := Y2.out.keep bB
                have RC : Hid (_ = _) := rC
                have BC : Hid (Below w2.heap.size w2 wC) := bC
                have XC : Hid (Box wC w.heap.size (.slice (some ⟨bX, oX, none⟩) s.length c) (.slice b d.length f) 26) := X2.out.keep bC
                have YC : Hid (Box wC (w.heap.size + 1) (.slice (some ⟨bY, oY, none⟩) t.length c') (.slice b' e.length f') 26) := Y2.out.keep bC
                have RD : Hid (_ = _) := rD
                have BD : Hid (Below w2.heap.size w2 wD) := bD
                have XD : Hid (Box wD w.heap.size (.slice (some ⟨bX, oX, none⟩) s.length c) (.slice b d.length f) 26) := X2.out.keep bD
                have YD : Hid (Box wD (w.heap.size + 1) (.slice (some ⟨bY, oY, none⟩) t.length c') (.slice b' e.length f') 26) := Y2.out.keep bD
                have RE : Hid (_ = _) := rE
                have BE : Hid (Below w2.heap.size w2 wE) := bE
                have XE : Hid (Box wE w.heap.size (.slice (some ⟨bX, oX, none⟩) s.length c) (.slice b d.length f) 26) := X2.out.keep bE
                have YE : Hid (Box wE (w.heap.size + 1) (.slice (some ⟨bY, oY, none⟩) t.length c') (.slice b' e.length f') 26) := Y2.out.keep bE
                have RF : Hid (_ = _) := rF
                have BF : Hid (Below w2.heap.size w2 wF) := bF
                have XF : Hid (Box wF w.heap.size (.slice (some ⟨bX, oX, none⟩) s.length c) (.slice b d.length f) 26) := X2.out.keep bF
                have YF : Hid (Box wF (w.heap.size + 1) (.slice (some ⟨bY, oY, none⟩) t.length c') (.slice b' e.length f') 26) := Y2.out.keep bF
                have RG : Hid (_ = _) := rG
                have BG : Hid (Below w2.heap.size w2 wG) := bG
                have XG : Hid (Box wG w.heap.size (.slice (some ⟨bX, oX, none⟩) s.length c) (.slice b d.length f) 26) := X2.out.keep bG
                have YG : Hid (Box wG (w.heap.size + 1) (.slice (some ⟨bY, oY, none⟩) t.length c') (.slice b' e.length f') 26) := Y2.out.keep bG
                have ND : Hid (NewInts w2.heap.size wD (.slice aD SH.length cD) SH) := (by show NewInts _ _ _ _; rw [hSH]; exact nD)
                have NE : Hid (NewInts w2.heap.size wE (.slice aE SH.length cE) SH) := (by show NewInts _ _ _ _; rw [hSH]; exact nE)
                have NF : Hid (NewInts w2.heap.size wF (.slice aF SH.length cF) SH) := (by show NewInts _ _ _ _; rw [hSH]; exact nF)
                have NG : Hid (NewInts w2.heap.size wG (.slice aG SH.length cG) SH) := (by show NewInts _ _ _ _; rw [hSH]; exact nG)
                have ZE : Hid (Box wE wA.heap.size (.slice none 0 0) (.slice none 0 0) 26) := xE
                have ZF : Hid (Box wF w2.heap.size (.slice none 0 0) (.slice none 0 0) 26) := xF
                have ZG : Hid (Box wG (w2.heap.size + 1) (.slice none 0 0) (.slice none 0 0) 26) := xG
                have ZEc0 := ZE.out.c0
                have ZEc1 := ZE.out.c1
                have ZEf0 : wE.frozen? ⟨wA.heap.size, 0, none⟩ = false := free_at ZE.out 0
                have ZEf1 : wE.frozen? ⟨wA.heap.size, 1, none⟩ = false := free_at ZE.out 1
                have ZFc0 := ZF.out.c0
                have ZFc1 := ZF.out.c1
                have ZFf0 : wF.frozen? ⟨w2.heap.size, 0, none⟩ = false := free_at ZF.out 0
                have ZFf1 : wF.frozen? ⟨w2.heap.size, 1, none⟩ = false := free_at ZF.out 1
                have ZGc0 := ZG.out.c0
                have ZGc1 := ZG.out.c1
                have ZGf0 : wG.frozen? ⟨w2.heap.size + 1, 0, none⟩ = false := free_at ZG.out 0
                have ZGf1 : wG.frozen? ⟨w2.heap.size + 1, 1, none⟩ = false := free_at ZG.out 1
                have sA : w2.heap.size ≤ wA.heap.size := bA.size
                have ESH : Hid (SH.length = s1.length + t1.length) := by show _ = _; rw [hSH, List.length_append]
                clear rA rB rC rD rE rF rG bA bB bC bD bE bF bG nD nE nF nG xE xB xF xC xG
                go_wp2_with fail
                go_cut [12] from 70 (fun p w' => ∃ (g : Nat) (a9 : Option Addr) (c9 : Nat), p = .pointer (some ⟨g, 0, none⟩) ∧ Box w' g (.slice a9 SH.length c9) (.slice none 0 0) 26 ∧ NewInts w2.heap.size w' (.slice a9 SH.length c9) SH ∧ Below w2.heap.size w2 w' ∧ w2.heap.size ≤ g)
                case first =>
                  have L2 := Z2.out.lt
                  go_region_held3 (fun w' => w'.cell? ⟨w.heap.size, 0, none⟩ = some (.slice (some ⟨bX, oX, none⟩) s.length c) ∧ w'.cell? ⟨w.heap.size + 1, 0, none⟩ = some (.slice (some ⟨bY, oY, none⟩) t.length c'))
                    ((refine ⟨(show Box _ w.heap.size (.slice (some ⟨bX, oX, none⟩) s.length c) (.slice b d.length f) 26 from ?_).c0, (show Box _ (w.heap.size + 1) (.slice (some ⟨bY, oY, none⟩) t.length c') (.slice b' e.length f') 26 from ?_).c0⟩ <;> (repeat first | with_reducible exact XA.out | with_reducible exact YA.out | with_reducible exact XB.out | with_reducible exact YB.out | with_reducible exact XC.out | with_reducible exact YC.out | with_reducible exact XD.out | with_reducible exact YD.out | with_reducible exact XE.out | with_reducible exact YE.out | with_reducible exact XF.out | with_reducible exact YF.out | with_reducible exact XG.out | with_reducible exact YG.out | with_reducible exact X2.out | with_reducible exact Y2.out | with_reducible refine Box.keep ?_ ((Below.refl _ _).drew) | with_reducible refine Box.keep ?_ (bAlloc (Below.refl _ _) _) | with_reducible refine Box.win ?_ (win_setCell _ _ _ _) (.inl (by (try simp); omega)))))
                    (first
                      | ((with_reducible show (if Region.wanted _ _ = true then Oper.wp Tryz.prog _ _ (World.drew (World.alloc w2 (.cells #[] 3))) _ _ else _)); refine step_append_ty (by rfl) (.tmp 70) (.tmp 77) 24 24 (by rfl) _ _ _ (by rfl) (by rfl) RA.out ?_)
                      | ((with_reducible show (if Region.wanted _ _ = true then Oper.wp Tryz.prog _ _ (World.drew (World.alloc (World.alloc w2 (.cells #[.slice none 0 0, .slice none 0 0] 26)) (.cells #[] 3))) _ _ else _)); refine step_append_ty (by rfl) (.tmp 70) (.tmp 77) 24 24 (by rfl) _ _ _ (by rfl) (by rfl) RB.out ?_)
                      | ((with_reducible show (if Region.wanted _ _ = true then Oper.wp Tryz.prog _ _ (World.drew (World.alloc (World.alloc w2 (.cells #[] 3)) (.cells #[.slice none 0 0, .slice none 0 0] 26))) _ _ else _)); refine step_append_ty (by rfl) (.tmp 70) (.tmp 77) 24 24 (by rfl) _ _ _ (by rfl) (by rfl) RC.out ?_)
                      | ((with_reducible show (if Region.wanted _ _ = true then Oper.wp Tryz.prog _ _ wA _ _ else _)); refine step_append_ty (by rfl) (.tmp 78) (.tmp 81) 24 24 (by rfl) _ _ _ (by rfl) (by rfl) RD.out ?_)
                      | ((with_reducible show (if Region.wanted _ _ = true then Oper.wp Tryz.prog _ _ (World.alloc wA (.cells #[.slice none 0 0, .slice none 0 0] 26)) _ _ else _)); refine step_append_ty (by rfl) (.tmp 78) (.tmp 81) 24 24 (by rfl) _ _ _ (by rfl) (by rfl) RE.out ?_)
                      | ((with_reducible show (if Region.wanted _ _ = true then Oper.wp Tryz.prog _ _ wB _ _ else _)); refine step_append_ty (by rfl) (.tmp 78) (.tmp 81) 24 24 (by rfl) _ _ _ (by rfl) (by rfl) RF.out ?_)
                      | ((with_reducible show (if Region.wanted _ _ = true then Oper.wp Tryz.prog _ _ wC _ _ else _)); refine step_append_ty (by rfl) (.tmp 78) (.tmp 81) 24 24 (by rfl) _ _ _ (by rfl) (by rfl) RG.out ?_))
                  all_goals
                    go_wp2_with fail
                    go_meet
                    case rel =>
                      first
                        | (refine ⟨wA.heap.size, aE, cE, by with_reducible rfl, ?_⟩; rw [ESH.out]; have qq := shape_put BE.out (by omega) ZE.out NE.out; rw [ESH.out] at qq; with_reducible exact ⟨qq.1, qq.2.1, qq.2.2, by omega⟩)
                        | (refine ⟨w2.heap.size, aF, cF, by with_reducible rfl, ?_⟩; rw [ESH.out]; have qq := shape_put BF.out (by omega) ZF.out NF.out; rw [ESH.out] at qq; with_reducible exact ⟨qq.1, qq.2.1, qq.2.2, by omega⟩)
                        | (refine ⟨(w2.heap.size + 1), aG, cG, by with_reducible rfl, ?_⟩; rw [ESH.out]; have qq := shape_put BG.out (by omega) ZG.out NG.out; rw [ESH.out] at qq; with_reducible exact ⟨qq.1, qq.2.1, qq.2.2, by omega⟩)
                        | (refine ⟨wD.heap.size, aD, cD, by with_reducible rfl, ?_⟩; rw [ESH.out]; have qq := shape_new BD.out ND.out; rw [ESH.out] at qq; with_reducible exact ⟨qq.1, qq.2.1, qq.2.2, BD.out.size⟩)
                obtain ⟨w6, hwc⟩ : ∃ x, x = wc := ⟨_, rfl⟩
                subst hwc
                obtain ⟨g9, a9, c9, rfl, b9, n9, hb9, hg9⟩ := hcut
                have G6 : Hid (Box w6 g9 (.slice a9 SH.length c9) (.slice none 0 0) 26) := b9
                have N6 : Hid (NewInts w2.heap.size w6 (.slice a9 SH.length c9) SH) := n9
                have BW6 : Hid (Below w.heap.size w w6) := bTrans HB2.out hb9
                have GG : Hid (w2.heap.size ≤ g9) := hg9
                have X6 : Hid (Box w6 w.heap.size (.slice (some ⟨bX, oX, none⟩) s.length c) (.slice b d.length f) 26) := X2.out.keep hb9
                have Y6 : Hid (Box w6 (w.heap.size + 1) (.slice (some ⟨bY, oY, none⟩) t.length c') (.slice b' e.length f') 26) := Y2.out.keep hb9
                have R6 : Hid (Box w6 (w.heap.size + 1 + 1) (.slice none 0 0) (.slice none 0 0) 26) := R2.out.keep hb9
                have Z6 : Hid (Box w6 (w.heap.size + 1 + 1 + 1) (.slice none 0 0) (.slice none 0 0) 26) := Z2.out.keep hb9
                have L2 : Hid (w.heap.size + 1 + 1 + 1 < w2.heap.size) := Z2.out.lt
                have L26 : Hid (w2.heap.size ≤ w6.heap.size) := hb9.size
                clear b9 n9 hb9 hg9 x0 x1 y0 y1 cX2 cY2 X2 Y2 R2 Z2 IS2 IT2 HB2 hrs hw1 hM1 hM0
                clear RA BA XA YA RB BB XB YB RC BC XC YC RD BD XD YD RE BE XE YE RF BF XF YF RG BG XG YG ND NE NF NG ZE ZF ZG ZEc0 ZEc1 ZEf0 ZEf1 ZFc0 ZFc1 ZFf0 ZFf1 ZGc0 ZGc1 ZGf0 ZGf1 sA hSH ESH LST aA cA wA aB cB wB aC cC wC aD cD wD aE cE wE aF cF wF aG cG wG
                have IH6 : Hid (Ints w6 a9 SH) := by
                  obtain ⟨q1, q2, q3, q4⟩ := N6.out.ints
                  cases q3
                  exact q4
                have g0 := G6.out.c0
                rw [EIS.out] at E0 E6
                by_cases hz : 0 ≤ sizeV SH
                · have hzb : decide (0 ≤ sizeV SH) = true := by simpa using hz
                  have E0' := E0.out HALL.out HL.out HLE.out hz
                  obtain ⟨NN, hNN⟩ : ∃ NN, NN = nR * nC := ⟨_, rfl⟩
                  have hsz : sizeV SH = (NN : Int) := by have q := DIM.out.size (by rw [EIS.out]; exact hz); rw [EIS.out, ← hNN] at q; exact q
                  have hN3 : NN ≤ 300 := by have := DIM.out.count (by rw [EIS.out]; exact hz); omega
                  rw [hsz, show ((NN : Int)).toNat = NN from rfl] at E0'
                  have hat : ∀ k, innerK F G d t e k = cellR F G (rowV d n (k / nC)) (colV e n nC (k % nC)) n := fun k => DIM.out.at_ F G k
                  obtain ⟨Q, hQ⟩ : ∃ Q : Nat → Int × Int, Q = fun k => innerK F G d t e k := ⟨_, rfl⟩
                  have HQ : Hid (∀ k, Q k = cellR F G (rowV d n (k / nC)) (colV e n nC (k % nC)) n) := fun k => by rw [hQ]; exact hat k
                  have EG : Hid (firstC (fun k => (Q k).2) NN = 0 → x = 0 ∧ SH = S ∧ D = (List.range NN).map (fun k => (Q k).1)) := by rw [hQ]; exact E0'.1
                  have EB : Hid (∀ y, y ≠ 0 → firstC (fun k => (Q k).2) NN = y → x = y ∧ S = [] ∧ D = []) := by rw [hQ]; exact E0'.2
                  have HNN : Hid (NN = nR * nC) := hNN
                  have HSZ : Hid (sizeV SH = (NN : Int)) := hsz
                  have nC3 : Hid (nC ≤ 300) := DIM.out.2.2.2.2.2.2
                  clear hz E0 E1 E3 E4 E6 E0' hNN hsz hat hQ
                  have IT6 : Hid (Ints w6 tl t1) := IT.out.keep BW6.out
                  have x0 := X6.out.c0
                  have x1 := X6.out.c1
                  have y0 := Y6.out.c0
                  have y1 := Y6.out.c1
                  go_wp2_with (first | (go_at_call 31; refine (ok_spec _ IH6.out).mono ?_; rintro r wz ⟨rfl, hw⟩; subst wz) | (go_at_call 32; refine (size_spec _ IT6.out).mono ?_; rintro r wz ⟨rfl, hw⟩; subst wz; rw [EW.out]))
                  clear x0 x1 y0 y1 g0 hzb
                  have OS : Hid (OutB g9 w6 w6 (.slice a9 SH.length c9) none 0 0 ((List.range 0).map (fun k => (Q k).1))) := outB_new G6.out
                  have GL : Hid (w.heap.size + 1 + 1 + 1 < g9) := by have := L2.out; have := GG.out; show _ < _; omega
                  clear IH6 IT6
                  go_loopw [14] (fun i w' => ∃ (k q : Nat) (ad : Option Addr) (cd : Nat), k ≤ NN ∧ i = .int .i64 (k : Int) ∧ OutB g9 w6 w' (.slice a9 SH.length c9) ad cd q ((List.range k).map (fun k => (Q k).1)) ∧ firstC (fun k => (Q k).2) k = 0) (fun i _ => NN - (intOf i).toNat)
                  case atStart => exact ⟨0, _, _, _, by omega, rfl, OS.out, rfl⟩
                  case round =>
                    obtain ⟨k, q, ad, cd, hk, rfl, hO, hC⟩ := hrel
                    have OK : Hid (OutB g9 w6 wr (.slice a9 SH.length c9) ad cd q ((List.range k).map (fun k => (Q k).1))) := hO
                    have CK : Hid (firstC (fun k => (Q k).2) k = 0) := hC
                    clear hO hC OS
                    have HA : Hid (Arr w2.heap.size wr.heap.size wr (.agg #[.slice a9 SH.length c9, .slice ad q cd]) SH ((List.range k).map (fun k => (Q k).1))) := OK.out.arrN (E := w6.heap.size) N6.out.piece (Nat.le_refl _) L26.out (notAt_own (newInts_notBox N6.out G6.out))
                    have IHR : Hid (Ints wr a9 SH) := by
                      obtain ⟨_, _, _, _, ev, i0, _, _, _⟩ := HA.out.arrI
                      cases ev
                      exact i0
                    have XR : Hid (Box wr w.heap.size (.slice (some ⟨bX, oX, none⟩) s.length c) (.slice b d.length f) 26) := X6.out.win OK.out.win (.inl (by have := GL.out; omega))
                    have YR : Hid (Box wr (w.heap.size + 1) (.slice (some ⟨bY, oY, none⟩) t.length c') (.slice b' e.length f') 26) := Y6.out.win OK.out.win (.inl (by have := GL.out; omega))
                    have RR : Hid (Box wr (w.heap.size + 1 + 1) (.slice none 0 0) (.slice none 0 0) 26) := R6.out.win OK.out.win (.inl (by have := GL.out; omega))
                    have ZZ : Hid (Box wr (w.heap.size + 1 + 1 + 1) (.slice none 0 0) (.slice none 0 0) 26) := Z6.out.win OK.out.win (.inl (by have := GL.out; omega))
                    have BWr : Hid (Below w.heap.size w wr) := BW6.out.trans (OK.out.win.below (A := w.heap.size) (by have := GL.out; omega) BW6.out.size)
                    obtain ⟨m0, m1, m2, m3⟩ := OK.out.cells
                    by_cases hlt : (k : Int) < (NN : Int)
                    · have L : k < NN := by omega
                      have LK : Hid (k < nR * nC) := by show _ < _; rw [← HNN.out]; exact L
                      have LN : Hid (k < NN) := L
                      obtain ⟨I, hI⟩ : ∃ I, I = k / nC := ⟨_, rfl⟩
                      obtain ⟨J, hJ⟩ : ∃ J, J = k % nC := ⟨_, rfl⟩
                      have hCp : 0 < nC := DIM.out.wide_pos LK.out
                      have ei : (k : Int).tdiv (nC : Int) = (I : Int) := by rw [Int.tdiv_eq_ediv_of_nonneg (by omega), hI]; simp
                      have ei2 : (k : Int) / (nC : Int) = (I : Int) := by rw [hI]; simp
                      have ej : (k : Int).tmod (nC : Int) = (J : Int) := by rw [Int.tmod_eq_emod_of_nonneg (by omega), hJ]; simp
                      have ej2 : (k : Int) % (nC : Int) = (J : Int) := by rw [hJ]; simp
                      have hI3 : I ≤ 300 := by rw [hI]; exact Nat.le_trans (Nat.div_le_self _ _) (by omega)
                      have hJ3 : J < nC := by rw [hJ]; exact Nat.mod_lt _ hCp
                      have hwI : IntKind.i64.wrap (I : Int) = (I : Int) := wrapI (by omega) (by omega)
                      have hwJ : IntKind.i64.wrap (J : Int) = (J : Int) := wrapI (by have := nC3.out; omega) (by have := nC3.out; omega)
                      have hz1 : ((nC : Int) == 0) = false := by simp; omega
                      have hz2 : (nC : Int) ≠ 0 := by omega
                      have hz3 : nC ≠ 0 := by omega
                      have hz4 : (nC == 0) = false := by simp; omega
                      have rowin : I * n + n ≤ d.length := by rw [hI]; exact DIM.out.row_in LK.out
                      have hd3 : d.length ≤ 300 := by have := arrOk_len HALL.out.1; omega
                      have HQK : Hid (Q k = cellR F G (rowV d n I) (colV e n nC J) n) := by show _ = _; rw [HQ.out k, hI, hJ]
                      have COL : Hid (∀ j, j < n → j * nC + J < e.length) := fun j hj => by rw [hJ]; exact DIM.out.col_in LK.out hj
                      have hi' : k / nC = I := hI.symm
                      have hj' : k % nC = J := hJ.symm
                      clear hI hJ
                      have eL : Hid (I * n + n - I * n = n) := by show _ = _; omega
                      obtain ⟨aR, cR, hsR, iR⟩ := ints_mid (L := I * n) (M := I * n + n) H2.out GF.out (by omega) rowin
                      rw [eL.out] at hsR iR
                      have IR : Hid (Ints w aR (rowV d n I)) := iR
                      have hmul : (I : Int) * (n : Int) = ((I * n : Nat) : Int) := (Int.natCast_mul I n).symm
                      have hmm : ((I * n : Nat) : Int) + (n : Int) = ((I * n + n : Nat) : Int) := by omega
                      have hwL : IntKind.i64.wrap ((I * n : Nat) : Int) = ((I * n : Nat) : Int) := wrapI (by omega) (by omega)
                      have hwM : IntKind.i64.wrap ((I * n + n : Nat) : Int) = ((I * n + n : Nat) : Int) := wrapI (by omega) (by omega)
                      clear rowin iR
                      generalize I * n + n = M1 at *
                      generalize I * n = L1 at *
                      have x1 := XR.out.c1
                      have BDR : Hid (∀ n, Below wr.heap.size wr (wr.drewN n)) := fun n => bDrewN (Below.refl _ _) n
                      have hnC3 := nC3.out
                      go_wp2_with fail
                      refine (size_spec _ IHR.out).mono ?_
                      rintro r wz ⟨rfl, hw⟩
                      subst wz
                      rw [HSZ.out]
                      go_wp2_with fail
                      go_quiet (fail)
                      generalize hWD : wr.drewN nq = wd
                      have OD : Hid (OutB g9 w6 wd (.slice a9 SH.length c9) ad cd q ((List.range k).map (fun k => (Q k).1))) := by rw [← hWD]; exact OK.out.keep (BDR.out nq)
                      have YD : Hid (Box wd (w.heap.size + 1) (.slice (some ⟨bY, oY, none⟩) t.length c') (.slice b' e.length f') 26) := by rw [← hWD]; exact YR.out.keep (BDR.out nq)
                      have RD : Hid (Box wd (w.heap.size + 1 + 1) (.slice none 0 0) (.slice none 0 0) 26) := by rw [← hWD]; exact RR.out.keep (BDR.out nq)
                      have ZD : Hid (Box wd (w.heap.size + 1 + 1 + 1) (.slice none 0 0) (.slice none 0 0) 26) := by rw [← hWD]; exact ZZ.out.keep (BDR.out nq)
                      have BD : Hid (Below w.heap.size w wd) := by rw [← hWD]; exact bTrans BWr.out (BDR.out nq)
                      clear hWD x1 m0 m1 m2 m3 OK HA IHR XR YR RR ZZ BWr BDR hsR hmul hmm hwL hwM ei ei2 hwI
                      have NA : Hid (NewInts wd.heap.size (wd.alloc (.cells #[] 3)) (.slice (some ⟨wd.heap.size, 0, none⟩) 0 0) (colV e 0 nC J)) := newInts_alloc wd [] (Nat.le_refl _) (by simp)
                      go_wp2_with fail
                      go_loopw [16, 17] (fun v i w' => ∃ (j : Nat), j ≤ n ∧ i = .int .i64 (j : Int) ∧ NewInts wd.heap.size w' v (colV e j nC J) ∧ Below wd.heap.size wd w') (fun _ i _ => n - (intOf i).toNat)
                      case atStart => exact ⟨0, by omega, rfl, NA.out, bAlloc (Below.refl _ _) _⟩
                      case round =>
                        obtain ⟨j, hj, rfl, hN, hB⟩ := hrel
                        obtain ⟨a5, c5, rfl, i5⟩ := hN.ints
                        rw [colV_len] at hN
                        rw [colV_len]
                        have NJ : Hid (NewInts wd.heap.size wr (.slice a5 j c5) (colV e j nC J)) := hN
                        have IJ : Hid (Ints wr a5 (colV e j nC J)) := i5
                        have BJ : Hid (Below wd.heap.size wd wr) := hB
                        clear hN hB i5 NA
                        by_cases hlt2 : (j : Int) < (n : Int)
                        · have LJ : j < n := by omega
                          have hin := COL.out j LJ
                          obtain ⟨b2, o2, rfl, hb2, c2⟩ := K2.out.at hin
                          have SK : Hid (∀ W, Below wd.heap.size wd W → W.cell? ⟨w.heap.size + 1, 1, none⟩ = some (.slice (some ⟨b2, o2, none⟩) e.length f') ∧ W.cell? ⟨b2, o2 + (j * nC + J), none⟩ = some (.int .i64 (e.getD (j * nC + J) 0))) := fun W hb => ⟨(YD.out.keep hb).c1, ((bTrans BD.out hb).cell (p := ⟨b2, o2 + (j * nC + J), none⟩) hb2).trans c2⟩
                          have ES : Hid (colV e (j + 1) nC J = colV e j nC J ++ [e.getD (j * nC + J) 0]) := colV_succ e j nC J
                          have he3 : e.length ≤ 300 := by have := arrOk_len HALL.out.2.1; omega
                          have hmul : (j : Int) * (nC : Int) = ((j * nC : Nat) : Int) := (Int.natCast_mul j nC).symm
                          have hadd : ((j * nC : Nat) : Int) + (J : Int) = ((j * nC + J : Nat) : Int) := by omega
                          have hwL : IntKind.i64.wrap ((j * nC : Nat) : Int) = ((j * nC : Nat) : Int) := wrapI (by omega) (by omega)
                          have hwM : IntKind.i64.wrap ((j * nC + J : Nat) : Int) = ((j * nC + J : Nat) : Int) := wrapI (by omega) (by omega)
                          have hlt3 : ((j * nC + J : Nat) : Int) < (e.length : Int) := by omega
                          clear c2 hb2 hin
                          generalize e.getD (j * nC + J) 0 = y at *
                          generalize j * nC + J = M1 at *
                          generalize j * nC = L1 at *
                          obtain ⟨a7, c7, w7, hr7, hn7, hb7⟩ := grow1 y (NJ.out.keep ((Below.refl _ _).drew)) (show wd.heap.size ≤ (World.drew wr).heap.size from BJ.out.size) (by rw [colV_len]; omega)
                          rw [colV_len] at hr7 hn7
                          have R7 : Hid ((Builtin.append_ #[24, 24] 24 #[.slice a5 j c5, .slice (some ⟨wr.heap.size, 0, none⟩) 1 1]).run Tryz.prog (World.drew (wr.alloc (.cells #[.int .i64 y] 3))) = .ok (.slice a7 (j + 1) c7) w7) := hr7
                          have N7 : Hid (NewInts wd.heap.size w7 (.slice a7 (j + 1) c7) (colV e (j + 1) nC J)) := by rw [ES.out]; exact hn7
                          have B7 : Hid (Below wd.heap.size wd w7) := BJ.out.drew.trans hb7
                          clear hr7 hn7 hb7 ES NJ IJ
                          have s0 := SK.out _ BJ.out
                          go_wp2_with fail
                          go_region_held3 (fun w' => w'.cell? ⟨w.heap.size + 1, 1, none⟩ = some (.slice (some ⟨b2, o2, none⟩) e.length f') ∧ w'.cell? ⟨b2, o2 + M1, none⟩ = some (.int .i64 y))
                            ((refine SK.out _ ?_; (repeat first | with_reducible exact BJ.out | with_reducible exact B7.out | with_reducible refine bAlloc ?_ _ | with_reducible refine Below.drew ?_)))
                            (((with_reducible show (if Region.wanted _ _ = true then Oper.wp Tryz.prog _ _ (World.drew (World.alloc wr (.cells #[.int .i64 y] 3))) _ _ else _)); refine step_append_ty (by rfl) (.tmp 121) (.tmp 133) 24 24 (by rfl) _ _ _ (by rfl) (by rfl) R7.out ?_))
                          all_goals
                            go_wp2
                            go_roundw
                            case rel => exact ⟨j + 1, by omega, by go_num, N7.out, B7.out⟩
                            case measure => simp [intOf]; omega
                        · obtain rfl : j = n := by omega
                          have BWJ : Hid (Below w.heap.size w wr) := bTrans BD.out BJ.out
                          have CEL : Hid (Calls Tryz.prog 33 #[.int .i64 F, .int .i64 G, .slice aR j cR, .slice a5 j c5] wr fun r w' => r = .returned (.tuple #[.int .i64 (Q k).1, .int .i64 (Q k).2]) ∧ Below wr.heap.size wr w') := by
                            rw [HQK.out]
                            exact cell_spec (IR.out.keep BWJ.out) IJ.out (by unfold rowV; rw [List.length_take, List.length_drop]; have h1 := DIM.out.row_in LK.out; rw [hi'] at h1; omega) (colV_len _ _ _ _) hn3 cR c5
                          have F1 : Hid ((Q k).2 = 0 → firstC (fun k => (Q k).2) (k + 1) = 0) := fun h => firstC_go CK.out h
                          have F2 : Hid ((Q k).2 ≠ 0 → x = (Q k).2 ∧ S = [] ∧ D = []) := fun h => EB.out _ h (firstC_stop CK.out h LN.out)
                          have ES : Hid ((List.range (k + 1)).map (fun k => (Q k).1) = (List.range k).map (fun k => (Q k).1) ++ [(Q k).1]) := by show _ = _; rw [List.range_succ, List.map_append]; rfl
                          generalize (Q k).1 = V at *
                          generalize (Q k).2 = C at *
                          by_cases hc : C = 0
                          · subst hc
                            have FF : Hid (firstC (fun k => (Q k).2) (k + 1) = 0) := F1.out rfl
                            clear F1 F2
                            go_wp2_with fail
                            refine CEL.out.mono ?_
                            rintro r w8 ⟨rfl, hb⟩
                            have O7 : Hid (OutB g9 w6 w8 (.slice a9 SH.length c9) ad cd q ((List.range k).map (fun k => (Q k).1))) := OD.out.keep (bTrans BJ.out hb)
                            have QB : Hid (q < 1048576) := by
                              have h1 := O7.out.len
                              rw [List.length_map, List.length_range] at h1
                              show _ < _
                              omega
                            obtain ⟨a8, c8, w9, hr8, hb8, ho8⟩ := O7.out.grow1 QB.out V
                            rw [← ES.out] at ho8
                            have R9 : Hid (_ = _) := hr8
                            have O8 : Hid (OutB g9 w6 (w9.setCell ⟨g9, 1, none⟩ (.slice a8 (q + 1) c8)) (.slice a9 SH.length c9) a8 c8 (q + 1) ((List.range (k + 1)).map (fun k => (Q k).1))) := ho8
                            have n8 := hb8.c1
                            have n9 : w9.frozen? ⟨g9, 1, none⟩ = false := free_at hb8 1
                            obtain ⟨m0, m1, m2, m3⟩ := O7.out.cells
                            have m5 := (O7.out.box.keep (bAlloc (Below.refl w8.heap.size w8) (.cells #[.int .i64 V] 3))).c1
                            clear hr8 ho8 hb8 ES hb
                            go_wp2_with (at_builtin; refine wpList_append_ty rfl _ _ 24 24 rfl _ _ _ rfl rfl R9.out ?_)
                            go_roundw
                            case rel => exact ⟨k + 1, _, _, _, by have := LN.out; omega, by go_num, O8.out, FF.out⟩
                            case measure => simp [intOf]; have := LN.out; omega
                          · obtain ⟨rfl, rfl, rfl⟩ := F2.out hc
                            have hcc : (x != 0) = true := by simpa using hc
                            clear F1 F2
                            go_wp2_with fail
                            refine CEL.out.mono ?_
                            rintro r w8 ⟨rfl, hb⟩
                            have B8 : Hid (Below w.heap.size w w8) := bTrans BWJ.out hb
                            have R8 : Hid (Box w8 (w.heap.size + 1 + 1) (.slice none 0 0) (.slice none 0 0) 26) := RD.out.keep (bTrans BJ.out hb)
                            have Z8 : Hid (Box w8 (w.heap.size + 1 + 1 + 1) (.slice none 0 0) (.slice none 0 0) 26) := ZD.out.keep (bTrans BJ.out hb)
                            clear hb
                            have r0 := R8.out.c0
                            have r1 := R8.out.c1
                            have f0 : w8.frozen? ⟨w.heap.size + 1 + 1, 0, none⟩ = false := free_at R8.out 0
                            have f1 : w8.frozen? ⟨w.heap.size + 1 + 1, 1, none⟩ = false := free_at R8.out 1
                            have z0 := Z8.out.c0
                            have z1 := Z8.out.c1
                            have HR : Hid (((w8.setCell ⟨w.heap.size + 1 + 1, 0, none⟩ (.slice none 0 0)).setCell ⟨w.heap.size + 1 + 1, 1, none⟩ (.slice none 0 0)).heap[w.heap.size + 1 + 1]? = some (.cells #[.slice none 0 0, .slice none 0 0] 26 (0, 0))) := arr_stored R8.out
                            go_wp2
                            refine bodyPost_ret (results_arr_tmp Tryz.results7 _ _ (w.heap.size + 1 + 1) _ _ rfl HR.out) rfl ?_
                            exact ⟨_, rfl, arr_zero _ _ _, below_setCell (below_setCell B8.out (by omega) _ _) (by omega) _ _⟩
                    · obtain rfl : k = NN := by omega
                      obtain ⟨rfl, rfl, rfl⟩ := EG.out CK.out
                      have r0 := RR.out.c0
                      have r1 := RR.out.c1
                      have f0 : wr.frozen? ⟨w.heap.size + 1 + 1, 0, none⟩ = false := free_at RR.out 0
                      have f1 : wr.frozen? ⟨w.heap.size + 1 + 1, 1, none⟩ = false := free_at RR.out 1
                      have HR : Hid (((wr.setCell ⟨w.heap.size + 1 + 1, 0, none⟩ (.slice a9 SH.length c9)).setCell ⟨w.heap.size + 1 + 1, 1, none⟩ (.slice ad q cd)).heap[w.heap.size + 1 + 1]? = some (.cells #[.slice a9 SH.length c9, .slice ad q cd] 26 (0, 0))) := arr_stored RR.out
                      go_wp2_with fail
                      refine (size_spec _ IHR.out).mono ?_
                      rintro r wz ⟨rfl, hw⟩
                      subst wz
                      rw [HSZ.out]
                      go_wp2
                      refine bodyPost_ret (results_arr_tmp Tryz.results7 _ _ (w.heap.size + 1 + 1) _ _ rfl HR.out) rfl ?_
                      refine ⟨_, rfl, ?_, below_setCell (below_setCell BWr.out (by omega) _ _) (by omega) _ _⟩
                      have L := L2.out
                      have L' := BW6.out
                      exact ((HA.out.setCell (by omega) _ _).setCell (by omega) _ _).mono (by have := L2.out; omega) (by simp only [size_setCell]; omega)
                · obtain ⟨rfl, rfl, rfl⟩ := E6.out HALL.out HL.out HLE.out (by omega)
                  have hzb : decide (0 ≤ sizeV SH) = false := by simpa using hz
                  clear hz E0 E1 E3 E4 E6
                  have r0 := R6.out.c0
                  have r1 := R6.out.c1
                  have f0 : w6.frozen? ⟨w.heap.size + 1 + 1, 0, none⟩ = false := free_at R6.out 0
                  have f1 : w6.frozen? ⟨w.heap.size + 1 + 1, 1, none⟩ = false := free_at R6.out 1
                  have z0 := Z6.out.c0
                  have z1 := Z6.out.c1
                  have HR : Hid (((w6.setCell ⟨w.heap.size + 1 + 1, 0, none⟩ (.slice none 0 0)).setCell ⟨w.heap.size + 1 + 1, 1, none⟩ (.slice none 0 0)).heap[w.heap.size + 1 + 1]? = some (.cells #[.slice none 0 0, .slice none 0 0] 26 (0, 0))) := arr_stored R6.out
                  go_wp2_with (go_at_call 31; refine (ok_spec _ IH6.out).mono ?_; rintro r wz ⟨rfl, hw⟩; subst wz)
                  refine bodyPost_ret (results_arr_tmp Tryz.results7 _ _ (w.heap.size + 1 + 1) _ _ rfl HR.out) rfl ?_
                  exact ⟨_, rfl, arr_zero _ _ _, below_setCell (below_setCell BW6.out (by omega) _ _) (by omega) _ _⟩
              · have hl2 : (s.getD M 0 != t.getD 0 0) = true := by simpa using hl
                obtain ⟨rfl, rfl, rfl⟩ := E3.out HALL.out HL.out (by rw [EM.out]; exact hl)
                generalize s.getD M 0 = l0 at *
                generalize t.getD 0 0 = n0 at *
                clear E0 E1 E3 E4 E6 EM hl
                have r0 := R2.out.c0
                have r1 := R2.out.c1
                have f0 : w2.frozen? ⟨w.heap.size + 1 + 1, 0, none⟩ = false := free_at R2.out 0
                have f1 : w2.frozen? ⟨w.heap.size + 1 + 1, 1, none⟩ = false := free_at R2.out 1
                have z0 := Z2.out.c0
                have z1 := Z2.out.c1
                have HR : Hid (((w2.setCell ⟨w.heap.size + 1 + 1, 0, none⟩ (.slice none 0 0)).setCell ⟨w.heap.size + 1 + 1, 1, none⟩ (.slice none 0 0)).heap[w.heap.size + 1 + 1]? = some (.cells #[.slice none 0 0, .slice none 0 0] 26 (0, 0))) := arr_stored R2.out
                go_wp2
                refine bodyPost_ret (results_arr_tmp Tryz.results7 _ _ (w.heap.size + 1 + 1) _ _ rfl HR.out) rfl ?_
                exact ⟨_, rfl, arr_zero _ _ _, below_setCell (below_setCell HB2.out (by omega) _ _) (by omega) _ _⟩
            · rw [decide_eq_false h2]
              obtain ⟨rfl, rfl, rfl⟩ := E4.out HALL.out (fun q => h2 q.2)
              clear E0 E1 E3 E4 E6
              have r0 := R2.out.c0
              have r1 := R2.out.c1
              have f0 : w2.frozen? ⟨w.heap.size + 1 + 1, 0, none⟩ = false := free_at R2.out 0
              have f1 : w2.frozen? ⟨w.heap.size + 1 + 1, 1, none⟩ = false := free_at R2.out 1
              have z0 := Z2.out.c0
              have z1 := Z2.out.c1
              have HR : Hid (((w2.setCell ⟨w.heap.size + 1 + 1, 0, none⟩ (.slice none 0 0)).setCell ⟨w.heap.size + 1 + 1, 1, none⟩ (.slice none 0 0)).heap[w.heap.size + 1 + 1]? = some (.cells #[.slice none 0 0, .slice none 0 0] 26 (0, 0))) := arr_stored R2.out
              go_wp2
              refine bodyPost_ret (results_arr_tmp Tryz.results7 _ _ (w.heap.size + 1 + 1) _ _ rfl HR.out) rfl ?_
              exact ⟨_, rfl, arr_zero _ _ _, below_setCell (below_setCell HB2.out (by omega) _ _) (by omega) _ _⟩
          · rw [decide_eq_false h1]
            obtain ⟨rfl, rfl, rfl⟩ := E4.out HALL.out (fun q => h1 q.1)
            clear E0 E1 E3 E4 E6
            have r0 := R2.out.c0
            have r1 := R2.out.c1
            have f0 : w2.frozen? ⟨w.heap.size + 1 + 1, 0, none⟩ = false := free_at R2.out 0
            have f1 : w2.frozen? ⟨w.heap.size + 1 + 1, 1, none⟩ = false := free_at R2.out 1
            have z0 := Z2.out.c0
            have z1 := Z2.out.c1
            have HR : Hid (((w2.setCell ⟨w.heap.size + 1 + 1, 0, none⟩ (.slice none 0 0)).setCell ⟨w.heap.size + 1 + 1, 1, none⟩ (.slice none 0 0)).heap[w.heap.size + 1 + 1]? = some (.cells #[.slice none 0 0, .slice none 0 0] 26 (0, 0))) := arr_stored R2.out
            go_wp2
            refine bodyPost_ret (results_arr_tmp Tryz.results7 _ _ (w.heap.size + 1 + 1) _ _ rfl HR.out) rfl ?_
            exact ⟨_, rfl, arr_zero _ _ _, below_setCell (below_setCell HB2.out (by omega) _ _) (by omega) _ _⟩
        · rw [show sign2 G = false by simpa using HG]
          obtain ⟨rfl, rfl, rfl⟩ := E1.out (fun q => HG q.2.2.2)
          clear E0 E1 E3 E4 E6
          have r0 := R2.out.c0
          have r1 := R2.out.c1
          have f0 : w2.frozen? ⟨w.heap.size + 1 + 1, 0, none⟩ = false := free_at R2.out 0
          have f1 : w2.frozen? ⟨w.heap.size + 1 + 1, 1, none⟩ = false := free_at R2.out 1
          have z0 := Z2.out.c0
          have z1 := Z2.out.c1
          have HR : Hid (((w2.setCell ⟨w.heap.size + 1 + 1, 0, none⟩ (.slice none 0 0)).setCell ⟨w.heap.size + 1 + 1, 1, none⟩ (.slice none 0 0)).heap[w.heap.size + 1 + 1]? = some (.cells #[.slice none 0 0, .slice none 0 0] 26 (0, 0))) := arr_stored R2.out
          go_wp2
          refine bodyPost_ret (results_arr_tmp Tryz.results7 _ _ (w.heap.size + 1 + 1) _ _ rfl HR.out) rfl ?_
          exact ⟨_, rfl, arr_zero _ _ _, below_setCell (below_setCell HB2.out (by omega) _ _) (by omega) _ _⟩
      · rw [show sign2 F = false by simpa using HF]
        obtain ⟨rfl, rfl, rfl⟩ := E1.out (fun q => HF q.2.2.1)
        clear E0 E1 E3 E4 E6
        have r0 := R2.out.c0
        have r1 := R2.out.c1
        have f0 : w2.frozen? ⟨w.heap.size + 1 + 1, 0, none⟩ = false := free_at R2.out 0
        have f1 : w2.frozen? ⟨w.heap.size + 1 + 1, 1, none⟩ = false := free_at R2.out 1
        have z0 := Z2.out.c0
        have z1 := Z2.out.c1
        have HR : Hid (((w2.setCell ⟨w.heap.size + 1 + 1, 0, none⟩ (.slice none 0 0)).setCell ⟨w.heap.size + 1 + 1, 1, none⟩ (.slice none 0 0)).heap[w.heap.size + 1 + 1]? = some (.cells #[.slice none 0 0, .slice none 0 0] 26 (0, 0))) := arr_stored R2.out
        go_wp2
        refine bodyPost_ret (results_arr_tmp Tryz.results7 _ _ (w.heap.size + 1 + 1) _ _ rfl HR.out) rfl ?_
        exact ⟨_, rfl, arr_zero _ _ _, below_setCell (below_setCell HB2.out (by omega) _ _) (by omega) _ _⟩
    · rw [show arrOk t e = false by simpa using HO']
      obtain ⟨rfl, rfl, rfl⟩ := E1.out (fun q => HO' q.2.1)
      clear E0 E1 E3 E4 E6
      have r0 := R2.out.c0
      have r1 := R2.out.c1
      have f0 : w2.frozen? ⟨w.heap.size + 1 + 1, 0, none⟩ = false := free_at R2.out 0
      have f1 : w2.frozen? ⟨w.heap.size + 1 + 1, 1, none⟩ = false := free_at R2.out 1
      have z0 := Z2.out.c0
      have z1 := Z2.out.c1
      have HR : Hid (((w2.setCell ⟨w.heap.size + 1 + 1, 0, none⟩ (.slice none 0 0)).setCell ⟨w.heap.size + 1 + 1, 1, none⟩ (.slice none 0 0)).heap[w.heap.size + 1 + 1]? = some (.cells #[.slice none 0 0, .slice none 0 0] 26 (0, 0))) := arr_stored R2.out
      go_wp2
      refine bodyPost_ret (results_arr_tmp Tryz.results7 _ _ (w.heap.size + 1 + 1) _ _ rfl HR.out) rfl ?_
      exact ⟨_, rfl, arr_zero _ _ _, below_setCell (below_setCell HB2.out (by omega) _ _) (by omega) _ _⟩
  · rw [show arrOk s d = false by simpa using HO]
    obtain ⟨rfl, rfl, rfl⟩ := E1.out (fun q => HO q.1)
    clear E0 E1 E3 E4 E6
    have r0 := R1.out.c0
    have r1 := R1.out.c1
    have f0 : w1.frozen? ⟨w.heap.size + 1 + 1, 0, none⟩ = false := free_at R1.out 0
    have f1 : w1.frozen? ⟨w.heap.size + 1 + 1, 1, none⟩ = false := free_at R1.out 1
    have z0 := Z1.out.c0
    have z1 := Z1.out.c1
    have HR : Hid (((w1.setCell ⟨w.heap.size + 1 + 1, 0, none⟩ (.slice none 0 0)).setCell ⟨w.heap.size + 1 + 1, 1, none⟩ (.slice none 0 0)).heap[w.heap.size + 1 + 1]? = some (.cells #[.slice none 0 0, .slice none 0 0] 26 (0, 0))) := arr_stored R1.out
    go_wp2
    refine bodyPost_ret (results_arr_tmp Tryz.results7 _ _ (w.heap.size + 1 + 1) _ _ rfl HR.out) rfl ?_
    exact ⟨_, rfl, arr_zero _ _ _, below_setCell (below_setCell HB1.out (by omega) _ _) (by omega) _ _⟩
end Go.Proofs.YtnkacfgbkfkhdaaGreat
