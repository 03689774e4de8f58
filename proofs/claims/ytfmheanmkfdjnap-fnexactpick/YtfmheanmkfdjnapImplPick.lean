/-
  Walks: the program's Pick.
-/
import Derived.Test.YtfmheanmkfdjnapImplPick1
import Derived.Test.YtfmheanmkfdjnapImplConcat
import Derived.Test.YtfmheanmkfdjnapPickL
import Derived.Test.YtfmheanmkfdjnapImplMake1
import Derived.Test.YtfmheanmkfdjnapCuts2
namespace Go.Proofs.Ytfmheanmkfdjnap
open Go.RowKit
set_option linter.unusedVariables false
set_option linter.unusedSimpArgs false
set_option maxRecDepth 20000 in
set_option maxHeartbeats 8000000 in
/-- Pick. -/
theorem pick_impl {s d t e : List Int} {w : World} {v u : Value} (h : ArrI w v s d) (k : ArrI w u t e) (hs : s.length ≤ 1048576) (hd : d.length ≤ 1048576) (ht : t.length ≤ 1048576) (he : e.length ≤ 1048576) :
    Calls Try.prog 21 #[v, u] w fun r w' => ∃ v', r = .returned (.tuple #[v', .int .i64 (pickR s d t e).1]) ∧ Arr w.heap.size w'.heap.size w' v' (pickR s d t e).2.1 (pickR s d t e).2.2 ∧ Below w.heap.size w w' := by
  have H : Hid (ArrI w v s d) := h
  have K : Hid (ArrI w u t e) := k
  obtain ⟨a, c, b, f, rfl, h1, h2, g1, g2⟩ := h
  obtain ⟨a', c', b', f', rfl, k1, k2, g3, g4⟩ := k
  have HOK : Hid (∀ (W : World) (o : Nat), Below w.heap.size w W → W.heap[o]? = some (.cells #[.slice a s.length c, .slice b d.length f, .slice a' t.length c', .slice b' e.length f'] 26 (0, 0)) → Calls Try.prog 53 #[.slice (some ⟨o, 0, none⟩) 2 2] W fun r w' => r = .returned (.bool (arrOk s d && arrOk t e)) ∧ Below W.heap.size W w') := fun W o hb ho => allOk2_impl (H.out.keep hb) (K.out.keep hb) hs hd ht he ho
  obtain ⟨x, hx⟩ : ∃ x, x = (pickR s d t e).1 := ⟨_, rfl⟩
  obtain ⟨S, hS⟩ : ∃ S, S = (pickR s d t e).2.1 := ⟨_, rfl⟩
  obtain ⟨D, hD⟩ : ∃ D, D = (pickR s d t e).2.2 := ⟨_, rfl⟩
  rw [← hx, ← hS, ← hD]
  have E1 : Hid (¬ (arrOk s d = true ∧ arrOk t e = true) → x = 1 ∧ S = [] ∧ D = []) := fun h => by
    rw [hx, hS, hD, pickR_bad h]; exact ⟨rfl, rfl, rfl⟩
  have I2 : Hid (Ints w b d) := h2
  have I1 : Hid (Ints w a s) := h1
  by_cases ho : arrOk s d = true ∧ arrOk t e = true
  · have hs3 : s.length ≤ 3 := (sizeV_ok (arrOk_shape ho.1)).1
    have ht3 : t.length ≤ 3 := (sizeV_ok (arrOk_shape ho.2)).1
    have hd3 : d.length ≤ 300 := by have := arrOk_len ho.1; omega
    have EP := pickR_told ho.1 ho.2
    have hoo : (arrOk s d && arrOk t e) = true := by rw [ho.1, ho.2]; rfl
    rw [hoo] at HOK
    rw [EP] at hx hS hD
    by_cases ht0 : t = []
    · have n1 : ((t.length : Int) == 0) = true := by simp [ht0]
      rw [if_pos (.inl ht0)] at hx hS hD
      subst hx hS hD
      clear EP E1 ho hoo ht0
      go_enter Try.func21, Try.ntmps21
      go_wp2_with fail
      refine (HOK.out _ _ (bAlloc (bAlloc (bAlloc (bAlloc (Below.refl _ _) _) _) _) _) (by exact (four5 w _ _ _ _).2.2.2)).mono ?_
      rintro r w1 ⟨rfl, hb⟩
      have q4 := four5 w (.cells #[.slice a s.length c, .slice b d.length f] 26) (.cells #[.slice a' t.length c', .slice b' e.length f'] 26) (.cells #[.slice none 0 0, .slice none 0 0] 26) (.cells #[.slice a s.length c, .slice b d.length f, .slice a' t.length c', .slice b' e.length f'] 26)
      have HB1 : Hid (Below w.heap.size w w1) := bTrans (bAlloc (bAlloc (bAlloc (bAlloc (Below.refl _ _) _) _) _) _) hb
      have X1 : Hid (Box w1 w.heap.size (.slice a s.length c) (.slice b d.length f) 26) := Box.keep q4.1 hb
      have Y1 : Hid (Box w1 (w.heap.size + 1) (.slice a' t.length c') (.slice b' e.length f') 26) := Box.keep q4.2.1 hb
      have R1 : Hid (Box w1 (w.heap.size + 1 + 1) (.slice none 0 0) (.slice none 0 0) 26) := Box.keep q4.2.2.1 hb
      have LT : Hid (w.heap.size + 1 + 1 < w1.heap.size) := R1.out.lt
      clear hb q4 HOK
      have x0 := X1.out.c0
      have z0 := Y1.out.c0
      have y0 := R1.out.c0
      have y1 := R1.out.c1
      have f0 : w1.frozen? ⟨w.heap.size + 1 + 1, 0, none⟩ = false := free_at R1.out 0
      have f1 : w1.frozen? ⟨w.heap.size + 1 + 1, 1, none⟩ = false := free_at R1.out 1
      have HR : Hid (((w1.setCell ⟨w.heap.size + 1 + 1, 0, none⟩ (.slice none 0 0)).setCell ⟨w.heap.size + 1 + 1, 1, none⟩ (.slice none 0 0)).heap[w.heap.size + 1 + 1]? = some (.cells #[.slice none 0 0, .slice none 0 0] 26 (0, 0))) := arr_stored R1.out
      go_wp2
      refine bodyPost_ret (results_arr_tmp Try.results21 _ _ (w.heap.size + 1 + 1) _ _ rfl HR.out) rfl ?_
      exact ⟨_, rfl, arr_zero _ _ _, below_setCell (below_setCell HB1.out (by omega) _ _) (by omega) _ _⟩
    · have n1 : ((t.length : Int) == 0) = false := by simpa using ht0
      by_cases hr : 4 < s.length + t.length
      · rw [if_pos (.inr hr)] at hx hS hD
        have hri : (3 : Int) < (s.length : Int) + (t.length : Int) - 1 := by omega
        subst hx hS hD
        clear EP E1 ho hoo ht0
        go_enter Try.func21, Try.ntmps21
        go_wp2_with fail
        refine (HOK.out _ _ (bAlloc (bAlloc (bAlloc (bAlloc (Below.refl _ _) _) _) _) _) (by exact (four5 w _ _ _ _).2.2.2)).mono ?_
        rintro r w1 ⟨rfl, hb⟩
        have q4 := four5 w (.cells #[.slice a s.length c, .slice b d.length f] 26) (.cells #[.slice a' t.length c', .slice b' e.length f'] 26) (.cells #[.slice none 0 0, .slice none 0 0] 26) (.cells #[.slice a s.length c, .slice b d.length f, .slice a' t.length c', .slice b' e.length f'] 26)
        have HB1 : Hid (Below w.heap.size w w1) := bTrans (bAlloc (bAlloc (bAlloc (bAlloc (Below.refl _ _) _) _) _) _) hb
        have X1 : Hid (Box w1 w.heap.size (.slice a s.length c) (.slice b d.length f) 26) := Box.keep q4.1 hb
        have Y1 : Hid (Box w1 (w.heap.size + 1) (.slice a' t.length c') (.slice b' e.length f') 26) := Box.keep q4.2.1 hb
        have R1 : Hid (Box w1 (w.heap.size + 1 + 1) (.slice none 0 0) (.slice none 0 0) 26) := Box.keep q4.2.2.1 hb
        have LT : Hid (w.heap.size + 1 + 1 < w1.heap.size) := R1.out.lt
        clear hb q4 HOK
        have x0 := X1.out.c0
        have z0 := Y1.out.c0
        have y0 := R1.out.c0
        have y1 := R1.out.c1
        have f0 : w1.frozen? ⟨w.heap.size + 1 + 1, 0, none⟩ = false := free_at R1.out 0
        have f1 : w1.frozen? ⟨w.heap.size + 1 + 1, 1, none⟩ = false := free_at R1.out 1
        have HR : Hid (((w1.setCell ⟨w.heap.size + 1 + 1, 0, none⟩ (.slice none 0 0)).setCell ⟨w.heap.size + 1 + 1, 1, none⟩ (.slice none 0 0)).heap[w.heap.size + 1 + 1]? = some (.cells #[.slice none 0 0, .slice none 0 0] 26 (0, 0))) := arr_stored R1.out
        go_wp2
        refine bodyPost_ret (results_arr_tmp Try.results21 _ _ (w.heap.size + 1 + 1) _ _ rfl HR.out) rfl ?_
        exact ⟨_, rfl, arr_zero _ _ _, below_setCell (below_setCell HB1.out (by omega) _ _) (by omega) _ _⟩
      · rw [if_neg (fun q => q.elim ht0 hr)] at hx hS hD
        have hri : ¬ (3 : Int) < (s.length : Int) + (t.length : Int) - 1 := by omega
        obtain ⟨e1, e2⟩ := rowsN5 ho.2
        obtain ⟨NN, hNN⟩ : ∃ N, N = rowsN t := ⟨_, rfl⟩
        rw [← hNN] at e1 e2
        have hn : NN ≤ 300 := e1
        obtain ⟨tl, ct, hra, hti⟩ := ints_from (M := 1) k1 g3 (by have := List.length_pos_iff.2 ht0; omega)
        simp only [show ((1 : Nat) : Int) = 1 from rfl] at hra
        obtain ⟨bY, oY, rfl, hbY, cY⟩ := k1.at (k := 0) (List.length_pos_iff.2 ht0)
        rw [Nat.add_zero, e2] at cY
        have CY : Hid (∀ W, Below w.heap.size w W → W.cell? ⟨bY, oY, none⟩ = some (.int .i64 (NN : Int))) := fun W h => (h.cell (p := ⟨bY, oY, none⟩) hbY).trans cY
        have hp0 : (0 : Int) < (t.length : Int) := by have := List.length_pos_iff.2 ht0; omega
        obtain ⟨t', ht'⟩ : ∃ t', t' = t.drop 1 := ⟨_, rfl⟩
        obtain ⟨SH, hSH⟩ : ∃ SH, SH = s ++ t' := ⟨_, rfl⟩
        have ESH : pickS s t = SH := by unfold pickS; rw [hSH, ht']
        have ht2 : t'.length ≤ 3 := by rw [ht']; simp; omega
        have hSL : SH.length ≤ 6 := by rw [hSH, List.length_append]; omega
        rw [ESH, e2] at hx hS hD
        have E5 : Hid (d.any (noRow (NN : Int)) = true → x = 5 ∧ S = [] ∧ D = []) := fun q => by
          rw [if_pos q] at hx hS hD; exact ⟨hx, hS, hD⟩
        have E6 : Hid (d.any (noRow (NN : Int)) = false → sizeV SH < 0 → x = 6 ∧ S = [] ∧ D = []) := fun q q2 => by
          rw [if_neg (by rw [q]; decide), if_pos q2] at hx hS hD; exact ⟨hx, hS, hD⟩
        have E0 : Hid (d.any (noRow (NN : Int)) = false → 0 ≤ sizeV SH → x = 0 ∧ S = SH ∧ D = pickD d t e) := fun q q2 => by
          rw [if_neg (by rw [q]; decide), if_neg (by omega)] at hx hS hD; exact ⟨hx, hS, hD⟩
        rw [← ht'] at hra hti
        have HCC : Hid (∀ (W : World) (o : Nat), Below w.heap.size w W → W.heap[o]? = some (.cells #[.slice a s.length c, .slice tl t'.length ct] 22 (0, 0)) → Calls Try.prog 55 #[.slice (some ⟨o, 0, none⟩) 2 2] W fun r w' => ∃ a' k', r = .returned (.slice a' SH.length k') ∧ NewInts W.heap.size w' (.slice a' SH.length k') SH ∧ Below W.heap.size W w') := fun W o hb ho => by
          rw [hSH]
          exact concat_impl (h1.keep hb) (hti.keep hb) (by omega) ho
        have HCH : Hid (d.any (noRow (NN : Int)) = false → 0 ≤ sizeV SH → ∀ (W : World) (o : Nat), Below w.heap.size w W → Box W w.heap.size (.slice a s.length c) (.slice b d.length f) 26 → W.cell? ⟨o, 0, none⟩ = some (.int .i64 (NN : Int)) → o < W.heap.size → Calls Try.prog 57 #[.agg #[.slice (some ⟨bY, oY, none⟩) t.length c', .slice b' e.length f'], .int .i64 (d.length : Int), .func (.func 58) #[] #[.pointer (some ⟨w.heap.size, 0, none⟩), .pointer (some ⟨o, 0, none⟩)]] W fun r w' => ∃ v', r = .returned v' ∧ Arr W.heap.size w'.heap.size w' v' ((d.length : Int) :: t') (pickD d t e) ∧ Below W.heap.size W w') := fun q q2 W o hb hg hc hl => by
          have hall := any_none.1 q
          rw [← e2] at hall
          have qq := chosen2_impl (s := t) (d := e) (w := W) (v := .agg #[.slice (some ⟨bY, oY, none⟩) t.length c', .slice b' e.length f']) (p := .pointer (some ⟨w.heap.size, 0, none⟩)) (q := .pointer (some ⟨o, 0, none⟩)) (f := 58) (n := d.length) (φ := fun k => (rowNo (t.getD 0 0) (d.getD k 0) : Int)) rfl (enters_of Try.func58 (by kernel_rfl) rfl) (K.out.keep hb) ho.2 ht0 (pick_size ho.1 ho.2 (by rw [ESH]; exact q2)) (fun W' k hk hb' => by
            obtain ⟨b1, o1, rfl, hb1, c1⟩ := h2.at hk
            have c1' : W'.cell? ⟨b1, o1 + k, none⟩ = some (.int .i64 (d.getD k 0)) := ((bTrans hb hb').cell (p := ⟨b1, o1 + k, none⟩) hb1).trans c1
            have := pick2_impl (hg.keep hb') c1' ((hb'.cell (p := ⟨o, 0, none⟩) hl).trans hc) hn (by omega) (by rw [← e2]; exact hall k hk)
            rw [← e2] at this
            exact this)
          rw [pick_chosen ho.2 ht0 hall, ← ht'] at qq
          exact qq
        clear EP E1 ho hoo ht0 hx hS hD e1 e2 hNN cY hti ht' ESH hSH h1 h2 k1 k2 g1 g2 g3 g4
        go_enter Try.func21, Try.ntmps21
        go_wp2_with fail
        refine (HOK.out _ _ (bAlloc (bAlloc (bAlloc (bAlloc (Below.refl _ _) _) _) _) _) (by exact (four5 w _ _ _ _).2.2.2)).mono ?_
        rintro r w1 ⟨rfl, hb⟩
        have q4 := four5 w (.cells #[.slice a s.length c, .slice b d.length f] 26) (.cells #[.slice (some ⟨bY, oY, none⟩) t.length c', .slice b' e.length f'] 26) (.cells #[.slice none 0 0, .slice none 0 0] 26) (.cells #[.slice a s.length c, .slice b d.length f, .slice (some ⟨bY, oY, none⟩) t.length c', .slice b' e.length f'] 26)
        have HB1 : Hid (Below w.heap.size w w1) := bTrans (bAlloc (bAlloc (bAlloc (bAlloc (Below.refl _ _) _) _) _) _) hb
        have X1 : Hid (Box w1 w.heap.size (.slice a s.length c) (.slice b d.length f) 26) := Box.keep q4.1 hb
        have Y1 : Hid (Box w1 (w.heap.size + 1) (.slice (some ⟨bY, oY, none⟩) t.length c') (.slice b' e.length f') 26) := Box.keep q4.2.1 hb
        have R1 : Hid (Box w1 (w.heap.size + 1 + 1) (.slice none 0 0) (.slice none 0 0) 26) := Box.keep q4.2.2.1 hb
        have LT : Hid (w.heap.size + 1 + 1 < w1.heap.size) := R1.out.lt
        clear hb q4 HOK
        have x0 := X1.out.c0
        have z0 := Y1.out.c0
        have cy := CY.out _ HB1.out
        go_wp2_with fail
        generalize hW : w1.alloc (.cells #[.int .i64 (NN : Int)] 3) = w2
        have hb : Below w1.heap.size w1 w2 := by rw [← hW]; exact bAlloc (Below.refl _ _) _
        have CN2 : Hid (w2.cell? ⟨w1.heap.size, 0, none⟩ = some (.int .i64 (NN : Int))) := by
          show _ = _
          rw [← hW]
          exact cell_at (heap_alloc_new w1 _) rfl
        have LN : Hid (w1.heap.size < w2.heap.size) := by show _ < _; rw [← hW]; simp
        have S22 : Hid (w2.heap.size ≤ w2.heap.size) := Nat.le_refl _
        have X2 : Hid (Box w2 w.heap.size (.slice a s.length c) (.slice b d.length f) 26) := X1.out.keep hb
        have Y2 : Hid (Box w2 (w.heap.size + 1) (.slice (some ⟨bY, oY, none⟩) t.length c') (.slice b' e.length f') 26) := Y1.out.keep hb
        have R2 : Hid (Box w2 (w.heap.size + 1 + 1) (.slice none 0 0) (.slice none 0 0) 26) := R1.out.keep hb
        have HB2 : Hid (Below w.heap.size w w2) := bTrans HB1.out hb
        clear hb hW x0 z0 cy X1 Y1 R1
        have x0 := X2.out.c0
        have z0 := Y2.out.c0
        have nx := World.new_ne w2 ⟨w.heap.size, 0, none⟩ x0
        have nz := World.new_ne w2 ⟨w.heap.size + 1, 0, none⟩ z0
        go_region_held3 (fun w' => w'.cell? ⟨w.heap.size, 0, none⟩ = some (.slice a s.length c) ∧ w'.cell? ⟨w.heap.size + 1, 0, none⟩ = some (.slice (some ⟨bY, oY, none⟩) t.length c'))
          (first | with_reducible exact ⟨u0, u1⟩ | with_reducible exact ⟨x0, z0⟩ | exact ⟨x0, z0⟩ | go_keep)
          ((go_at_call 55; refine (HCC.out _ _ (bTrans HB2.out (by repeat first | with_reducible exact Below.refl _ _ | with_reducible exact (Below.refl _ _).drew | with_reducible refine bAlloc ?_ _ | with_reducible refine Below.drew ?_)) (by exact heap_alloc_new w2 _)).mono ?_; rintro r w3 ⟨a3, c3, rfl, hn, hbb⟩; have hb : Below w2.heap.size w2 w3 := bTrans (by repeat first | with_reducible exact Below.refl _ _ | with_reducible exact (Below.refl _ _).drew | with_reducible refine bAlloc ?_ _ | with_reducible refine Below.drew ?_) hbb; have N3 : Hid (NewInts w2.heap.size w3 (.slice a3 SH.length c3) SH) := hn.mono (by simp); have u0 := (X2.out.keep hb).c0; have u1 := (Y2.out.keep hb).c0; have B3 : Hid (Below w2.heap.size w2 w3) := hb; clear hn hbb hb))
        have hb := B3.out
        have X3 : Hid (Box w3 w.heap.size (.slice a s.length c) (.slice b d.length f) 26) := X2.out.keep hb
        have Y3 : Hid (Box w3 (w.heap.size + 1) (.slice (some ⟨bY, oY, none⟩) t.length c') (.slice b' e.length f') 26) := Y2.out.keep hb
        have R3 : Hid (Box w3 (w.heap.size + 1 + 1) (.slice none 0 0) (.slice none 0 0) 26) := R2.out.keep hb
        have HB3 : Hid (Below w.heap.size w w3) := bTrans HB2.out hb
        have CN3 : Hid (w3.cell? ⟨w1.heap.size, 0, none⟩ = some (.int .i64 (NN : Int))) := (hb.cell (p := ⟨w1.heap.size, 0, none⟩) (by show w1.heap.size < _; have := LN.out; have := S22.out; omega)).trans CN2.out
        have S23 : Hid (w2.heap.size ≤ w3.heap.size) := Nat.le_trans S22.out hb.size
        clear hb x0 z0 nx nz u0 u1 X2 Y2 R2 HB2 B3 CN2 HCC
        have x1 := X3.out.c1
        have HCF : Hid (Calls Try.prog 56 #[.slice b d.length f, .func (.func 54) #[] #[.pointer (some ⟨w1.heap.size, 0, none⟩)]] w3 fun r w' => r = .returned (.bool (d.any (noRow (NN : Int)))) ∧ w' = w3) := containsBy_impl (enters_of Try.func54 (by kernel_rfl) rfl) (I2.out.keep HB3.out) (by omega) (fun x => pick1_impl x CN3.out hn)
        go_wp2_with fail
        refine (HCF.out).mono ?_
        rintro r w4 ⟨rfl, hw⟩
        have hw2 := hw.symm
        clear hw
        subst hw2
        clear HCF x1
        cases hany : d.any (noRow (NN : Int)) with
        | true =>
          obtain ⟨rfl, rfl, rfl⟩ := E5.out hany
          clear E5 E6 E0 hany HCH
          have y0 := R3.out.c0
          have y1 := R3.out.c1
          have f0 : w3.frozen? ⟨w.heap.size + 1 + 1, 0, none⟩ = false := free_at R3.out 0
          have f1 : w3.frozen? ⟨w.heap.size + 1 + 1, 1, none⟩ = false := free_at R3.out 1
          have HR : Hid (((w3.setCell ⟨w.heap.size + 1 + 1, 0, none⟩ (.slice none 0 0)).setCell ⟨w.heap.size + 1 + 1, 1, none⟩ (.slice none 0 0)).heap[w.heap.size + 1 + 1]? = some (.cells #[.slice none 0 0, .slice none 0 0] 26 (0, 0))) := arr_stored R3.out
          go_wp2
          refine bodyPost_ret (results_arr_tmp Try.results21 _ _ (w.heap.size + 1 + 1) _ _ rfl HR.out) rfl ?_
          exact ⟨_, rfl, arr_zero _ _ _, below_setCell (below_setCell HB3.out (by omega) _ _) (by omega) _ _⟩
        | false =>
          have EA : Hid (d.any (noRow (NN : Int)) = false) := hany
          clear hany
          obtain ⟨_, _, ev, i3⟩ := N3.out.ints
          cases ev
          have HSO : Hid (Calls Try.prog 47 #[.slice a3 SH.length c3] w3 fun r w' => r = .returned (.bool (decide (0 ≤ sizeV SH))) ∧ Below w3.heap.size w3 w') := ok_impl c3 i3
          clear i3
          go_wp2_with fail
          refine (HSO.out).mono ?_
          rintro r w4 ⟨rfl, hb⟩
          have X4 : Hid (Box w4 w.heap.size (.slice a s.length c) (.slice b d.length f) 26) := X3.out.keep hb
          have Y4 : Hid (Box w4 (w.heap.size + 1) (.slice (some ⟨bY, oY, none⟩) t.length c') (.slice b' e.length f') 26) := Y3.out.keep hb
          have R4 : Hid (Box w4 (w.heap.size + 1 + 1) (.slice none 0 0) (.slice none 0 0) 26) := R3.out.keep hb
          have HB4 : Hid (Below w.heap.size w w4) := bTrans HB3.out hb
          have CN4 : Hid (w4.cell? ⟨w1.heap.size, 0, none⟩ = some (.int .i64 (NN : Int))) := (hb.cell (p := ⟨w1.heap.size, 0, none⟩) (by show w1.heap.size < _; have := LN.out; have := S23.out; omega)).trans CN3.out
          have S24 : Hid (w2.heap.size ≤ w4.heap.size) := Nat.le_trans S23.out hb.size
          have P4 : Hid (Piece w2.heap.size w3.heap.size w4 (.slice a3 SH.length c3) SH) := N3.out.piece.keep hb
          have S34 : Hid (w3.heap.size ≤ w4.heap.size) := hb.size
          clear hb X3 Y3 R3 HB3 HSO N3 CN3
          by_cases hz : 0 ≤ sizeV SH
          · obtain ⟨rfl, eS, eD⟩ := E0.out EA.out hz
            have hdz : decide (0 ≤ sizeV SH) = true := by simpa using hz
            rw [hdz]
            have HC4 := HCH.out EA.out hz w4 w1.heap.size HB4.out X4.out CN4.out (by have := LN.out; have := S24.out; omega)
            have HC5 : Hid (Calls _ _ _ _ _) := HC4
            clear HC4 E5 E6 E0 hdz hz HCH
            have y0 := Y4.out.c0
            have y1 := Y4.out.c1
            have x1 := X4.out.c1
            go_wp2_with fail
            refine (HC5.out).mono ?_
            rintro r w5 ⟨v5, rfl, ha, hb⟩
            obtain ⟨a5, k5, b5, f5, rfl, _, _, _, _⟩ := ha.arrI
            obtain ⟨_, _, ev, q1, q2, q3⟩ := ha
            cases ev
            subst eS
            rw [← eD] at q2
            rw [← eD]
            have P5 : Hid (Piece w2.heap.size w3.heap.size w5 (.slice a3 S.length c3) S) := P4.out.keep hb
            have Q5 : Hid (Piece w4.heap.size w5.heap.size w5 (.slice b5 D.length f5) D) := q2
            have HA5 : Hid (Arr w1.heap.size w5.heap.size w5 (.agg #[.slice a3 S.length c3, .slice b5 D.length f5]) S D) := ⟨_, _, rfl, P5.out.mono (by have := LN.out; omega) (by have := S34.out; have := hb.size; omega), Q5.out.mono (by have := LN.out; have := S24.out; omega) (Nat.le_refl _), P5.out.apart Q5.out (.inl S34.out)⟩
            have R5 : Hid (Box w5 (w.heap.size + 1 + 1) (.slice none 0 0) (.slice none 0 0) 26) := R4.out.keep hb
            have HB5 : Hid (Below w.heap.size w w5) := bTrans HB4.out hb
            clear hb q1 q2 q3 HC5 y0 y1 x1 eD X4 Y4 R4 P4 HB4 CN4
            have R6 : Hid (Box (w5.alloc (.cells #[.slice a5 (t'.length + 1) k5, .slice b5 D.length f5] 26)) (w.heap.size + 1 + 1) (.slice none 0 0) (.slice none 0 0) 26) := R5.out.keep (bAlloc (Below.refl _ _) _)
            have HB6 : Hid (Below w.heap.size w (w5.alloc (.cells #[.slice a5 (t'.length + 1) k5, .slice b5 D.length f5] 26))) := bAlloc HB5.out _
            have HA6 : Hid (Arr w1.heap.size (w5.alloc (.cells #[.slice a5 (t'.length + 1) k5, .slice b5 D.length f5] 26)).heap.size (w5.alloc (.cells #[.slice a5 (t'.length + 1) k5, .slice b5 D.length f5] 26)) (.agg #[.slice a3 S.length c3, .slice b5 D.length f5]) S D) := (HA5.out.keep (bAlloc (Below.refl _ _) _)).mono (Nat.le_refl _) (by simp)
            have G6 : Hid (Box (w5.alloc (.cells #[.slice a5 (t'.length + 1) k5, .slice b5 D.length f5] 26)) w5.heap.size (.slice a5 (t'.length + 1) k5) (.slice b5 D.length f5) 26) := box_new w5 _ _ _
            have g1 := G6.out.c1
            have y0 := R6.out.c0
            have y1 := R6.out.c1
            have f0 : (w5.alloc (.cells #[.slice a5 (t'.length + 1) k5, .slice b5 D.length f5] 26)).frozen? ⟨w.heap.size + 1 + 1, 0, none⟩ = false := free_at R6.out 0
            have f1 : (w5.alloc (.cells #[.slice a5 (t'.length + 1) k5, .slice b5 D.length f5] 26)).frozen? ⟨w.heap.size + 1 + 1, 1, none⟩ = false := free_at R6.out 1
            have HR : Hid ((((w5.alloc (.cells #[.slice a5 (t'.length + 1) k5, .slice b5 D.length f5] 26)).setCell ⟨w.heap.size + 1 + 1, 0, none⟩ (.slice a3 S.length c3)).setCell ⟨w.heap.size + 1 + 1, 1, none⟩ (.slice b5 D.length f5)).heap[w.heap.size + 1 + 1]? = some (.cells #[.slice a3 S.length c3, .slice b5 D.length f5] 26 (0, 0))) := arr_stored R6.out
            go_wp2
            refine bodyPost_ret (results_arr_tmp Try.results21 _ _ (w.heap.size + 1 + 1) _ _ rfl HR.out) rfl ?_
            refine ⟨_, rfl, ?_, below_setCell (below_setCell HB6.out (by omega) _ _) (by omega) _ _⟩
            have L := LT.out
            exact ((HA6.out.setCell L _ _).setCell L _ _).mono (by omega) (by simp [size_setCell])
          · obtain ⟨rfl, rfl, rfl⟩ := E6.out EA.out (by omega)
            have hdz : decide (0 ≤ sizeV SH) = false := by simpa using hz
            rw [hdz]
            clear E5 E6 E0 hdz HCH
            have y0 := R4.out.c0
            have y1 := R4.out.c1
            have f0 : w4.frozen? ⟨w.heap.size + 1 + 1, 0, none⟩ = false := free_at R4.out 0
            have f1 : w4.frozen? ⟨w.heap.size + 1 + 1, 1, none⟩ = false := free_at R4.out 1
            have HR : Hid (((w4.setCell ⟨w.heap.size + 1 + 1, 0, none⟩ (.slice none 0 0)).setCell ⟨w.heap.size + 1 + 1, 1, none⟩ (.slice none 0 0)).heap[w.heap.size + 1 + 1]? = some (.cells #[.slice none 0 0, .slice none 0 0] 26 (0, 0))) := arr_stored R4.out
            go_wp2
            refine bodyPost_ret (results_arr_tmp Try.results21 _ _ (w.heap.size + 1 + 1) _ _ rfl HR.out) rfl ?_
            exact ⟨_, rfl, arr_zero _ _ _, below_setCell (below_setCell HB4.out (by omega) _ _) (by omega) _ _⟩
  · obtain ⟨rfl, rfl, rfl⟩ := E1.out ho
    have hoo : (arrOk s d && arrOk t e) = false := by
      cases h1 : arrOk s d <;> cases h2 : arrOk t e <;> simp_all
    rw [hoo] at HOK
    clear E1 ho hoo hx hS hD
    go_enter Try.func21, Try.ntmps21
    go_wp2_with fail
    refine (HOK.out _ _ (bAlloc (bAlloc (bAlloc (bAlloc (Below.refl _ _) _) _) _) _) (by exact (four5 w _ _ _ _).2.2.2)).mono ?_
    rintro r w1 ⟨rfl, hb⟩
    have q4 := four5 w (.cells #[.slice a s.length c, .slice b d.length f] 26) (.cells #[.slice a' t.length c', .slice b' e.length f'] 26) (.cells #[.slice none 0 0, .slice none 0 0] 26) (.cells #[.slice a s.length c, .slice b d.length f, .slice a' t.length c', .slice b' e.length f'] 26)
    have HB1 : Hid (Below w.heap.size w w1) := bTrans (bAlloc (bAlloc (bAlloc (bAlloc (Below.refl _ _) _) _) _) _) hb
    have X1 : Hid (Box w1 w.heap.size (.slice a s.length c) (.slice b d.length f) 26) := Box.keep q4.1 hb
    have Y1 : Hid (Box w1 (w.heap.size + 1) (.slice a' t.length c') (.slice b' e.length f') 26) := Box.keep q4.2.1 hb
    have R1 : Hid (Box w1 (w.heap.size + 1 + 1) (.slice none 0 0) (.slice none 0 0) 26) := Box.keep q4.2.2.1 hb
    have LT : Hid (w.heap.size + 1 + 1 < w1.heap.size) := R1.out.lt
    clear hb q4 HOK
    have x0 := X1.out.c0
    have z0 := Y1.out.c0
    have y0 := R1.out.c0
    have y1 := R1.out.c1
    have f0 : w1.frozen? ⟨w.heap.size + 1 + 1, 0, none⟩ = false := free_at R1.out 0
    have f1 : w1.frozen? ⟨w.heap.size + 1 + 1, 1, none⟩ = false := free_at R1.out 1
    have HR : Hid (((w1.setCell ⟨w.heap.size + 1 + 1, 0, none⟩ (.slice none 0 0)).setCell ⟨w.heap.size + 1 + 1, 1, none⟩ (.slice none 0 0)).heap[w.heap.size + 1 + 1]? = some (.cells #[.slice none 0 0, .slice none 0 0] 26 (0, 0))) := arr_stored R1.out
    go_wp2
    refine bodyPost_ret (results_arr_tmp Try.results21 _ _ (w.heap.size + 1 + 1) _ _ rfl HR.out) rfl ?_
    exact ⟨_, rfl, arr_zero _ _ _, below_setCell (below_setCell HB1.out (by omega) _ _) (by omega) _ _⟩
end Go.Proofs.Ytfmheanmkfdjnap
