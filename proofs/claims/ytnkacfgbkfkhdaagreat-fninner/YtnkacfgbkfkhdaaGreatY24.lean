/-
  Several texts, one behind the other: ImplFit, ImplEach3, ImplOut1.
-/
import Derived.Test.YtnkacfgbkfkhdaaGreatY5
import Derived.Test.YtnkacfgbkfkhdaaGreatY18
import Derived.Test.YtnkacfgbkfkhdaaGreatY23
import Derived.Test.YtnkacfgbkfkhdaaGreatY22
import Derived.Test.YtnkacfgbkfkhdaaGreatY12
import Derived.Test.YtnkacfgbkfkhdaaGreatY16
import Derived.Test.YtnkacfgbkfkhdaaGreatY20
import Derived.Shelf.Abstract
namespace Go.Proofs.YtnkacfgbkfkhdaaGreat
open Go.RowKit
set_option linter.unusedVariables false
set_option linter.unusedSimpArgs false
theorem fitC_no {s d t e : List Int} (h : ¬ (arrOk s d = true ∧ arrOk t e = true)) : fitC s d t e = 1 := by unfold fitC; rw [if_neg h]
set_option maxRecDepth 20000 in
set_option maxHeartbeats 4000000 in
/-- Fit. -/
theorem fit_impl {s d t e : List Int} {w : World} {v u : Value} (h : ArrI w v s d) (k : ArrI w u t e) (hs : s.length ≤ 1048576) (hd : d.length ≤ 1048576) (ht : t.length ≤ 1048576) (he : e.length ≤ 1048576) :
    Calls Tryz.prog 35 #[v, u] w fun r w' => ∃ v', r = .returned (.tuple #[v', .int .i64 (fitC s d t e)]) ∧ Piece w.heap.size w'.heap.size w' v' (fitS s d t e) ∧ Below w.heap.size w w' := by
  have H : Hid (ArrI w v s d) := h
  have K : Hid (ArrI w u t e) := k
  obtain ⟨a, c, b, f, rfl, h1, h2, g1, g2⟩ := h
  obtain ⟨a', c', b', f', rfl, k1, k2, g3, g4⟩ := k
  have H1 : Hid (IntsI w (.slice a s.length c) s) := ⟨a, c, rfl, g1, h1⟩
  have K1 : Hid (IntsI w (.slice a' t.length c') t) := ⟨a', c', rfl, g3, k1⟩
  have I1 : Hid (Ints w a s) := h1
  have I2 : Hid (Ints w a' t) := k1
  have HS : Hid (s.length ≤ 1048576) := hs
  have HD : Hid (d.length ≤ 1048576) := hd
  have HT : Hid (t.length ≤ 1048576) := ht
  have HE : Hid (e.length ≤ 1048576) := he
  clear h1 h2 k1 k2 hs hd ht he g1 g2 g3 g4
  by_cases ho : arrOk s d = true
  · have HO : Hid (arrOk s d = true) := ho
    by_cases ho' : arrOk t e = true
    · have HO' : Hid (arrOk t e = true) := ho'
      have key : Hid (fitC s d t e = if s = [] ∨ t = [] then 0 else if s.length ≠ t.length then 4 else if s ≠ t then 3 else 0) := by show _ = _; unfold fitC; rw [if_pos ⟨ho, ho'⟩]
      have fs : Hid (fitS s d t e = if fitC s d t e = 0 then (if s = [] then t else s) else []) := rfl
      have SH : Hid (decide (0 ≤ sizeV s) = true) := by show _ = _; simpa using arrOk_shape ho
      clear ho ho'
      go_enter Tryz.func35, Tryz.ntmps35
      go_wp2_with fail
      refine (arrOk_impl (H.out.keep (bAlloc (bAlloc (Below.refl _ _) _) _)) HD.out).mono ?_
      rintro r w1 ⟨rfl, hb⟩
      have HB1 : Hid (Below w.heap.size w w1) := bTrans (bAlloc (bAlloc (Below.refl _ _) _) _) hb
      have X1 : Hid (Box w1 w.heap.size (.slice a s.length c) (.slice b d.length f) 26) := ((box_new w _ _ _).keep (bAlloc (Below.refl _ _) _)).keep hb
      have Y1 : Hid (Box w1 (w.heap.size + 1) (.slice a' t.length c') (.slice b' e.length f') 26) := (box_new2 w _ _ _ _).keep hb
      have x0 := X1.out.c0
      have x1 := X1.out.c1
      have y0 := Y1.out.c0
      have y1 := Y1.out.c1
      clear hb
      rw [HO.out]
      go_wp2_with fail
      refine (arrOk_impl (K.out.keep HB1.out) HE.out).mono ?_
      rintro r w2 ⟨rfl, hb⟩
      have HB2 : Hid (Below w.heap.size w w2) := bTrans HB1.out hb
      have X2 : Hid (Box w2 w.heap.size (.slice a s.length c) (.slice b d.length f) 26) := X1.out.keep hb
      have Y2 : Hid (Box w2 (w.heap.size + 1) (.slice a' t.length c') (.slice b' e.length f') 26) := Y1.out.keep hb
      clear hb x0 x1 y0 y1 X1 Y1 HB1
      have x0 := X2.out.c0
      have y0 := Y2.out.c0
      rw [HO'.out]
      by_cases e1 : s = []
      · subst e1
        have EC : Hid (fitC [] d t e = 0) := by show _ = _; rw [key.out, if_pos (.inl rfl)]
        have ES : Hid (fitS [] d t e = t) := by show _ = _; rw [fs.out, if_pos EC.out, if_pos rfl]
        go_wp2_with fail
        refine (copied_new (K1.out.keep HB2.out) HT.out).mono ?_
        rintro r w9 ⟨a9, c9, rfl, hp, hb⟩
        have P9 : Hid (Piece w.heap.size w9.heap.size w9 _ _ ∧ Below w.heap.size w w9) := ⟨hp.mono HB2.out.size (Nat.le_refl _), bTrans HB2.out hb⟩
        clear hp hb
        go_wp2
        go_ret2
        exact ⟨_, by rw [EC.out]; rfl, by rw [ES.out]; exact P9.out.1, P9.out.2⟩
      · have n1 : ((s.length : Int) == 0) = false := by
          have := List.length_pos_iff.2 e1
          simp; omega
        by_cases e2 : t = []
        · subst e2
          have EC : Hid (fitC s d [] e = 0) := by show _ = _; rw [key.out, if_pos (.inr rfl)]
          have ES : Hid (fitS s d [] e = s) := by show _ = _; rw [fs.out, if_pos EC.out, if_neg e1]
          go_wp2_with fail
          refine (copied_new (H1.out.keep HB2.out) HS.out).mono ?_
          rintro r w9 ⟨a9, c9, rfl, hp, hb⟩
          have P9 : Hid (Piece w.heap.size w9.heap.size w9 _ _ ∧ Below w.heap.size w w9) := ⟨hp.mono HB2.out.size (Nat.le_refl _), bTrans HB2.out hb⟩
          clear hp hb
          go_wp2
          go_ret2
          exact ⟨_, by rw [EC.out]; rfl, by rw [ES.out]; exact P9.out.1, P9.out.2⟩
        · have n2 : ((t.length : Int) == 0) = false := by
            have := List.length_pos_iff.2 e2
            simp; omega
          have key2 : Hid (fitC s d t e = if s.length ≠ t.length then 4 else if s ≠ t then 3 else 0) := by show _ = _; rw [key.out, if_neg (by simp [e1, e2])]
          have E1 : Hid (s ≠ []) := e1
          clear e1 e2
          by_cases e3 : s.length = t.length
          · have n3 : ((s.length : Int) != (t.length : Int)) = false := by simp [e3]
            have E3 : Hid (s.length = t.length) := e3
            clear e3
            by_cases e4 : s = t
            · have EC : Hid (fitC s d t e = 0) := by show _ = _; rw [key2.out, if_neg (by simpa using E3.out), if_neg (by simpa using e4)]
              have ES : Hid (fitS s d t e = s) := by show _ = _; rw [fs.out, if_pos EC.out, if_neg E1.out]
              have DQ : Hid ((decide (0 ≤ sizeV s) && decide (s = t)) = true) := by show _ = _; rw [SH.out]; simpa using e4
              clear e4
              go_wp2_with fail
              refine (same_impl c c' (I1.out.keep HB2.out) (I2.out.keep HB2.out)).mono ?_
              rintro r w3 ⟨rfl, hb⟩
              have HB3 : Hid (Below w.heap.size w w3) := bTrans HB2.out hb
              have z0 := (X2.out.keep hb).c0
              rw [DQ.out]
              clear hb x0 y0
              go_wp2_with fail
              refine (copied_new (H1.out.keep HB3.out) HS.out).mono ?_
              rintro r w9 ⟨a9, c9, rfl, hp, hb⟩
              have P9 : Hid (Piece w.heap.size w9.heap.size w9 _ _ ∧ Below w.heap.size w w9) := ⟨hp.mono HB3.out.size (Nat.le_refl _), bTrans HB3.out hb⟩
              clear hp hb
              go_wp2
              go_ret2
              exact ⟨_, by rw [EC.out]; rfl, by rw [ES.out]; exact P9.out.1, P9.out.2⟩
            · have EC : Hid (fitC s d t e = 3) := by show _ = _; rw [key2.out, if_neg (by simpa using E3.out), if_pos e4]
              have ES : Hid (fitS s d t e = []) := by show _ = _; rw [fs.out, if_neg (by rw [EC.out]; decide)]
              have DQ : Hid ((decide (0 ≤ sizeV s) && decide (s = t)) = false) := by show _ = _; rw [SH.out]; simpa using e4
              clear e4
              go_wp2_with fail
              refine (same_impl c c' (I1.out.keep HB2.out) (I2.out.keep HB2.out)).mono ?_
              rintro r w3 ⟨rfl, hb⟩
              have HB3 : Hid (Below w.heap.size w w3) := bTrans HB2.out hb
              rw [DQ.out]
              clear hb
              go_wp2
              go_ret2
              exact ⟨_, by rw [EC.out]; rfl, by rw [ES.out]; exact Piece.nil _ _ _, HB3.out⟩
          · have n3 : ((s.length : Int) != (t.length : Int)) = true := by simp; omega
            have EC : Hid (fitC s d t e = 4) := by show _ = _; rw [key2.out, if_pos e3]
            have ES : Hid (fitS s d t e = []) := by show _ = _; rw [fs.out, if_neg (by rw [EC.out]; decide)]
            clear e3
            go_wp2
            go_ret2
            exact ⟨_, by rw [EC.out]; rfl, by rw [ES.out]; exact Piece.nil _ _ _, HB2.out⟩
    · have EC : Hid (fitC s d t e = 1) := fitC_no (by rintro ⟨_, h⟩; exact ho' h)
      have ES : Hid (fitS s d t e = []) := fitS_bad (by rw [EC.out]; decide)
      have HO' : Hid (arrOk t e = false) := by show _ = _; simpa using ho'
      clear ho ho'
      go_enter Tryz.func35, Tryz.ntmps35
      go_wp2_with fail
      refine (arrOk_impl (H.out.keep (bAlloc (bAlloc (Below.refl _ _) _) _)) HD.out).mono ?_
      rintro r w1 ⟨rfl, hb⟩
      have HB1 : Hid (Below w.heap.size w w1) := bTrans (bAlloc (bAlloc (Below.refl _ _) _) _) hb
      have Y1 : Hid (Box w1 (w.heap.size + 1) (.slice a' t.length c') (.slice b' e.length f') 26) := (box_new2 w _ _ _ _).keep hb
      have y0 := Y1.out.c0
      have y1 := Y1.out.c1
      clear hb
      rw [HO.out]
      go_wp2_with fail
      refine (arrOk_impl (K.out.keep HB1.out) HE.out).mono ?_
      rintro r w2 ⟨rfl, hb⟩
      have HB2 : Hid (Below w.heap.size w w2) := bTrans HB1.out hb
      clear hb
      rw [HO'.out]
      go_wp2
      go_ret2
      exact ⟨_, by rw [EC.out]; rfl, by rw [ES.out]; exact Piece.nil _ _ _, HB2.out⟩
  · have EC : Hid (fitC s d t e = 1) := fitC_no (by rintro ⟨h, _⟩; exact ho h)
    have ES : Hid (fitS s d t e = []) := fitS_bad (by rw [EC.out]; decide)
    have HO : Hid (arrOk s d = false) := by show _ = _; simpa using ho
    clear ho
    go_enter Tryz.func35, Tryz.ntmps35
    go_wp2_with fail
    refine (arrOk_impl (H.out.keep (bAlloc (bAlloc (Below.refl _ _) _) _)) HD.out).mono ?_
    rintro r w1 ⟨rfl, hb⟩
    have HB1 : Hid (Below w.heap.size w w1) := bTrans (bAlloc (bAlloc (Below.refl _ _) _) _) hb
    clear hb
    rw [HO.out]
    go_wp2
    go_ret2
    exact ⟨_, by rw [EC.out]; rfl, by rw [ES.out]; exact Piece.nil _ _ _, HB1.out⟩
end Go.Proofs.YtnkacfgbkfkhdaaGreat
namespace Go.Proofs.YtnkacfgbkfkhdaaGreat
open Go.RowKit
set_option linter.unusedVariables false
set_option linter.unusedSimpArgs false
theorem four_blocks (w : World) (A B C D : Obj) : ((((w.alloc A).alloc B).alloc C).alloc D).heap[w.heap.size]? = some A ∧ ((((w.alloc A).alloc B).alloc C).alloc D).heap[w.heap.size + 1]? = some B ∧ ((((w.alloc A).alloc B).alloc C).alloc D).heap[w.heap.size + 1 + 1]? = some C ∧ ((((w.alloc A).alloc B).alloc C).alloc D).heap[w.heap.size + 1 + 1 + 1]? = some D := by
  have e1 := heap_alloc_new w A
  have e2 := heap_alloc_new (w.alloc A) B
  have e3 := heap_alloc_new ((w.alloc A).alloc B) C
  have e4 := heap_alloc_new (((w.alloc A).alloc B).alloc C) D
  simp only [World.size_alloc] at e2 e3 e4
  refine ⟨?_, ?_, ?_, e4⟩
  · rw [heap_alloc_old _ _ (by simp only [World.size_alloc]; omega), heap_alloc_old _ _ (by simp only [World.size_alloc]; omega), heap_alloc_old _ _ (by simp only [World.size_alloc]; omega)]; exact e1
  · rw [heap_alloc_old _ _ (by simp only [World.size_alloc]; omega), heap_alloc_old _ _ (by simp only [World.size_alloc]; omega)]; exact e2
  · rw [heap_alloc_old _ _ (by simp only [World.size_alloc]; omega)]; exact e3
theorem twoImpl_bad {g : Int} {s d t e : List Int} (h : eachTwoC g s d t e ≠ 0) : eachTwoS g s d t e = [] ∧ eachTwoD g s d t e = [] := by
  unfold eachTwoS eachTwoD; rw [if_neg h, if_neg h]; exact ⟨rfl, rfl⟩
set_option maxRecDepth 20000 in
set_option maxHeartbeats 4000000 in
/-- EachTwo. -/
theorem eachTwo_impl {g : Int} {s d t e : List Int} {w : World} {v u : Value} (h : ArrI w v s d) (k : ArrI w u t e) (hs : s.length ≤ 1048576) (hd : d.length ≤ 1048576) (ht : t.length ≤ 1048576) (he : e.length ≤ 1048576) :
    Calls Tryz.prog 9 #[.int .i64 g, v, u] w fun r w' => ∃ v', r = .returned (.tuple #[v', .int .i64 (eachTwoC g s d t e)]) ∧ Arr w.heap.size w'.heap.size w' v' (eachTwoS g s d t e) (eachTwoD g s d t e) ∧ Below w.heap.size w w' := by
  have H : Hid (ArrI w v s d) := h
  have K : Hid (ArrI w u t e) := k
  obtain ⟨a, c, b, f, rfl, _, _, _, _⟩ := h
  obtain ⟨a', c', b', f', rfl, _, _, _, _⟩ := k
  have HFI : Hid (∀ W, Below w.heap.size w W → Calls Tryz.prog 35 #[.agg #[.slice a s.length c, .slice b d.length f], .agg #[.slice a' t.length c', .slice b' e.length f']] W fun r w' => ∃ v', r = .returned (.tuple #[v', .int .i64 (fitC s d t e)]) ∧ Piece W.heap.size w'.heap.size w' v' (fitS s d t e) ∧ Below W.heap.size W w') := fun W hb => fit_impl (H.out.keep hb) (K.out.keep hb) hs hd ht he
  have HL : Hid (s.length ≤ 1048576 ∧ d.length ≤ 1048576 ∧ t.length ≤ 1048576 ∧ e.length ≤ 1048576) := ⟨hs, hd, ht, he⟩
  clear hs hd ht he
  by_cases hg : sign2 g = true
  · have HG : Hid (sign2 g = true) := hg
    by_cases hf : fitC s d t e = 0
    · obtain ⟨ho, ho'⟩ := fitC_ok hf
      obtain ⟨F1, F2, F3⟩ := fit_size hf
      have EC : Hid (eachTwoC g s d t e = placesC (fun i => twoV g (numOf s d i) (numOf t e i)) (eachN s d t e)) := by show _ = _; unfold eachTwoC placesC; rw [if_pos ⟨ho, ho', hg⟩, if_pos hf]
      have ES : Hid (eachTwoS g s d t e = if placesC (fun i => twoV g (numOf s d i) (numOf t e i)) (eachN s d t e) = 0 then fitS s d t e else []) := by show _ = _; unfold eachTwoS; rw [EC.out]
      have ED : Hid (eachTwoD g s d t e = placesD (fun i => twoV g (numOf s d i) (numOf t e i)) (eachN s d t e)) := by show _ = _; unfold eachTwoD placesD; rw [EC.out]
      have HFL : Hid (∀ (W : World) (q o B E : Nat) (sa : Option Addr) (sc : Nat), Below w.heap.size w W → W.cell? ⟨q, 0, none⟩ = some (.int .i64 g) → q < W.heap.size → W.heap[o]? = some (.cells #[.slice a s.length c, .slice b d.length f, .slice a' t.length c', .slice b' e.length f'] 26 (0, 0)) → Piece B E W (.slice sa (fitS s d t e).length sc) (fitS s d t e) → B ≤ E → E ≤ W.heap.size →
          Calls Tryz.prog 38 #[.slice sa (fitS s d t e).length sc, .func (.func 36) #[] #[.pointer (some ⟨q, 0, none⟩)], .slice (some ⟨o, 0, none⟩) 2 2] W fun r w' => ∃ v', r = .returned (.tuple #[v', .int .i64 (eachTwoC g s d t e)]) ∧ Arr B w'.heap.size w' v' (eachTwoS g s d t e) (eachTwoD g s d t e) ∧ Below W.heap.size W w') := by
        intro W q o B E sa sc hb hq hqs ho4 hp hBE hEW
        rw [EC.out, ES.out, ED.out]
        refine filled_impl (F := [s, d, t, e]) (enters_of Tryz.func36 (by kernel_rfl) rfl) (arrs_two ho4 (H.out.keep hb) (K.out.keep hb)) (by decide) F2 ?_ ?_ ?_ hp hBE hEW F1.symm
        · intro j
          obtain ⟨l1, l2, l3, l4⟩ := HL.out
          match j with
          | 0 => exact l1
          | 1 => exact l2
          | 2 => exact l3
          | 3 => exact l4
          | j + 4 => simp
        · intro i hi
          have z1 := arrOk_size ho
          have z2 := arrOk_size ho'
          have k1 : s = [] → d.length = 1 := by rintro rfl; rw [sizeV_0'] at z1; omega
          have k2 : t = [] → e.length = 1 := by rintro rfl; rw [sizeV_0'] at z2; omega
          match i, hi with
          | 0, _ => exact ⟨fun q => by have := k1 q; show 0 < d.length; omega, fun q => by
              show eachN s d t e ≤ d.length
              apply Classical.byContradiction
              intro hh
              have := (F3 d.length (by omega)).2.1 q
              omega⟩
          | 1, _ => exact ⟨fun q => by have := k2 q; show 0 < e.length; omega, fun q => by
              show eachN s d t e ≤ e.length
              apply Classical.byContradiction
              intro hh
              have := (F3 e.length (by omega)).2.2.2 q
              omega⟩
        · intro W' A k hk hb' hi
          exact does2_impl hi ((hb'.cell (p := ⟨q, 0, none⟩) hqs).trans hq)
      have HF0 : Hid (fitC s d t e = 0) := hf
      clear hg hf ho ho' F1 F2 F3 EC ES ED
      generalize eachTwoC g s d t e = C at *
      generalize eachTwoS g s d t e = S at *
      generalize eachTwoD g s d t e = D at *
      generalize fitS s d t e = Z at *
      go_enter Tryz.func9, Tryz.ntmps9
      go_wp2_with fail
      refine (knownTwo_impl g _).mono ?_
      rintro r w1 ⟨rfl, hb⟩
      have HB1 : Hid (Below w.heap.size w w1) := bTrans (bAlloc (bAlloc (bAlloc (bAlloc (Below.refl _ _) _) _) _) _) hb
      have q1 := four_blocks w (.cells #[.int .i64 g] 3) (.cells #[.slice a s.length c, .slice b d.length f] 26) (.cells #[.slice a' t.length c', .slice b' e.length f'] 26) (.cells #[.slice none 0 0, .slice none 0 0] 26)
      have G1 : Hid (w1.heap[w.heap.size]? = some (.cells #[.int .i64 g] 3)) := by show _ = _; rw [hb.block _ (lt_of_heapA q1.1)]; exact q1.1
      have X1 : Hid (Box w1 (w.heap.size + 1) (.slice a s.length c) (.slice b d.length f) 26) := Box.keep q1.2.1 hb
      have Y1 : Hid (Box w1 (w.heap.size + 1 + 1) (.slice a' t.length c') (.slice b' e.length f') 26) := Box.keep q1.2.2.1 hb
      have R1 : Hid (Box w1 (w.heap.size + 1 + 1 + 1) (.slice none 0 0) (.slice none 0 0) 26) := Box.keep q1.2.2.2 hb
      clear hb q1
      rw [HG.out]
      have x0 := X1.out.c0
      have x1 := X1.out.c1
      have y0 := Y1.out.c0
      have y1 := Y1.out.c1
      go_wp2_with fail
      refine (HFI.out _ HB1.out).mono ?_
      rintro r w2 ⟨v2, rfl, hp, hb⟩
      obtain ⟨a2, c2, rfl, _⟩ := hp.ints
      have HB2 : Hid (Below w.heap.size w w2) := bTrans HB1.out hb
      have P2 : Hid (Piece w1.heap.size w2.heap.size w2 (.slice a2 Z.length c2) Z) := hp
      have G2 : Hid (w2.heap[w.heap.size]? = some (.cells #[.int .i64 g] 3)) := by show _ = _; rw [hb.block _ (lt_of_heapA G1.out)]; exact G1.out
      have X2 : Hid (Box w2 (w.heap.size + 1) (.slice a s.length c) (.slice b d.length f) 26) := X1.out.keep hb
      have Y2 : Hid (Box w2 (w.heap.size + 1 + 1) (.slice a' t.length c') (.slice b' e.length f') 26) := Y1.out.keep hb
      have R2 : Hid (Box w2 (w.heap.size + 1 + 1 + 1) (.slice none 0 0) (.slice none 0 0) 26) := R1.out.keep hb
      have L1 : Hid (w.heap.size + 1 + 1 + 1 < w1.heap.size ∧ w1.heap.size ≤ w2.heap.size) := ⟨R1.out.lt, hb.size⟩
      rw [HF0.out]
      clear hb hp x0 x1 y0 y1 G1 X1 Y1 R1
      have x0 := X2.out.c0
      have x1 := X2.out.c1
      have y0 := Y2.out.c0
      have y1 := Y2.out.c1
      go_wp2_with fail
      refine (HFL.out _ w.heap.size w2.heap.size w1.heap.size w2.heap.size a2 c2 (bAlloc HB2.out _) (((bAlloc (Below.refl w2.heap.size w2) _).cell (p := ⟨w.heap.size, 0, none⟩) (lt_of_heapA G2.out)).trans (cell_at G2.out rfl)) (Nat.lt_of_lt_of_le (lt_of_heapA G2.out) (bAlloc (Below.refl w2.heap.size w2) _).size) (heap_alloc_new _ _) (P2.out.keep (bAlloc (Below.refl _ _) _)) L1.out.2 (bAlloc (Below.refl w2.heap.size w2) _).size).mono ?_
      rintro r w3 ⟨v3, rfl, ha, hb⟩
      obtain ⟨a3, c3, b3, e3, rfl, _, _, _, _⟩ := ha.arrI
      have HA3 : Hid (Arr w1.heap.size w3.heap.size w3 (.agg #[.slice a3 S.length c3, .slice b3 D.length e3]) S D) := ha
      have HB3 : Hid (Below w.heap.size w w3) := bTrans (bAlloc HB2.out _) hb
      have R3 : Hid (Box w3 (w.heap.size + 1 + 1 + 1) (.slice none 0 0) (.slice none 0 0) 26) := (R2.out.keep (bAlloc (Below.refl _ _) _)).keep hb
      clear ha hb x0 x1 y0 y1
      have r0 := R3.out.c0
      have r1 := R3.out.c1
      have f0 : w3.frozen? ⟨w.heap.size + 1 + 1 + 1, 0, none⟩ = false := free_at R3.out 0
      have f1 : w3.frozen? ⟨w.heap.size + 1 + 1 + 1, 1, none⟩ = false := free_at R3.out 1
      have HR : Hid (((w3.setCell ⟨w.heap.size + 1 + 1 + 1, 0, none⟩ (.slice a3 S.length c3)).setCell ⟨w.heap.size + 1 + 1 + 1, 1, none⟩ (.slice b3 D.length e3)).heap[w.heap.size + 1 + 1 + 1]? = some (.cells #[.slice a3 S.length c3, .slice b3 D.length e3] 26 (0, 0))) := arr_stored R3.out
      go_wp2
      refine bodyPost_ret (results_arr_tmp Tryz.results9 _ _ (w.heap.size + 1 + 1 + 1) _ _ rfl HR.out) rfl ?_
      refine ⟨_, rfl, ?_, below_setCell (below_setCell HB3.out (by omega) _ _) (by omega) _ _⟩
      have L := L1.out.1
      exact ((HA3.out.setCell L _ _).setCell L _ _).mono (by omega) (by simp only [size_setCell]; omega)
    · have EC : Hid (eachTwoC g s d t e = fitC s d t e) := by
        show _ = _
        unfold eachTwoC
        by_cases ho : arrOk s d = true ∧ arrOk t e = true
        · rw [if_pos ⟨ho.1, ho.2, hg⟩, if_neg hf]
        · rw [if_neg (fun q => ho ⟨q.1, q.2.1⟩), fitC_no ho]
      obtain ⟨es, ed⟩ := twoImpl_bad (g := g) (s := s) (d := d) (t := t) (e := e) (by rw [EC.out]; exact hf)
      rw [EC.out, es, ed]
      clear EC es ed hg
      generalize fitC s d t e = C at *
      generalize fitS s d t e = Z at *
      have hne : (C != 0) = true := by simpa using hf
      clear hf
      go_enter Tryz.func9, Tryz.ntmps9
      go_wp2_with fail
      refine (knownTwo_impl g _).mono ?_
      rintro r w1 ⟨rfl, hb⟩
      have HB1 : Hid (Below w.heap.size w w1) := bTrans (bAlloc (bAlloc (bAlloc (bAlloc (Below.refl _ _) _) _) _) _) hb
      have q1 := four_blocks w (.cells #[.int .i64 g] 3) (.cells #[.slice a s.length c, .slice b d.length f] 26) (.cells #[.slice a' t.length c', .slice b' e.length f'] 26) (.cells #[.slice none 0 0, .slice none 0 0] 26)
      have G1 : Hid (w1.heap[w.heap.size]? = some (.cells #[.int .i64 g] 3)) := by show _ = _; rw [hb.block _ (lt_of_heapA q1.1)]; exact q1.1
      have X1 : Hid (Box w1 (w.heap.size + 1) (.slice a s.length c) (.slice b d.length f) 26) := Box.keep q1.2.1 hb
      have Y1 : Hid (Box w1 (w.heap.size + 1 + 1) (.slice a' t.length c') (.slice b' e.length f') 26) := Box.keep q1.2.2.1 hb
      have R1 : Hid (Box w1 (w.heap.size + 1 + 1 + 1) (.slice none 0 0) (.slice none 0 0) 26) := Box.keep q1.2.2.2 hb
      clear hb q1
      rw [HG.out]
      have x0 := X1.out.c0
      have x1 := X1.out.c1
      have y0 := Y1.out.c0
      have y1 := Y1.out.c1
      go_wp2_with fail
      refine (HFI.out _ HB1.out).mono ?_
      rintro r w2 ⟨v2, rfl, hp, hb⟩
      obtain ⟨a2, c2, rfl, _⟩ := hp.ints
      have HB2 : Hid (Below w.heap.size w w2) := bTrans HB1.out hb
      have R2 : Hid (Box w2 (w.heap.size + 1 + 1 + 1) (.slice none 0 0) (.slice none 0 0) 26) := R1.out.keep hb
      clear hb hp x0 x1 y0 y1 G1 X1 Y1 R1
      have r0 := R2.out.c0
      have r1 := R2.out.c1
      have f0 : w2.frozen? ⟨w.heap.size + 1 + 1 + 1, 0, none⟩ = false := free_at R2.out 0
      have f1 : w2.frozen? ⟨w.heap.size + 1 + 1 + 1, 1, none⟩ = false := free_at R2.out 1
      have HR : Hid (((w2.setCell ⟨w.heap.size + 1 + 1 + 1, 0, none⟩ (.slice none 0 0)).setCell ⟨w.heap.size + 1 + 1 + 1, 1, none⟩ (.slice none 0 0)).heap[w.heap.size + 1 + 1 + 1]? = some (.cells #[.slice none 0 0, .slice none 0 0] 26 (0, 0))) := arr_stored R2.out
      go_wp2
      refine bodyPost_ret (results_arr_tmp Tryz.results9 _ _ (w.heap.size + 1 + 1 + 1) _ _ rfl HR.out) rfl ?_
      exact ⟨_, rfl, arr_zero _ _ _, below_setCell (below_setCell HB2.out (by omega) _ _) (by omega) _ _⟩
  · have hg' : sign2 g = false := by simpa using hg
    have HG : Hid (sign2 g = false) := hg'
    have EC : Hid (eachTwoC g s d t e = 1) := by
      show _ = _
      unfold eachTwoC
      rw [if_neg (fun q => hg q.2.2)]
    obtain ⟨es, ed⟩ := twoImpl_bad (g := g) (s := s) (d := d) (t := t) (e := e) (by rw [EC.out]; decide)
    rw [EC.out, es, ed]
    clear EC es ed hg hg' HFI
    go_enter Tryz.func9, Tryz.ntmps9
    go_wp2_with fail
    refine (knownTwo_impl g _).mono ?_
    rintro r w1 ⟨rfl, hb⟩
    have HB1 : Hid (Below w.heap.size w w1) := bTrans (bAlloc (bAlloc (bAlloc (bAlloc (Below.refl _ _) _) _) _) _) hb
    have q1 := four_blocks w (.cells #[.int .i64 g] 3) (.cells #[.slice a s.length c, .slice b d.length f] 26) (.cells #[.slice a' t.length c', .slice b' e.length f'] 26) (.cells #[.slice none 0 0, .slice none 0 0] 26)
    have G1 : Hid (w1.heap[w.heap.size]? = some (.cells #[.int .i64 g] 3)) := by show _ = _; rw [hb.block _ (lt_of_heapA q1.1)]; exact q1.1
    have X1 : Hid (Box w1 (w.heap.size + 1) (.slice a s.length c) (.slice b d.length f) 26) := Box.keep q1.2.1 hb
    have Y1 : Hid (Box w1 (w.heap.size + 1 + 1) (.slice a' t.length c') (.slice b' e.length f') 26) := Box.keep q1.2.2.1 hb
    have R1 : Hid (Box w1 (w.heap.size + 1 + 1 + 1) (.slice none 0 0) (.slice none 0 0) 26) := Box.keep q1.2.2.2 hb
    clear hb q1
    rw [HG.out]
    have r0 := R1.out.c0
    have r1 := R1.out.c1
    have f0 : w1.frozen? ⟨w.heap.size + 1 + 1 + 1, 0, none⟩ = false := free_at R1.out 0
    have f1 : w1.frozen? ⟨w.heap.size + 1 + 1 + 1, 1, none⟩ = false := free_at R1.out 1
    have HR : Hid (((w1.setCell ⟨w.heap.size + 1 + 1 + 1, 0, none⟩ (.slice none 0 0)).setCell ⟨w.heap.size + 1 + 1 + 1, 1, none⟩ (.slice none 0 0)).heap[w.heap.size + 1 + 1 + 1]? = some (.cells #[.slice none 0 0, .slice none 0 0] 26 (0, 0))) := arr_stored R1.out
    go_wp2
    refine bodyPost_ret (results_arr_tmp Tryz.results9 _ _ (w.heap.size + 1 + 1 + 1) _ _ rfl HR.out) rfl ?_
    exact ⟨_, rfl, arr_zero _ _ _, below_setCell (below_setCell HB1.out (by omega) _ _) (by omega) _ _⟩
end Go.Proofs.YtnkacfgbkfkhdaaGreat
namespace Go.Proofs.YtnkacfgbkfkhdaaGreat
open Go.RowKit
set_option linter.unusedVariables false
set_option linter.unusedSimpArgs false
theorem flat_succ (D : Nat → List Int) (k : Nat) : (List.range (k + 1)).flatMap D = (List.range k).flatMap D ++ D k := by
  rw [List.range_succ, List.flatMap_append]; simp
set_option maxRecDepth 20000 in
set_option maxHeartbeats 8000000 in
/-- strung. -/
theorem strung_impl {S : List Int} {n B E : Nat} {C : Nat → Int} {T D : Nat → List Int} {w : World} {a : Option Addr} {c f : Nat} {p q : Value} (hE : ∀ (args : Array Value) (w : World), (callFunc f args).run Tryz.prog w = .ok (.enter f args) w)
    (hS : Piece B E w (.slice a S.length c) S) (hB : B ≤ w.heap.size) (hEw : E ≤ w.heap.size) (hz : 0 ≤ sizeV S) (hn : n ≤ 90000) (hD : ∀ k, k ≤ n → ((List.range k).flatMap D).length ≤ 100000)
    (hV : ∀ (W : World) (k : Nat), k < n → Below w.heap.size w W → Calls Tryz.prog f #[.int .i64 (k : Int), p, q] W fun r W' => ∃ v', r = .returned (.tuple #[v', .int .i64 (C k)]) ∧ Arr W.heap.size W'.heap.size W' v' (T k) (D k) ∧ Below W.heap.size W W') :
    Calls Tryz.prog 26 #[.slice a S.length c, .int .i64 (n : Int), .func (.func f) #[] #[p, q]] w fun r w' => ∃ v', r = .returned (.tuple #[v', .int .i64 (firstC C n)]) ∧ Arr B w'.heap.size w' v' (mkR (firstC C n) S ((List.range n).flatMap D)).2.1 (mkR (firstC C n) S ((List.range n).flatMap D)).2.2 ∧ Below w.heap.size w w' := by
  have HV : Hid (∀ (W : World) (k : Nat), k < n → Below w.heap.size w W → Calls Tryz.prog f #[.int .i64 (k : Int), p, q] W fun r W' => ∃ v', r = .returned (.tuple #[v', .int .i64 (C k)]) ∧ Arr W.heap.size W'.heap.size W' v' (T k) (D k) ∧ Below W.heap.size W W') := hV
  have HD : Hid (∀ k, k ≤ n → ((List.range k).flatMap D).length ≤ 100000) := hD
  have HS : Hid (Piece B E w (.slice a S.length c) S) := hS
  obtain ⟨m, hm⟩ : ∃ m : Nat, sizeV S = (m : Int) := ⟨(sizeV S).toNat, by omega⟩
  have hm3 : m ≤ 300 := by have := sizeV_bd S; omega
  have HSZ : Hid (∀ W, Below w.heap.size w W → Calls Tryz.prog 41 #[.slice a S.length c] W fun r w' => r = .returned (.int .i64 (m : Int)) ∧ Below W.heap.size W w') := fun W hb => by
    obtain ⟨q1, q2, q3, q4⟩ := (hS.keep hb).ints
    cases q3
    have qq := size_impl c q4
    rw [hm] at qq
    exact qq
  have HB0 : Hid (B ≤ w.heap.size) := hB
  have HE0 : Hid (E ≤ w.heap.size) := hEw
  clear hV hD hS hm hz hB hEw
  go_enter Tryz.func26, Tryz.ntmps26
  go_wp2_with fail
  refine (HSZ.out _ (bAlloc (Below.refl _ _) _)).mono ?_
  rintro r w2 ⟨rfl, hb⟩
  have HB2 : Hid (Below w.heap.size w w2) := bTrans (bAlloc (Below.refl _ _) _) hb
  have R2 : Hid (Box w2 w.heap.size (.slice none 0 0) (.slice none 0 0) 26) := (box_new w _ _ _).keep hb
  have LT : Hid (w.heap.size < w2.heap.size) := R2.out.lt
  clear hb HSZ
  obtain ⟨w3, r3, n3, b3⟩ := make0_ints m (by omega) w2
  have N3 : Hid (NewInts w2.heap.size w3 (.slice (some ⟨w2.heap.size, 0, none⟩) 0 m) []) := n3
  have B3 : Hid (Below w2.heap.size w2 w3) := b3
  clear n3 b3
  go_wp2
  clear r3
  go_loopw [8, 16] (fun v i w' => ∃ (k : Nat), k ≤ n ∧ i = .int .i64 (k : Int) ∧ NewInts w2.heap.size w' v ((List.range k).flatMap D) ∧ firstC C k = 0 ∧ Below w2.heap.size w2 w') (fun _ i _ => n - (intOf i).toNat)
  case atStart => exact ⟨0, by omega, rfl, N3.out, rfl, B3.out⟩
  case round =>
    obtain ⟨k, hk, rfl, hN, hF, hB⟩ := hrel
    have NK : Hid (NewInts w2.heap.size wr _ ((List.range k).flatMap D)) := hN
    have BK : Hid (Below w2.heap.size w2 wr) := hB
    have FK : Hid (firstC C k = 0) := hF
    obtain ⟨a5, c5, rfl, _⟩ := hN.ints
    clear hN hB hF N3 B3
    by_cases hlt : (k : Int) < (n : Int)
    · have L : k < n := by omega
      have HVK : Hid (Calls Tryz.prog f #[.int .i64 (k : Int), p, q] wr fun r W' => ∃ v', r = .returned (.tuple #[v', .int .i64 (C k)]) ∧ Arr wr.heap.size W'.heap.size W' v' (T k) (D k) ∧ Below wr.heap.size wr W') := HV.out wr k L (bTrans HB2.out BK.out)
      have E1 : Hid (C k = 0 → firstC C (k + 1) = 0) := fun h => firstC_go FK.out h
      have E2 : Hid (C k ≠ 0 → firstC C n = C k) := fun h => firstC_stop FK.out h L
      have LD := HD.out (k + 1) (by omega)
      have EF : Hid ((List.range (k + 1)).flatMap D = (List.range k).flatMap D ++ D k) := flat_succ D k
      rw [EF.out, List.length_append] at LD
      obtain ⟨P, hP⟩ : ∃ P, P = (List.range k).flatMap D := ⟨_, rfl⟩
      rw [← hP] at NK LD EF ⊢
      clear hP
      obtain ⟨dk, hdk⟩ : ∃ dk, dk = D k := ⟨_, rfl⟩
      obtain ⟨tk, htk⟩ : ∃ tk, tk = T k := ⟨_, rfl⟩
      rw [← hdk] at EF LD HVK
      rw [← htk] at HVK
      clear hdk htk
      have LDK : Hid (P.length + dk.length ≤ 100000) := LD
      clear LD
      generalize C k = x at *
      by_cases hx : x = 0
      · subst hx
        have E1' : Hid (firstC C (k + 1) = 0) := E1.out rfl
        clear E1 E2
        go_wp2_with fail
        go_at_fn f
        refine HVK.out.mono ?_
        rintro r w4 ⟨v4, rfl, ha, hb⟩
        obtain ⟨ta, tc, da, dc, rfl, _, i4, _, _⟩ := ha.arrI
        have I4 : Hid (Ints w4 da dk) := i4
        have HB4 : Hid (Below wr.heap.size wr w4) := hb
        clear ha hb i4
        obtain ⟨a7, c7, w7, r7, n7, b7⟩ := growL (NewInts.keep (NewInts.keep NK.out HB4.out) (bAlloc (Below.refl _ _) (.cells #[.slice ta tk.length tc, .slice da dk.length dc] 26))) (I4.out.keep (bAlloc (Below.refl _ _) (.cells #[.slice ta tk.length tc, .slice da dk.length dc] 26))) (by have := BK.out.size; have := HB4.out.size; simp; omega) (by have := LDK.out; omega) dc
        have R7 : Hid (_ = _) := r7
        have N7 : Hid (NewInts w2.heap.size w7 (.slice a7 (P ++ dk).length c7) (P ++ dk)) := n7
        have B7 : Hid (Below w2.heap.size w2 w7) := (bAlloc (bTrans BK.out HB4.out) _).trans b7
        clear r7 n7 b7
        go_wp2_with (at_builtin; refine wpList_append_ty rfl _ _ 24 24 rfl _ _ _ rfl rfl R7.out ?_)
        go_roundw
        case rel => exact ⟨k + 1, by omega, by go_num, by rw [EF.out]; have := N7.out; rw [List.length_append] at this; exact this, E1'.out, B7.out⟩
        case measure => simp [intOf]; omega
      · have E2' : Hid (firstC C n = x) := E2.out hx
        clear E1 E2
        go_wp2_with fail
        go_at_fn f
        refine HVK.out.mono ?_
        rintro r w4 ⟨v4, rfl, ha, hb⟩
        obtain ⟨ta, tc, da, dc, rfl, _, _, _, _⟩ := ha.arrI
        have HB4 : Hid (Below w2.heap.size w2 w4) := bTrans BK.out hb
        have R4 : Hid (Box (w4.alloc (.cells #[.slice ta tk.length tc, .slice da dk.length dc] 26)) w.heap.size (.slice none 0 0) (.slice none 0 0) 26) := ((R2.out.keep HB4.out).keep (bAlloc (Below.refl _ _) _))
        have BW4 : Hid (Below w.heap.size w (w4.alloc (.cells #[.slice ta tk.length tc, .slice da dk.length dc] 26))) := bAlloc (bTrans HB2.out HB4.out) _
        clear ha hb
        have y0 := R4.out.c0
        have y1 := R4.out.c1
        have f0 := free_at R4.out 0
        have f1 := free_at R4.out 1
        have HR : Hid (_ = _) := arr_stored (x' := .slice none 0 0) (y' := .slice none 0 0) R4.out
        have hxx : (x != 0) = true := by simpa using hx
        go_wp2
        refine bodyPost_ret (results_arr_tmp Tryz.results26 _ _ w.heap.size _ _ rfl HR.out) rfl ?_
        rw [E2'.out, mkR_bad hx]
        exact ⟨_, rfl, arr_zero _ _ _, below_setCell (below_setCell BW4.out (by omega) _ _) (by omega) _ _⟩
    · obtain rfl : k = n := by omega
      have R4 : Hid (Box wr w.heap.size (.slice none 0 0) (.slice none 0 0) 26) := R2.out.keep BK.out
      have BW4 : Hid (Below w.heap.size w wr) := bTrans HB2.out BK.out
      have P4 : Hid (Piece B E wr (.slice a S.length c) S) := HS.out.keep BW4.out
      have N4 : Hid (Piece w2.heap.size wr.heap.size wr (.slice a5 ((List.range k).flatMap D).length c5) ((List.range k).flatMap D)) := NK.out.piece
      clear NK
      generalize ((List.range k).flatMap D).length = q9 at *
      have y0 := R4.out.c0
      have y1 := R4.out.c1
      have f0 := free_at R4.out 0
      have f1 := free_at R4.out 1
      have HR : Hid (_ = _) := arr_stored (x' := .slice a S.length c) (y' := .slice a5 q9 c5) R4.out
      go_wp2
      refine bodyPost_ret (results_arr_tmp Tryz.results26 _ _ w.heap.size _ _ rfl HR.out) rfl ?_
      rw [FK.out, mkR_good]
      refine ⟨_, rfl, ?_, below_setCell (below_setCell BW4.out (by omega) _ _) (by omega) _ _⟩
      have L1 := LT.out
      have L2 := HE0.out
      have L3 := HB0.out
      have p1' := (P4.out.win (win_setCell wr w.heap.size 0 (.slice a S.length c)) (.inl (by omega))).win (win_setCell _ w.heap.size 1 (.slice a5 q9 c5)) (.inl (by omega))
      have p2' := (N4.out.win (win_setCell wr w.heap.size 0 (.slice a S.length c)) (.inr (by omega))).win (win_setCell _ w.heap.size 1 (.slice a5 q9 c5)) (.inr (by omega))
      have L4 := BW4.out.size
      exact ⟨_, _, rfl, p1'.mono (by omega) (by simp only [size_setCell]; omega), p2'.mono (by omega) (by simp only [size_setCell]; omega), p1'.apart p2' (.inl (by omega))⟩
end Go.Proofs.YtnkacfgbkfkhdaaGreat
