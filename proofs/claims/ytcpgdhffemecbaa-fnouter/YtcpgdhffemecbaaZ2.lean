/-
  Several walks, one behind the other: ImplEach3, ImplOut1, ImplConcat, Pair5, ImplOuter, ImplRev, ImplPlaceOf, ImplFlip.
-/
import Derived.Test.YtcpgdhffemecbaaZ1
import Derived.Test.YtcpgdhffemecbaaOuterM
import Derived.Shelf.Abstract
import Derived.Test.YtcpgdhffemecbaaOutB
import Derived.Lib.AppendZeros
import Derived.Test.YtcpgdhffemecbaaOuterN
import Derived.Test.YtcpgdhffemecbaaEachP
import Derived.Test.YtcpgdhffemecbaaLaw3
import Derived.Test.YtcpgdhffemecbaaFlipM
namespace Go.Proofs.Ytcpgdhffemecbaa
open Go.RowKit
set_option linter.unusedVariables false
set_option linter.unusedSimpArgs false
theorem four_blocks (w : World) (A B C D : Obj) : ((((w.alloc A).alloc B).alloc C).alloc D).heap[w.heap.size]? = some A ∧ ((((w.alloc A).alloc B).alloc C).alloc D).heap[w.heap.size + 1]? = some B ∧ ((((w.alloc A).alloc B).alloc C).alloc D).heap[w.heap.size + 1 + 1]? = some C ∧ ((((w.alloc A).alloc B).alloc C).alloc D).heap[w.heap.size + 1 + 1 + 1]? = some D := by
  have e1 := heap_alloc_new w A
  have e2 := heap_alloc_new (w.alloc A) B
  have e3 := heap_alloc_new ((w.alloc A).alloc B) C
  have e4 := heap_alloc_new (((w.alloc A).alloc B).alloc C) D
  simp only [World.size_alloc] at e2 e3 e4
  refine ⟨?_, ?_, ?_, e4⟩
  · rw [heap_alloc_old _ _ (by simp only [World.size_alloc]; omega), heap_alloc_old _ _ (by simp only [World.size_alloc]; omega), heap_alloc_old _ _ (by simp only [World.size_alloc]; omega)]; exact e1
  · rw [heap_alloc_old _ _ (by simp only [World.size_alloc]; omega), heap_alloc_old _ _ (by simp only [World.size_alloc]; omega)]; exact e2
  · rw [heap_alloc_old _ _ (by simp only [World.size_alloc]; omega)]; exact e3
theorem twoImpl_bad {g : Int} {s d t e : List Int} (h : eachTwoC g s d t e ≠ 0) : eachTwoS g s d t e = [] ∧ eachTwoD g s d t e = [] := by
  unfold eachTwoS eachTwoD; rw [if_neg h, if_neg h]; exact ⟨rfl, rfl⟩
set_option maxRecDepth 20000 in
set_option maxHeartbeats 4000000 in
/-- EachTwo. -/
theorem eachTwo_impl {g : Int} {s d t e : List Int} {w : World} {v u : Value} (h : ArrI w v s d) (k : ArrI w u t e) (hs : s.length ≤ 1048576) (hd : d.length ≤ 1048576) (ht : t.length ≤ 1048576) (he : e.length ≤ 1048576) :
    Calls Try.prog 15 #[.int .i64 g, v, u] w fun r w' => ∃ v', r = .returned (.tuple #[v', .int .i64 (eachTwoC g s d t e)]) ∧ Arr w.heap.size w'.heap.size w' v' (eachTwoS g s d t e) (eachTwoD g s d t e) ∧ Below w.heap.size w w' := by
  have H : Hid (ArrI w v s d) := h
  have K : Hid (ArrI w u t e) := k
  obtain ⟨a, c, b, f, rfl, _, _, _, _⟩ := h
  obtain ⟨a', c', b', f', rfl, _, _, _, _⟩ := k
  have HFI : Hid (∀ W, Below w.heap.size w W → Calls Try.prog 43 #[.agg #[.slice a s.length c, .slice b d.length f], .agg #[.slice a' t.length c', .slice b' e.length f']] W fun r w' => ∃ v', r = .returned (.tuple #[v', .int .i64 (fitC s d t e)]) ∧ Piece W.heap.size w'.heap.size w' v' (fitS s d t e) ∧ Below W.heap.size W w') := fun W hb => fit_impl (H.out.keep hb) (K.out.keep hb) hs hd ht he
  have HL : Hid (s.length ≤ 1048576 ∧ d.length ≤ 1048576 ∧ t.length ≤ 1048576 ∧ e.length ≤ 1048576) := ⟨hs, hd, ht, he⟩
  clear hs hd ht he
  by_cases hg : sign2 g = true
  · have HG : Hid (sign2 g = true) := hg
    by_cases hf : fitC s d t e = 0
    · obtain ⟨ho, ho'⟩ := fitC_ok hf
      obtain ⟨F1, F2, F3⟩ := fit_size hf
      have EC : Hid (eachTwoC g s d t e = placesC (fun i => twoV g (numOf s d i) (numOf t e i)) (eachN s d t e)) := by show _ = _; unfold eachTwoC placesC; rw [if_pos ⟨ho, ho', hg⟩, if_pos hf]
      have ES : Hid (eachTwoS g s d t e = if placesC (fun i => twoV g (numOf s d i) (numOf t e i)) (eachN s d t e) = 0 then fitS s d t e else []) := by show _ = _; unfold eachTwoS; rw [EC.out]
      have ED : Hid (eachTwoD g s d t e = placesD (fun i => twoV g (numOf s d i) (numOf t e i)) (eachN s d t e)) := by show _ = _; unfold eachTwoD placesD; rw [EC.out]
      have HFL : Hid (∀ (W : World) (q o B E : Nat) (sa : Option Addr) (sc : Nat), Below w.heap.size w W → W.cell? ⟨q, 0, none⟩ = some (.int .i64 g) → q < W.heap.size → W.heap[o]? = some (.cells #[.slice a s.length c, .slice b d.length f, .slice a' t.length c', .slice b' e.length f'] 26 (0, 0)) → Piece B E W (.slice sa (fitS s d t e).length sc) (fitS s d t e) → B ≤ E → E ≤ W.heap.size →
          Calls Try.prog 45 #[.slice sa (fitS s d t e).length sc, .func (.func 44) #[] #[.pointer (some ⟨q, 0, none⟩)], .slice (some ⟨o, 0, none⟩) 2 2] W fun r w' => ∃ v', r = .returned (.tuple #[v', .int .i64 (eachTwoC g s d t e)]) ∧ Arr B w'.heap.size w' v' (eachTwoS g s d t e) (eachTwoD g s d t e) ∧ Below W.heap.size W w') := by
        intro W q o B E sa sc hb hq hqs ho4 hp hBE hEW
        rw [EC.out, ES.out, ED.out]
        refine filled_impl (F := [s, d, t, e]) (enters_of Try.func44 (by kernel_rfl) rfl) (arrs_two ho4 (H.out.keep hb) (K.out.keep hb)) (by decide) F2 ?_ ?_ ?_ hp hBE hEW F1.symm
        · intro j
          obtain ⟨l1, l2, l3, l4⟩ := HL.out
          match j with
          | 0 => exact l1
          | 1 => exact l2
          | 2 => exact l3
          | 3 => exact l4
          | j + 4 => simp
        · intro i hi
          have z1 := arrOk_size ho
          have z2 := arrOk_size ho'
          have k1 : s = [] → d.length = 1 := by rintro rfl; rw [sizeV_0'] at z1; omega
          have k2 : t = [] → e.length = 1 := by rintro rfl; rw [sizeV_0'] at z2; omega
          match i, hi with
          | 0, _ => exact ⟨fun q => by have := k1 q; show 0 < d.length; omega, fun q => by
              show eachN s d t e ≤ d.length
              apply Classical.byContradiction
              intro hh
              have := (F3 d.length (by omega)).2.1 q
              omega⟩
          | 1, _ => exact ⟨fun q => by have := k2 q; show 0 < e.length; omega, fun q => by
              show eachN s d t e ≤ e.length
              apply Classical.byContradiction
              intro hh
              have := (F3 e.length (by omega)).2.2.2 q
              omega⟩
        · intro W' A k hk hb' hi
          exact does2_impl hi ((hb'.cell (p := ⟨q, 0, none⟩) hqs).trans hq)
      have HF0 : Hid (fitC s d t e = 0) := hf
      clear hg hf ho ho' F1 F2 F3 EC ES ED
      generalize eachTwoC g s d t e = C at *
      generalize eachTwoS g s d t e = S at *
      generalize eachTwoD g s d t e = D at *
      generalize fitS s d t e = Z at *
      go_enter Try.func15, Try.ntmps15
      go_wp2_with fail
      refine (knownTwo_impl g _).mono ?_
      rintro r w1 ⟨rfl, hb⟩
      have HB1 : Hid (Below w.heap.size w w1) := bTrans (bAlloc (bAlloc (bAlloc (bAlloc (Below.refl _ _) _) _) _) _) hb
      have q1 := four_blocks w (.cells #[.int .i64 g] 3) (.cells #[.slice a s.length c, .slice b d.length f] 26) (.cells #[.slice a' t.length c', .slice b' e.length f'] 26) (.cells #[.slice none 0 0, .slice none 0 0] 26)
      have G1 : Hid (w1.heap[w.heap.size]? = some (.cells #[.int .i64 g] 3)) := by show _ = _; rw [hb.block _ (lt_of_heapA q1.1)]; exact q1.1
      have X1 : Hid (Box w1 (w.heap.size + 1) (.slice a s.length c) (.slice b d.length f) 26) := Box.keep q1.2.1 hb
      have Y1 : Hid (Box w1 (w.heap.size + 1 + 1) (.slice a' t.length c') (.slice b' e.length f') 26) := Box.keep q1.2.2.1 hb
      have R1 : Hid (Box w1 (w.heap.size + 1 + 1 + 1) (.slice none 0 0) (.slice none 0 0) 26) := Box.keep q1.2.2.2 hb
      clear hb q1
      rw [HG.out]
      have x0 := X1.out.c0
      have x1 := X1.out.c1
      have y0 := Y1.out.c0
      have y1 := Y1.out.c1
      go_wp2_with fail
      refine (HFI.out _ HB1.out).mono ?_
      rintro r w2 ⟨v2, rfl, hp, hb⟩
      obtain ⟨a2, c2, rfl, _⟩ := hp.ints
      have HB2 : Hid (Below w.heap.size w w2) := bTrans HB1.out hb
      have P2 : Hid (Piece w1.heap.size w2.heap.size w2 (.slice a2 Z.length c2) Z) := hp
      have G2 : Hid (w2.heap[w.heap.size]? = some (.cells #[.int .i64 g] 3)) := by show _ = _; rw [hb.block _ (lt_of_heapA G1.out)]; exact G1.out
      have X2 : Hid (Box w2 (w.heap.size + 1) (.slice a s.length c) (.slice b d.length f) 26) := X1.out.keep hb
      have Y2 : Hid (Box w2 (w.heap.size + 1 + 1) (.slice a' t.length c') (.slice b' e.length f') 26) := Y1.out.keep hb
      have R2 : Hid (Box w2 (w.heap.size + 1 + 1 + 1) (.slice none 0 0) (.slice none 0 0) 26) := R1.out.keep hb
      have L1 : Hid (w.heap.size + 1 + 1 + 1 < w1.heap.size ∧ w1.heap.size ≤ w2.heap.size) := ⟨R1.out.lt, hb.size⟩
      rw [HF0.out]
      clear hb hp x0 x1 y0 y1 G1 X1 Y1 R1
      have x0 := X2.out.c0
      have x1 := X2.out.c1
      have y0 := Y2.out.c0
      have y1 := Y2.out.c1
      go_wp2_with fail
      refine (HFL.out _ w.heap.size w2.heap.size w1.heap.size w2.heap.size a2 c2 (bAlloc HB2.out _) (((bAlloc (Below.refl w2.heap.size w2) _).cell (p := ⟨w.heap.size, 0, none⟩) (lt_of_heapA G2.out)).trans (cell_at G2.out rfl)) (Nat.lt_of_lt_of_le (lt_of_heapA G2.out) (bAlloc (Below.refl w2.heap.size w2) _).size) (heap_alloc_new _ _) (P2.out.keep (bAlloc (Below.refl _ _) _)) L1.out.2 (bAlloc (Below.refl w2.heap.size w2) _).size).mono ?_
      rintro r w3 ⟨v3, rfl, ha, hb⟩
      obtain ⟨a3, c3, b3, e3, rfl, _, _, _, _⟩ := ha.arrI
      have HA3 : Hid (Arr w1.heap.size w3.heap.size w3 (.agg #[.slice a3 S.length c3, .slice b3 D.length e3]) S D) := ha
      have HB3 : Hid (Below w.heap.size w w3) := bTrans (bAlloc HB2.out _) hb
      have R3 : Hid (Box w3 (w.heap.size + 1 + 1 + 1) (.slice none 0 0) (.slice none 0 0) 26) := (R2.out.keep (bAlloc (Below.refl _ _) _)).keep hb
      clear ha hb x0 x1 y0 y1
      have r0 := R3.out.c0
      have r1 := R3.out.c1
      have f0 : w3.frozen? ⟨w.heap.size + 1 + 1 + 1, 0, none⟩ = false := free_at R3.out 0
      have f1 : w3.frozen? ⟨w.heap.size + 1 + 1 + 1, 1, none⟩ = false := free_at R3.out 1
      have HR : Hid (((w3.setCell ⟨w.heap.size + 1 + 1 + 1, 0, none⟩ (.slice a3 S.length c3)).setCell ⟨w.heap.size + 1 + 1 + 1, 1, none⟩ (.slice b3 D.length e3)).heap[w.heap.size + 1 + 1 + 1]? = some (.cells #[.slice a3 S.length c3, .slice b3 D.length e3] 26 (0, 0))) := arr_stored R3.out
      go_wp2
      refine bodyPost_ret (results_arr_tmp Try.results15 _ _ (w.heap.size + 1 + 1 + 1) _ _ rfl HR.out) rfl ?_
      refine ⟨_, rfl, ?_, below_setCell (below_setCell HB3.out (by omega) _ _) (by omega) _ _⟩
      have L := L1.out.1
      exact ((HA3.out.setCell L _ _).setCell L _ _).mono (by omega) (by simp only [size_setCell]; omega)
    · have EC : Hid (eachTwoC g s d t e = fitC s d t e) := by
        show _ = _
        unfold eachTwoC
        by_cases ho : arrOk s d = true ∧ arrOk t e = true
        · rw [if_pos ⟨ho.1, ho.2, hg⟩, if_neg hf]
        · rw [if_neg (fun q => ho ⟨q.1, q.2.1⟩), fitC_no ho]
      obtain ⟨es, ed⟩ := twoImpl_bad (g := g) (s := s) (d := d) (t := t) (e := e) (by rw [EC.out]; exact hf)
      rw [EC.out, es, ed]
      clear EC es ed hg
      generalize fitC s d t e = C at *
      generalize fitS s d t e = Z at *
      have hne : (C != 0) = true := by simpa using hf
      clear hf
      go_enter Try.func15, Try.ntmps15
      go_wp2_with fail
      refine (knownTwo_impl g _).mono ?_
      rintro r w1 ⟨rfl, hb⟩
      have HB1 : Hid (Below w.heap.size w w1) := bTrans (bAlloc (bAlloc (bAlloc (bAlloc (Below.refl _ _) _) _) _) _) hb
      have q1 := four_blocks w (.cells #[.int .i64 g] 3) (.cells #[.slice a s.length c, .slice b d.length f] 26) (.cells #[.slice a' t.length c', .slice b' e.length f'] 26) (.cells #[.slice none 0 0, .slice none 0 0] 26)
      have G1 : Hid (w1.heap[w.heap.size]? = some (.cells #[.int .i64 g] 3)) := by show _ = _; rw [hb.block _ (lt_of_heapA q1.1)]; exact q1.1
      have X1 : Hid (Box w1 (w.heap.size + 1) (.slice a s.length c) (.slice b d.length f) 26) := Box.keep q1.2.1 hb
      have Y1 : Hid (Box w1 (w.heap.size + 1 + 1) (.slice a' t.length c') (.slice b' e.length f') 26) := Box.keep q1.2.2.1 hb
      have R1 : Hid (Box w1 (w.heap.size + 1 + 1 + 1) (.slice none 0 0) (.slice none 0 0) 26) := Box.keep q1.2.2.2 hb
      clear hb q1
      rw [HG.out]
      have x0 := X1.out.c0
      have x1 := X1.out.c1
      have y0 := Y1.out.c0
      have y1 := Y1.out.c1
      go_wp2_with fail
      refine (HFI.out _ HB1.out).mono ?_
      rintro r w2 ⟨v2, rfl, hp, hb⟩
      obtain ⟨a2, c2, rfl, _⟩ := hp.ints
      have HB2 : Hid (Below w.heap.size w w2) := bTrans HB1.out hb
      have R2 : Hid (Box w2 (w.heap.size + 1 + 1 + 1) (.slice none 0 0) (.slice none 0 0) 26) := R1.out.keep hb
      clear hb hp x0 x1 y0 y1 G1 X1 Y1 R1
      have r0 := R2.out.c0
      have r1 := R2.out.c1
      have f0 : w2.frozen? ⟨w.heap.size + 1 + 1 + 1, 0, none⟩ = false := free_at R2.out 0
      have f1 : w2.frozen? ⟨w.heap.size + 1 + 1 + 1, 1, none⟩ = false := free_at R2.out 1
      have HR : Hid (((w2.setCell ⟨w.heap.size + 1 + 1 + 1, 0, none⟩ (.slice none 0 0)).setCell ⟨w.heap.size + 1 + 1 + 1, 1, none⟩ (.slice none 0 0)).heap[w.heap.size + 1 + 1 + 1]? = some (.cells #[.slice none 0 0, .slice none 0 0] 26 (0, 0))) := arr_stored R2.out
      go_wp2
      refine bodyPost_ret (results_arr_tmp Try.results15 _ _ (w.heap.size + 1 + 1 + 1) _ _ rfl HR.out) rfl ?_
      exact ⟨_, rfl, arr_zero _ _ _, below_setCell (below_setCell HB2.out (by omega) _ _) (by omega) _ _⟩
  · have hg' : sign2 g = false := by simpa using hg
    have HG : Hid (sign2 g = false) := hg'
    have EC : Hid (eachTwoC g s d t e = 1) := by
      show _ = _
      unfold eachTwoC
      rw [if_neg (fun q => hg q.2.2)]
    obtain ⟨es, ed⟩ := twoImpl_bad (g := g) (s := s) (d := d) (t := t) (e := e) (by rw [EC.out]; decide)
    rw [EC.out, es, ed]
    clear EC es ed hg hg' HFI
    go_enter Try.func15, Try.ntmps15
    go_wp2_with fail
    refine (knownTwo_impl g _).mono ?_
    rintro r w1 ⟨rfl, hb⟩
    have HB1 : Hid (Below w.heap.size w w1) := bTrans (bAlloc (bAlloc (bAlloc (bAlloc (Below.refl _ _) _) _) _) _) hb
    have q1 := four_blocks w (.cells #[.int .i64 g] 3) (.cells #[.slice a s.length c, .slice b d.length f] 26) (.cells #[.slice a' t.length c', .slice b' e.length f'] 26) (.cells #[.slice none 0 0, .slice none 0 0] 26)
    have G1 : Hid (w1.heap[w.heap.size]? = some (.cells #[.int .i64 g] 3)) := by show _ = _; rw [hb.block _ (lt_of_heapA q1.1)]; exact q1.1
    have X1 : Hid (Box w1 (w.heap.size + 1) (.slice a s.length c) (.slice b d.length f) 26) := Box.keep q1.2.1 hb
    have Y1 : Hid (Box w1 (w.heap.size + 1 + 1) (.slice a' t.length c') (.slice b' e.length f') 26) := Box.keep q1.2.2.1 hb
    have R1 : Hid (Box w1 (w.heap.size + 1 + 1 + 1) (.slice none 0 0) (.slice none 0 0) 26) := Box.keep q1.2.2.2 hb
    clear hb q1
    rw [HG.out]
    have r0 := R1.out.c0
    have r1 := R1.out.c1
    have f0 : w1.frozen? ⟨w.heap.size + 1 + 1 + 1, 0, none⟩ = false := free_at R1.out 0
    have f1 : w1.frozen? ⟨w.heap.size + 1 + 1 + 1, 1, none⟩ = false := free_at R1.out 1
    have HR : Hid (((w1.setCell ⟨w.heap.size + 1 + 1 + 1, 0, none⟩ (.slice none 0 0)).setCell ⟨w.heap.size + 1 + 1 + 1, 1, none⟩ (.slice none 0 0)).heap[w.heap.size + 1 + 1 + 1]? = some (.cells #[.slice none 0 0, .slice none 0 0] 26 (0, 0))) := arr_stored R1.out
    go_wp2
    refine bodyPost_ret (results_arr_tmp Try.results15 _ _ (w.heap.size + 1 + 1 + 1) _ _ rfl HR.out) rfl ?_
    exact ⟨_, rfl, arr_zero _ _ _, below_setCell (below_setCell HB1.out (by omega) _ _) (by omega) _ _⟩
end Go.Proofs.Ytcpgdhffemecbaa
namespace Go.Proofs.Ytcpgdhffemecbaa
open Go.RowKit
set_option linter.unusedVariables false
set_option linter.unusedSimpArgs false
theorem flat_succ (D : Nat → List Int) (k : Nat) : (List.range (k + 1)).flatMap D = (List.range k).flatMap D ++ D k := by
  rw [List.range_succ, List.flatMap_append]; simp
set_option maxRecDepth 20000 in
set_option maxHeartbeats 8000000 in
/-- strung. -/
theorem strung_impl {S : List Int} {n B E : Nat} {C : Nat → Int} {T D : Nat → List Int} {w : World} {a : Option Addr} {c f : Nat} {p q : Value} (hE : ∀ (args : Array Value) (w : World), (callFunc f args).run Try.prog w = .ok (.enter f args) w)
    (hS : Piece B E w (.slice a S.length c) S) (hB : B ≤ w.heap.size) (hEw : E ≤ w.heap.size) (hz : 0 ≤ sizeV S) (hn : n ≤ 90000) (hD : ∀ k, k ≤ n → ((List.range k).flatMap D).length ≤ 100000)
    (hV : ∀ (W : World) (k : Nat), k < n → Below w.heap.size w W → Calls Try.prog f #[.int .i64 (k : Int), p, q] W fun r W' => ∃ v', r = .returned (.tuple #[v', .int .i64 (C k)]) ∧ Arr W.heap.size W'.heap.size W' v' (T k) (D k) ∧ Below W.heap.size W W') :
    Calls Try.prog 53 #[.slice a S.length c, .int .i64 (n : Int), .func (.func f) #[] #[p, q]] w fun r w' => ∃ v', r = .returned (.tuple #[v', .int .i64 (firstC C n)]) ∧ Arr B w'.heap.size w' v' (mkR (firstC C n) S ((List.range n).flatMap D)).2.1 (mkR (firstC C n) S ((List.range n).flatMap D)).2.2 ∧ Below w.heap.size w w' := by
  have HV : Hid (∀ (W : World) (k : Nat), k < n → Below w.heap.size w W → Calls Try.prog f #[.int .i64 (k : Int), p, q] W fun r W' => ∃ v', r = .returned (.tuple #[v', .int .i64 (C k)]) ∧ Arr W.heap.size W'.heap.size W' v' (T k) (D k) ∧ Below W.heap.size W W') := hV
  have HD : Hid (∀ k, k ≤ n → ((List.range k).flatMap D).length ≤ 100000) := hD
  have HS : Hid (Piece B E w (.slice a S.length c) S) := hS
  obtain ⟨m, hm⟩ : ∃ m : Nat, sizeV S = (m : Int) := ⟨(sizeV S).toNat, by omega⟩
  have hm3 : m ≤ 300 := by have := sizeV_bd S; omega
  have HSZ : Hid (∀ W, Below w.heap.size w W → Calls Try.prog 60 #[.slice a S.length c] W fun r w' => r = .returned (.int .i64 (m : Int)) ∧ Below W.heap.size W w') := fun W hb => by
    obtain ⟨q1, q2, q3, q4⟩ := (hS.keep hb).ints
    cases q3
    have qq := size_impl c q4
    rw [hm] at qq
    exact qq
  have HB0 : Hid (B ≤ w.heap.size) := hB
  have HE0 : Hid (E ≤ w.heap.size) := hEw
  clear hV hD hS hm hz hB hEw
  go_enter Try.func53, Try.ntmps53
  go_wp2_with fail
  refine (HSZ.out _ (bAlloc (Below.refl _ _) _)).mono ?_
  rintro r w2 ⟨rfl, hb⟩
  have HB2 : Hid (Below w.heap.size w w2) := bTrans (bAlloc (Below.refl _ _) _) hb
  have R2 : Hid (Box w2 w.heap.size (.slice none 0 0) (.slice none 0 0) 26) := (box_new w _ _ _).keep hb
  have LT : Hid (w.heap.size < w2.heap.size) := R2.out.lt
  clear hb HSZ
  obtain ⟨w3, r3, n3, b3⟩ := make0_ints m (by omega) w2
  have N3 : Hid (NewInts w2.heap.size w3 (.slice (some ⟨w2.heap.size, 0, none⟩) 0 m) []) := n3
  have B3 : Hid (Below w2.heap.size w2 w3) := b3
  clear n3 b3
  go_wp2
  clear r3
  go_loopw [8, 16] (fun v i w' => ∃ (k : Nat), k ≤ n ∧ i = .int .i64 (k : Int) ∧ NewInts w2.heap.size w' v ((List.range k).flatMap D) ∧ firstC C k = 0 ∧ Below w2.heap.size w2 w') (fun _ i _ => n - (intOf i).toNat)
  case atStart => exact ⟨0, by omega, rfl, N3.out, rfl, B3.out⟩
  case round =>
    obtain ⟨k, hk, rfl, hN, hF, hB⟩ := hrel
    have NK : Hid (NewInts w2.heap.size wr _ ((List.range k).flatMap D)) := hN
    have BK : Hid (Below w2.heap.size w2 wr) := hB
    have FK : Hid (firstC C k = 0) := hF
    obtain ⟨a5, c5, rfl, _⟩ := hN.ints
    clear hN hB hF N3 B3
    by_cases hlt : (k : Int) < (n : Int)
    · have L : k < n := by omega
      have HVK : Hid (Calls Try.prog f #[.int .i64 (k : Int), p, q] wr fun r W' => ∃ v', r = .returned (.tuple #[v', .int .i64 (C k)]) ∧ Arr wr.heap.size W'.heap.size W' v' (T k) (D k) ∧ Below wr.heap.size wr W') := HV.out wr k L (bTrans HB2.out BK.out)
      have E1 : Hid (C k = 0 → firstC C (k + 1) = 0) := fun h => firstC_go FK.out h
      have E2 : Hid (C k ≠ 0 → firstC C n = C k) := fun h => firstC_stop FK.out h L
      have LD := HD.out (k + 1) (by omega)
      have EF : Hid ((List.range (k + 1)).flatMap D = (List.range k).flatMap D ++ D k) := flat_succ D k
      rw [EF.out, List.length_append] at LD
      obtain ⟨P, hP⟩ : ∃ P, P = (List.range k).flatMap D := ⟨_, rfl⟩
      rw [← hP] at NK LD EF ⊢
      clear hP
      obtain ⟨dk, hdk⟩ : ∃ dk, dk = D k := ⟨_, rfl⟩
      obtain ⟨tk, htk⟩ : ∃ tk, tk = T k := ⟨_, rfl⟩
      rw [← hdk] at EF LD HVK
      rw [← htk] at HVK
      clear hdk htk
      have LDK : Hid (P.length + dk.length ≤ 100000) := LD
      clear LD
      generalize C k = x at *
      by_cases hx : x = 0
      · subst hx
        have E1' : Hid (firstC C (k + 1) = 0) := E1.out rfl
        clear E1 E2
        go_wp2_with fail
        go_at_fn f
        refine HVK.out.mono ?_
        rintro r w4 ⟨v4, rfl, ha, hb⟩
        obtain ⟨ta, tc, da, dc, rfl, _, i4, _, _⟩ := ha.arrI
        have I4 : Hid (Ints w4 da dk) := i4
        have HB4 : Hid (Below wr.heap.size wr w4) := hb
        clear ha hb i4
        obtain ⟨a7, c7, w7, r7, n7, b7⟩ := growL (NewInts.keep (NewInts.keep NK.out HB4.out) (bAlloc (Below.refl _ _) (.cells #[.slice ta tk.length tc, .slice da dk.length dc] 26))) (I4.out.keep (bAlloc (Below.refl _ _) (.cells #[.slice ta tk.length tc, .slice da dk.length dc] 26))) (by have := BK.out.size; have := HB4.out.size; simp; omega) (by have := LDK.out; omega) dc
        have R7 : Hid (_ = _) := r7
        have N7 : Hid (NewInts w2.heap.size w7 (.slice a7 (P ++ dk).length c7) (P ++ dk)) := n7
        have B7 : Hid (Below w2.heap.size w2 w7) := (bAlloc (bTrans BK.out HB4.out) _).trans b7
        clear r7 n7 b7
        go_wp2_with (at_builtin; refine wpList_append_ty rfl _ _ 24 24 rfl _ _ _ rfl rfl R7.out ?_)
        go_roundw
        case rel => exact ⟨k + 1, by omega, by go_num, by rw [EF.out]; have := N7.out; rw [List.length_append] at this; exact this, E1'.out, B7.out⟩
        case measure => simp [intOf]; omega
      · have E2' : Hid (firstC C n = x) := E2.out hx
        clear E1 E2
        go_wp2_with fail
        go_at_fn f
        refine HVK.out.mono ?_
        rintro r w4 ⟨v4, rfl, ha, hb⟩
        obtain ⟨ta, tc, da, dc, rfl, _, _, _, _⟩ := ha.arrI
        have HB4 : Hid (Below w2.heap.size w2 w4) := bTrans BK.out hb
        have R4 : Hid (Box (w4.alloc (.cells #[.slice ta tk.length tc, .slice da dk.length dc] 26)) w.heap.size (.slice none 0 0) (.slice none 0 0) 26) := ((R2.out.keep HB4.out).keep (bAlloc (Below.refl _ _) _))
        have BW4 : Hid (Below w.heap.size w (w4.alloc (.cells #[.slice ta tk.length tc, .slice da dk.length dc] 26))) := bAlloc (bTrans HB2.out HB4.out) _
        clear ha hb
        have y0 := R4.out.c0
        have y1 := R4.out.c1
        have f0 := free_at R4.out 0
        have f1 := free_at R4.out 1
        have HR : Hid (_ = _) := arr_stored (x' := .slice none 0 0) (y' := .slice none 0 0) R4.out
        have hxx : (x != 0) = true := by simpa using hx
        go_wp2
        refine bodyPost_ret (results_arr_tmp Try.results53 _ _ w.heap.size _ _ rfl HR.out) rfl ?_
        rw [E2'.out, mkR_bad hx]
        exact ⟨_, rfl, arr_zero _ _ _, below_setCell (below_setCell BW4.out (by omega) _ _) (by omega) _ _⟩
    · obtain rfl : k = n := by omega
      have R4 : Hid (Box wr w.heap.size (.slice none 0 0) (.slice none 0 0) 26) := R2.out.keep BK.out
      have BW4 : Hid (Below w.heap.size w wr) := bTrans HB2.out BK.out
      have P4 : Hid (Piece B E wr (.slice a S.length c) S) := HS.out.keep BW4.out
      have N4 : Hid (Piece w2.heap.size wr.heap.size wr (.slice a5 ((List.range k).flatMap D).length c5) ((List.range k).flatMap D)) := NK.out.piece
      clear NK
      generalize ((List.range k).flatMap D).length = q9 at *
      have y0 := R4.out.c0
      have y1 := R4.out.c1
      have f0 := free_at R4.out 0
      have f1 := free_at R4.out 1
      have HR : Hid (_ = _) := arr_stored (x' := .slice a S.length c) (y' := .slice a5 q9 c5) R4.out
      go_wp2
      refine bodyPost_ret (results_arr_tmp Try.results53 _ _ w.heap.size _ _ rfl HR.out) rfl ?_
      rw [FK.out, mkR_good]
      refine ⟨_, rfl, ?_, below_setCell (below_setCell BW4.out (by omega) _ _) (by omega) _ _⟩
      have L1 := LT.out
      have L2 := HE0.out
      have L3 := HB0.out
      have p1' := (P4.out.win (win_setCell wr w.heap.size 0 (.slice a S.length c)) (.inl (by omega))).win (win_setCell _ w.heap.size 1 (.slice a5 q9 c5)) (.inl (by omega))
      have p2' := (N4.out.win (win_setCell wr w.heap.size 0 (.slice a S.length c)) (.inr (by omega))).win (win_setCell _ w.heap.size 1 (.slice a5 q9 c5)) (.inr (by omega))
      have L4 := BW4.out.size
      exact ⟨_, _, rfl, p1'.mono (by omega) (by simp only [size_setCell]; omega), p2'.mono (by omega) (by simp only [size_setCell]; omega), p1'.apart p2' (.inl (by omega))⟩
set_option maxHeartbeats 1000000 in
/-- spreading: its closure, and what it holds. -/
theorem spreading_impl (g : Int) (x y : Value) (w : World) :
    Calls Try.prog 52 #[.int .i64 g, .agg #[x, y]] w fun r w' => r = .returned (.func (.func 93) #[] #[.pointer (some ⟨w.heap.size, 0, none⟩), .pointer (some ⟨w.heap.size + 1, 0, none⟩)]) ∧ w'.cell? ⟨w.heap.size, 0, none⟩ = some (.int .i64 g) ∧ Box w' (w.heap.size + 1) x y 26 ∧ Below w.heap.size w w' ∧ w.heap.size + 2 ≤ w'.heap.size := by
  go_enter Try.func52, Try.ntmps52
  go_wp2
  go_ret
  refine ⟨rfl, ?_, box_new2 w _ _ _ _, bAlloc (bAlloc (Below.refl _ _) _) _, by simp⟩
  exact cell_at (heap_alloc2_old w _ _) rfl
set_option maxRecDepth 20000 in
set_option maxHeartbeats 2000000 in
/-- spreading's closure. -/
theorem spread1_impl {g x : Int} {t e : List Int} {w : World} {o q : Nat} {z z' : Value} (hg : w.cell? ⟨o, 0, none⟩ = some (.int .i64 g)) (ho : o < w.heap.size) (hq : Box w q z z' 26) (k : ArrI w (.agg #[z, z']) t e) (ht : t.length ≤ 1048576) (he : e.length ≤ 1048576) :
    Calls Try.prog 93 #[.int .i64 x, .pointer (some ⟨o, 0, none⟩), .pointer (some ⟨q, 0, none⟩)] w fun r w' => ∃ v', r = .returned (.tuple #[v', .int .i64 (eachTwoC g [] [x] t e)]) ∧ Arr w.heap.size w'.heap.size w' v' (eachTwoS g [] [x] t e) (eachTwoD g [] [x] t e) ∧ Below w.heap.size w w' := by
  have HE : Hid (∀ W o', Below w.heap.size w W → Ints W (some ⟨o', 0, none⟩) [x] → Calls Try.prog 15 #[.int .i64 g, .agg #[.slice none 0 0, .slice (some ⟨o', 0, none⟩) 1 1], .agg #[z, z']] W fun r w' => ∃ v', r = .returned (.tuple #[v', .int .i64 (eachTwoC g [] [x] t e)]) ∧ Arr W.heap.size w'.heap.size w' v' (eachTwoS g [] [x] t e) (eachTwoD g [] [x] t e) ∧ Below W.heap.size W w') := fun W o' hb hi => eachTwo_impl ⟨none, 0, _, 1, rfl, .inl rfl, hi, Nat.le_refl _, Nat.le_refl _⟩ (k.keep hb) (by simp) (by simp) ht he
  obtain ⟨C, hC⟩ : ∃ C, C = eachTwoC g [] [x] t e := ⟨_, rfl⟩
  obtain ⟨S, hS⟩ : ∃ S, S = eachTwoS g [] [x] t e := ⟨_, rfl⟩
  obtain ⟨D, hD⟩ : ∃ D, D = eachTwoD g [] [x] t e := ⟨_, rfl⟩
  rw [← hC, ← hS, ← hD] at HE
  rw [← hC, ← hS, ← hD]
  have q0 := hq.c0
  have q1 := hq.c1
  have HQ : Hid (q < w.heap.size) := hq.lt
  have u0 : (w.alloc (.cells #[.slice none 0 0, .slice none 0 0] 26)).cell? ⟨o, 0, none⟩ = some (.int .i64 g) := ((bAlloc (Below.refl w.heap.size w) (.cells #[.slice none 0 0, .slice none 0 0] 26)).cell (p := ⟨o, 0, none⟩) ho).trans hg
  have u1 : ((w.alloc (.cells #[.slice none 0 0, .slice none 0 0] 26)).alloc (.cells #[.int .i64 x] 3)).cell? ⟨q, 0, none⟩ = some z := ((bAlloc (bAlloc (Below.refl w.heap.size w) (.cells #[.slice none 0 0, .slice none 0 0] 26)) (.cells #[.int .i64 x] 3)).cell (p := ⟨q, 0, none⟩) hq.lt).trans q0
  have u2 : ((w.alloc (.cells #[.slice none 0 0, .slice none 0 0] 26)).alloc (.cells #[.int .i64 x] 3)).cell? ⟨q, 1, none⟩ = some z' := ((bAlloc (bAlloc (Below.refl w.heap.size w) (.cells #[.slice none 0 0, .slice none 0 0] 26)) (.cells #[.int .i64 x] 3)).cell (p := ⟨q, 1, none⟩) hq.lt).trans q1
  have i1 : Ints ((w.alloc (.cells #[.slice none 0 0, .slice none 0 0] 26)).alloc (.cells #[.int .i64 x] 3)) (some ⟨w.heap.size + 1, 0, none⟩) [x] := by
    have q := ints_new (w.alloc (.cells #[.slice none 0 0, .slice none 0 0] 26)) [x] 3
    rw [show (w.alloc (.cells #[.slice none 0 0, .slice none 0 0] 26)).heap.size = w.heap.size + 1 by simp] at q
    exact q
  have II : Hid (_) := i1
  clear hC hS hD k hq i1
  go_enter Try.func93, Try.ntmps93
  go_wp2_with fail
  refine (HE.out _ _ (bAlloc (bAlloc (Below.refl _ _) _) _) II.out).mono ?_
  rintro r w1 ⟨v1, rfl, ha, hb⟩
  obtain ⟨s1, d1, rfl, p1, p2, p3⟩ := ha
  obtain ⟨ta, tc, rfl, _⟩ := p1.ints
  obtain ⟨da, dc, rfl, _⟩ := p2.ints
  have HB1 : Hid (Below w.heap.size w w1) := bTrans (bAlloc (bAlloc (Below.refl _ _) _) _) hb
  have R1 : Hid (Box w1 w.heap.size (.slice none 0 0) (.slice none 0 0) 26) := (((box_new w _ _ _).keep (bAlloc (Below.refl _ _) _))).keep hb
  have A1 : Hid (Arr (w.heap.size + 1) w1.heap.size w1 (.agg #[.slice ta S.length tc, .slice da D.length dc]) S D) := Arr.mono ⟨_, _, rfl, p1, p2, p3⟩ (by simp) (Nat.le_refl _)
  have LT : Hid (w.heap.size < w1.heap.size) := R1.out.lt
  clear p1 p2 p3 hb HE q0 q1 hg u0 u1 u2
  have y0 := R1.out.c0
  have y1 := R1.out.c1
  have f0 := free_at R1.out 0
  have f1 := free_at R1.out 1
  have HR : Hid (_ = _) := arr_stored (x' := .slice ta S.length tc) (y' := .slice da D.length dc) R1.out
  go_wp2
  refine bodyPost_ret (results_arr_tmp Try.results93 _ _ w.heap.size _ _ rfl HR.out) rfl ?_
  refine ⟨_, rfl, ?_, below_setCell (below_setCell HB1.out (by omega) _ _) (by omega) _ _⟩
  have L1 := LT.out
  exact ((A1.out.setCell (by omega) _ _).setCell (by omega) _ _).mono (by omega) (by simp only [size_setCell]; omega)
set_option maxRecDepth 20000 in
set_option maxHeartbeats 2000000 in
/-- Outer's closure. -/
theorem outer1_impl {g : Int} {d t e : List Int} {w : World} {o q p m k : Nat} {z z' y : Value} {b : Option Addr} {f : Nat} (hw : w.cell? ⟨p, 0, none⟩ = some (.func (.func 93) #[] #[.pointer (some ⟨o, 0, none⟩), .pointer (some ⟨q, 0, none⟩)])) (hm : Box w m y (.slice b d.length f) 26) (hd : Ints w b d) (hp : p < w.heap.size) (hk : k < d.length) (hd3 : d.length ≤ 300)
    (hg : w.cell? ⟨o, 0, none⟩ = some (.int .i64 g)) (ho : o < w.heap.size) (hq : Box w q z z' 26) (hA : ArrI w (.agg #[z, z']) t e) (ht : t.length ≤ 1048576) (he : e.length ≤ 1048576) :
    Calls Try.prog 54 #[.int .i64 (k : Int), .pointer (some ⟨p, 0, none⟩), .pointer (some ⟨m, 0, none⟩)] w fun r w' => ∃ v', r = .returned (.tuple #[v', .int .i64 (eachTwoC g [] [d.getD k 0] t e)]) ∧ Arr w.heap.size w'.heap.size w' v' (eachTwoS g [] [d.getD k 0] t e) (eachTwoD g [] [d.getD k 0] t e) ∧ Below w.heap.size w w' := by
  obtain ⟨x, hx⟩ : ∃ x, x = d.getD k 0 := ⟨_, rfl⟩
  obtain ⟨b1, o1, rfl, hb1, c1⟩ := hd.at hk
  rw [← hx] at c1 ⊢
  have HE : Hid (∀ W, Below w.heap.size w W → Calls Try.prog 93 #[.int .i64 x, .pointer (some ⟨o, 0, none⟩), .pointer (some ⟨q, 0, none⟩)] W fun r w' => ∃ v', r = .returned (.tuple #[v', .int .i64 (eachTwoC g [] [x] t e)]) ∧ Arr W.heap.size w'.heap.size w' v' (eachTwoS g [] [x] t e) (eachTwoD g [] [x] t e) ∧ Below W.heap.size W w') := fun W hb => spread1_impl ((hb.cell (p := ⟨o, 0, none⟩) ho).trans hg) (Nat.lt_of_lt_of_le ho hb.size) (hq.keep hb) (hA.keep hb) ht he
  obtain ⟨C, hC⟩ : ∃ C, C = eachTwoC g [] [x] t e := ⟨_, rfl⟩
  obtain ⟨S, hS⟩ : ∃ S, S = eachTwoS g [] [x] t e := ⟨_, rfl⟩
  obtain ⟨D, hD⟩ : ∃ D, D = eachTwoD g [] [x] t e := ⟨_, rfl⟩
  rw [← hC, ← hS, ← hD] at HE
  rw [← hC, ← hS, ← hD]
  have q1 := hm.c1
  have hki : (k : Int) < (d.length : Int) := by omega
  have lw : p < w.heap.size := hp
  have u0 : (w.alloc (.cells #[.slice none 0 0, .slice none 0 0] 26)).cell? ⟨p, 0, none⟩ = some (.func (.func 93) #[] #[.pointer (some ⟨o, 0, none⟩), .pointer (some ⟨q, 0, none⟩)]) := ((bAlloc (Below.refl w.heap.size w) (.cells #[.slice none 0 0, .slice none 0 0] 26)).cell (p := ⟨p, 0, none⟩) lw).trans hw
  have u1 : (w.alloc (.cells #[.slice none 0 0, .slice none 0 0] 26)).cell? ⟨m, 1, none⟩ = some (.slice (some ⟨b1, o1, none⟩) d.length f) := ((bAlloc (Below.refl w.heap.size w) (.cells #[.slice none 0 0, .slice none 0 0] 26)).cell (p := ⟨m, 1, none⟩) hm.lt).trans q1
  have u2 : (w.alloc (.cells #[.slice none 0 0, .slice none 0 0] 26)).cell? ⟨b1, o1 + k, none⟩ = some (.int .i64 x) := ((bAlloc (Below.refl w.heap.size w) (.cells #[.slice none 0 0, .slice none 0 0] 26)).cell (p := ⟨b1, o1 + k, none⟩) hb1).trans c1
  clear hC hS hD hx hA hq hg hm hd
  have hE := enters_of Try.func93 (by kernel_rfl) rfl
  go_enter Try.func54, Try.ntmps54
  go_wp2_with fail
  have HU : Hid ((w.alloc (.cells #[.slice none 0 0, .slice none 0 0] 26)).cell? ⟨p, 0, none⟩ = some (.func (.func 93) #[] #[.pointer (some ⟨o, 0, none⟩), .pointer (some ⟨q, 0, none⟩)]) ∧ (w.alloc (.cells #[.slice none 0 0, .slice none 0 0] 26)).cell? ⟨m, 1, none⟩ = some (.slice (some ⟨b1, o1, none⟩) d.length f) ∧ (w.alloc (.cells #[.slice none 0 0, .slice none 0 0] 26)).cell? ⟨b1, o1 + k, none⟩ = some (.int .i64 x)) := ⟨u0, u1, u2⟩
  clear HU
  go_region_with (go_at_call 93; refine (HE.out _ ((bAlloc (Below.refl w.heap.size w) (.cells #[.slice none 0 0, .slice none 0 0] 26)).drew)).mono ?_; rintro r w1 ⟨v1, rfl, ha, hb⟩; obtain ⟨s1, d1, rfl, p1, p2, p3⟩ := ha; obtain ⟨ta, tc, rfl, _⟩ := p1.ints; obtain ⟨da, dc, rfl, _⟩ := p2.ints; have HB1 : Hid (Below w.heap.size w w1) := bTrans ((bAlloc (Below.refl w.heap.size w) (.cells #[.slice none 0 0, .slice none 0 0] 26)).drew) hb; have R1 : Hid (Box w1 w.heap.size (.slice none 0 0) (.slice none 0 0) 26) := (((box_new w _ _ _).keep (Below.refl _ _).drew)).keep hb; have A1 : Hid (Arr (w.heap.size + 1) w1.heap.size w1 (.agg #[.slice ta S.length tc, .slice da D.length dc]) S D) := Arr.mono ⟨_, _, rfl, p1, p2, p3⟩ (by simp) (Nat.le_refl _); have LT : Hid (w.heap.size < w1.heap.size) := R1.out.lt; clear p1 p2 p3 hb; have y0 := R1.out.c0; have y1 := R1.out.c1; have f0 := free_at R1.out 0; have f1 := free_at R1.out 1; have HR : Hid (_ = _) := arr_stored (x' := .slice ta S.length tc) (y' := .slice da D.length dc) R1.out)
  all_goals
    go_wp2
    refine bodyPost_ret (results_arr_tmp Try.results54 _ _ w.heap.size _ _ rfl HR.out) rfl ?_
    refine ⟨_, rfl, ?_, below_setCell (below_setCell HB1.out (by omega) _ _) (by omega) _ _⟩
    have L1 := LT.out
    exact ((A1.out.setCell (by omega) _ _).setCell (by omega) _ _).mono (by omega) (by simp only [size_setCell]; omega)
end Go.Proofs.Ytcpgdhffemecbaa
namespace Go.Proofs.Ytcpgdhffemecbaa
open Go.RowKit
set_option linter.unusedVariables false
set_option linter.unusedSimpArgs false
theorem run_zeros (w : World) (ty : TypeId) {n : Nat} (h0 : 0 < n) (hn : n ≤ 1048576) :
    ∃ cap w', (Builtin.append_ #[24, 3] ty #[.slice none 0 0, .int .i64 (n : Int)]).run Try.prog w = .ok (.slice (some ⟨w.heap.size, 0, none⟩) n cap) w' ∧ NewInts w.heap.size w' (.slice (some ⟨w.heap.size, 0, none⟩) 0 cap) [] ∧ Below w.heap.size w w' := by
  obtain ⟨i, hq, z1, z2, z3⟩ : ∃ i, Try.prog.info? 3 = some i ∧ i.zero = some (.int .i64 0) ∧ i.size = 1 ∧ i.bytes = 8 := by
    have hi := info_int
    cases hq : Try.prog.info? 3 with
    | none => rw [hq] at hi; cases hi
    | some i => rw [hq] at hi; simp at hi; exact ⟨i, rfl, hi.1, hi.2.1, hi.2.2⟩
  refine ⟨_, _, Lib.run_append_nil_zeros w 24 3 ty 3 i (.int .i64 0) .i64 .i64 Try.underlying24 Try.underlying3 hq z1 n h0 (by omega) (by omega) (by rw [z3]; omega), ?_, bAlloc ((Below.refl w.heap.size w).drew) _⟩
  have hge := grownCap_ge w n 0 3
  have hcm := grownCap_le_maxLen w n 0 3 (by unfold maxLen; omega)
  refine ⟨rfl, .inr ⟨w.heap.size, _, _, rfl, Nat.le_refl _, heap_alloc_new w.drew _, Nat.zero_le _, hcm, ?_, by simp⟩⟩
  simp only [Array.size_append, size_zeroCells]
  rw [show (Value.int .i64 0).cells.size = 1 from rfl]
  omega
set_option maxRecDepth 20000 in
set_option maxHeartbeats 2000000 in
/-- slices.Grow of no list. -/
theorem grow0_impl {n : Nat} (w : World) (hn : n ≤ 1048576) :
    Calls Try.prog 91 #[.slice none 0 0, .int .i64 (n : Int)] w fun r w' => ∃ v, r = .returned v ∧ NewInts w.heap.size w' v [] ∧ Below w.heap.size w w' := by
  by_cases h0 : n = 0
  · subst h0
    go_enter Try.func91, Try.ntmps91
    go_wp2
    go_ret
    exact ⟨_, rfl, NewInts.nil _ _, Below.refl _ _⟩
  · obtain ⟨cap, w2, r2, n2, b2⟩ := run_zeros w 24 (n := n) (by omega) hn
    have R2 : Hid (_ = _) := r2
    have N2 : Hid (NewInts w.heap.size w2 (.slice (some ⟨w.heap.size, 0, none⟩) 0 cap) []) := n2
    have B2 : Hid (Below w.heap.size w w2) := b2
    have hp : (0 : Int) < (n : Int) := by omega
    clear r2 n2 b2 h0
    go_enter Try.func91, Try.ntmps91
    go_wp2_with (at_builtin; refine wpList_append_ty rfl _ _ 24 3 rfl _ _ _ rfl rfl R2.out ?_)
    go_ret
    exact ⟨_, rfl, N2.out, B2.out⟩
set_option maxRecDepth 20000 in
set_option maxHeartbeats 4000000 in
/-- slices.Concat of two lists: a list of one's own. -/
theorem concat_impl {l m : List Int} {a b : Option Addr} {c c' o : Nat} {w : World} {T : TypeId} (ha : Ints w a l) (hb : Ints w b m) (hl : l.length + m.length ≤ 1048576) (ho : w.heap[o]? = some (.cells #[.slice a l.length c, .slice b m.length c'] T (0, 0))) :
    Calls Try.prog 50 #[.slice (some ⟨o, 0, none⟩) 2 2] w fun r w' => ∃ a' k', r = .returned (.slice a' (l ++ m).length k') ∧ NewInts w.heap.size w' (.slice a' (l ++ m).length k') (l ++ m) ∧ Below w.heap.size w w' := by
  have c0 : w.cell? ⟨o, 0, none⟩ = some (.slice a l.length c) := cell_at ho rfl
  have c1 : w.cell? ⟨o, 1, none⟩ = some (.slice b m.length c') := cell_at ho rfl
  have hlt : o < w.heap.size := lt_of_heapA ho
  have CK : Hid (∀ W, Below w.heap.size w W → W.cell? ⟨o, 0, none⟩ = some (.slice a l.length c) ∧ W.cell? ⟨o, 1, none⟩ = some (.slice b m.length c')) := fun W h => ⟨(h.cell (p := ⟨o, 0, none⟩) hlt).trans c0, (h.cell (p := ⟨o, 1, none⟩) hlt).trans c1⟩
  have HA : Hid (∀ W, Below w.heap.size w W → Ints W a l) := fun W h => ha.keep h
  have HB : Hid (∀ W, Below w.heap.size w W → Ints W b m) := fun W h => hb.keep h
  have hG : Hid (∀ W, Calls Try.prog 91 #[.slice none 0 0, .int .i64 ((l.length : Int) + (m.length : Int))] W fun r w' => ∃ v, r = .returned v ∧ NewInts W.heap.size w' v [] ∧ Below W.heap.size W w') := fun W => by
    have := grow0_impl (n := l.length + m.length) W hl
    rw [Int.natCast_add] at this
    exact this
  have hw1 : IntKind.i64.wrap ((l.length : Int) + (m.length : Int)) = (l.length : Int) + (m.length : Int) := by rw [IntKind.wrap_i64]; omega
  clear ha hb ho
  go_enter Try.func50, Try.ntmps50
  go_wp2
  go_loopw [3, 11] (fun z i w' => w' = w ∧ ((i = .int .i64 0 ∧ z = .int .i64 0) ∨ (i = .int .i64 1 ∧ z = .int .i64 (l.length : Int)) ∨ (i = .int .i64 2 ∧ z = .int .i64 ((l.length : Int) + (m.length : Int))))) (fun _ i _ => 2 - (intOf i).toNat)
  case atStart => exact ⟨rfl, .inl ⟨rfl, rfl⟩⟩
  case round =>
    obtain ⟨hw, h⟩ := hrel
    have hw2 := hw.symm
    clear hw
    subst hw2
    rcases h with ⟨rfl, rfl⟩ | ⟨rfl, rfl⟩ | ⟨rfl, rfl⟩
    · go_wp2
      go_roundw
      case rel => exact ⟨by first | rfl | trivial, .inr (.inl ⟨rfl, by simp⟩)⟩
      case measure => simp [intOf]
    · go_wp2
      go_roundw
      case rel => exact ⟨by first | rfl | trivial, .inr (.inr ⟨rfl, by simp⟩)⟩
      case measure => simp [intOf]
    · go_wp2_with fail
      refine (hG.out _).mono ?_
      rintro r w2 ⟨v2, rfl, hn, hb⟩
      have N2 : Hid (NewInts w.heap.size w2 v2 []) := hn
      have B2 : Hid (Below w.heap.size w w2) := hb
      clear hn hb c0 c1
      go_wp2
      go_loopw [6, 27] (fun v i w' => Below w.heap.size w w' ∧ ((i = .int .i64 0 ∧ NewInts w.heap.size w' v []) ∨ (i = .int .i64 1 ∧ NewInts w.heap.size w' v l) ∨ (i = .int .i64 2 ∧ NewInts w.heap.size w' v (l ++ m)))) (fun _ i _ => 2 - (intOf i).toNat)
      case atStart => exact ⟨B2.out, .inl ⟨rfl, N2.out⟩⟩
      case round =>
        obtain ⟨hw, h⟩ := hrel
        have BR : Hid (Below w.heap.size w wr) := hw
        clear hw N2 B2
        obtain ⟨d0, d1⟩ := CK.out _ BR.out
        rcases h with ⟨rfl, hn⟩ | ⟨rfl, hn⟩ | ⟨rfl, hn⟩
        · obtain ⟨a3, k3, w3, r3, n3, b3⟩ := growL hn (HA.out _ BR.out) BR.out.size (by simp; omega) c
          rw [List.nil_append] at r3 n3
          have R3 : Hid (_ = _) := r3
          have N3 : Hid (NewInts w.heap.size w3 (.slice a3 l.length k3) l) := n3
          have B3 : Hid (Below w.heap.size w w3) := BR.out.trans b3
          clear hn r3 n3 b3
          go_wp2_with (at_builtin; refine wpList_append_ty rfl _ _ 24 24 rfl _ _ _ rfl rfl R3.out ?_)
          go_roundw
          case rel => exact ⟨B3.out, .inr (.inl ⟨rfl, N3.out⟩)⟩
          case measure => simp [intOf]
        · obtain ⟨a3, k3, w3, r3, n3, b3⟩ := growL hn (HB.out _ BR.out) BR.out.size hl c'
          have R3 : Hid (_ = _) := r3
          have N3 : Hid (NewInts w.heap.size w3 (.slice a3 (l ++ m).length k3) (l ++ m)) := n3
          have B3 : Hid (Below w.heap.size w w3) := BR.out.trans b3
          clear hn r3 n3 b3
          go_wp2_with (at_builtin; refine wpList_append_ty rfl _ _ 24 24 rfl _ _ _ rfl rfl R3.out ?_)
          go_roundw
          case rel => exact ⟨B3.out, .inr (.inr ⟨rfl, by have q := N3.out; rw [List.length_append] at q; exact q⟩)⟩
          case measure => simp [intOf]
        · have NN : Hid (NewInts w.heap.size wr _ (l ++ m)) := hn
          obtain ⟨a4, k4, rfl, _⟩ := hn.ints
          clear hn
          go_wp2
          go_ret
          exact ⟨_, _, rfl, NN.out, BR.out⟩
end Go.Proofs.Ytcpgdhffemecbaa
namespace Go.Proofs.Ytcpgdhffemecbaa
open Go.RowKit
set_option linter.unusedVariables false
set_option linter.unusedSimpArgs false
theorem arrs_one5 {W : World} {o : Nat} {x y : Value} {t : TypeId} {s d : List Int} (hb : Box W o x y t) (h : ArrI W (.agg #[x, y]) s d) : ArrsI W (.slice (some ⟨o, 0, none⟩) 1 1) [s, d] := by
  obtain ⟨a, c, b, e, e', i1, i2, g1, g2⟩ := h
  obtain ⟨rfl, rfl⟩ : x = .slice a s.length c ∧ y = .slice b d.length e := by cases e'; exact ⟨rfl, rfl⟩
  refine ⟨_, 1, 1, rfl, rfl, .inr ⟨o, 0, [.slice a s.length c, .slice b d.length e], rfl, hb.lt, rfl, fun j hj => ?_⟩⟩
  match j, hj with
  | 0, _ => exact ⟨hb.c0, a, c, rfl, g1, i1⟩
  | 1, _ => exact ⟨hb.c1, b, e, rfl, g2, i2⟩
theorem arrs_two5 {W : World} {o : Nat} {x y x' y' : Value} {t : TypeId} {s d s' d' : List Int} (hb : W.heap[o]? = some (.cells #[x, y, x', y'] t (0, 0))) (h : ArrI W (.agg #[x, y]) s d) (k : ArrI W (.agg #[x', y']) s' d') : ArrsI W (.slice (some ⟨o, 0, none⟩) 2 2) [s, d, s', d'] := by
  obtain ⟨a, c, b, e, e', i1, i2, g1, g2⟩ := h
  obtain ⟨rfl, rfl⟩ : x = .slice a s.length c ∧ y = .slice b d.length e := by cases e'; exact ⟨rfl, rfl⟩
  obtain ⟨a', c', b', f', e', i3, i4, g3, g4⟩ := k
  obtain ⟨rfl, rfl⟩ : x' = .slice a' s'.length c' ∧ y' = .slice b' d'.length f' := by cases e'; exact ⟨rfl, rfl⟩
  refine ⟨_, 2, 2, rfl, rfl, .inr ⟨o, 0, [.slice a s.length c, .slice b d.length e, .slice a' s'.length c', .slice b' d'.length f'], rfl, lt_of_heapA hb, rfl, fun j hj => ?_⟩⟩
  match j, hj with
  | 0, _ => exact ⟨cell_at hb rfl, a, c, rfl, g1, i1⟩
  | 1, _ => exact ⟨cell_at hb rfl, b, e, rfl, g2, i2⟩
  | 2, _ => exact ⟨cell_at hb rfl, a', c', rfl, g3, i3⟩
  | 3, _ => exact ⟨cell_at hb rfl, b', f', rfl, g4, i4⟩
theorem four5 (w : World) (A B C D : Obj) :
    ((((w.alloc A).alloc B).alloc C).alloc D).heap[w.heap.size]? = some A ∧ ((((w.alloc A).alloc B).alloc C).alloc D).heap[w.heap.size + 1]? = some B ∧ ((((w.alloc A).alloc B).alloc C).alloc D).heap[w.heap.size + 1 + 1]? = some C ∧ ((((w.alloc A).alloc B).alloc C).alloc D).heap[w.heap.size + 1 + 1 + 1]? = some D := by
  have e1 := heap_alloc_new w A
  have e2 := heap_alloc_new (w.alloc A) B
  have e3 := heap_alloc_new ((w.alloc A).alloc B) C
  have e4 := heap_alloc_new (((w.alloc A).alloc B).alloc C) D
  simp only [World.size_alloc] at e2 e3 e4
  refine ⟨?_, ?_, ?_, e4⟩
  · rw [heap_alloc_old _ _ (by simp only [World.size_alloc]; omega), heap_alloc_old _ _ (by simp only [World.size_alloc]; omega), heap_alloc_old _ _ (by simp only [World.size_alloc]; omega)]; exact e1
  · rw [heap_alloc_old _ _ (by simp only [World.size_alloc]; omega), heap_alloc_old _ _ (by simp only [World.size_alloc]; omega)]; exact e2
  · rw [heap_alloc_old _ _ (by simp only [World.size_alloc]; omega)]; exact e3
theorem allOkV_two (s d t e : List Int) : allOkV [s, d, t, e] 2 = (arrOk s d && arrOk t e) := by simp [allOkV, List.range_succ]
theorem allOkV_one (t e : List Int) : allOkV [t, e] 1 = arrOk t e := by simp [allOkV, List.range_succ]
theorem allOk2_impl {s d t e : List Int} {W : World} {o : Nat} {x y x' y' : Value} (h : ArrI W (.agg #[x, y]) s d) (k : ArrI W (.agg #[x', y']) t e) (hs : s.length ≤ 1048576) (hd : d.length ≤ 1048576) (ht : t.length ≤ 1048576) (he : e.length ≤ 1048576) {T : TypeId} (ho : W.heap[o]? = some (.cells #[x, y, x', y'] T (0, 0))) :
    Calls Try.prog 49 #[.slice (some ⟨o, 0, none⟩) 2 2] W fun r w' => r = .returned (.bool (arrOk s d && arrOk t e)) ∧ Below W.heap.size W w' := by
  rw [← allOkV_two]
  refine allOk_impl (arrs_two5 ho h k) (by decide) (fun j => ?_)
  match j with
  | 0 => exact hs
  | 1 => exact hd
  | 2 => exact ht
  | 3 => exact he
  | j + 4 => simp
theorem sole2_impl {s d t e : List Int} {W : World} {o : Nat} {x' y' v : Value} (h : ArrI W v s d) (k : ArrI W (.agg #[x', y']) t e) (hd : d.length ≤ 1048576) (ht : t.length ≤ 1048576) (he : e.length ≤ 1048576) {T : TypeId} (ho : Box W o x' y' T) :
    Calls Try.prog 71 #[v, .slice (some ⟨o, 0, none⟩) 1 1] W fun r w' => r = .returned (.tuple #[.int .i64 (soleV s d (arrOk t e)), .int .i64 (oneC s d t e)]) ∧ Below W.heap.size W w' := by
  have q := sole_impl h hd (arrs_one5 ho k) (by decide) (fun j => by
    match j with
    | 0 => exact ht
    | 1 => exact he
    | j + 2 => simp)
  rw [allOkV_one] at q
  exact q
end Go.Proofs.Ytcpgdhffemecbaa
namespace Go.Proofs.Ytcpgdhffemecbaa
open Go.RowKit
set_option linter.unusedVariables false
set_option linter.unusedSimpArgs false
theorem box3o (w : World) (A B : Obj) (x y : Value) (T : TypeId) : Box (((w.alloc A).alloc B).alloc (.cells #[x, y] T)) (w.heap.size + 1 + 1) x y T := by
  have e := box_new ((w.alloc A).alloc B) x y T
  simp only [World.size_alloc] at e
  exact e
set_option maxRecDepth 20000 in
set_option maxHeartbeats 8000000 in
/-- Outer. -/
theorem outer_impl {g : Int} {s d t e : List Int} {w : World} {v u : Value} (h : ArrI w v s d) (k : ArrI w u t e) (hs : s.length ≤ 1048576) (hd : d.length ≤ 1048576) (ht : t.length ≤ 1048576) (he : e.length ≤ 1048576) :
    Calls Try.prog 17 #[.int .i64 g, v, u] w fun r w' => ∃ v', r = .returned (.tuple #[v', .int .i64 (outerR g s d t e).1]) ∧ Arr w.heap.size w'.heap.size w' v' (outerR g s d t e).2.1 (outerR g s d t e).2.2 ∧ Below w.heap.size w w' := by
  have H : Hid (ArrI w v s d) := h
  have K : Hid (ArrI w u t e) := k
  obtain ⟨a, c, b, f, rfl, h1, h2, g1, g2⟩ := h
  obtain ⟨a', c', b', f', rfl, k1, k2, g3, g4⟩ := k
  have HOK : Hid (∀ (W : World) (o : Nat), Below w.heap.size w W → W.heap[o]? = some (.cells #[.slice a s.length c, .slice b d.length f, .slice a' t.length c', .slice b' e.length f'] 26 (0, 0)) → Calls Try.prog 49 #[.slice (some ⟨o, 0, none⟩) 2 2] W fun r w' => r = .returned (.bool (arrOk s d && arrOk t e)) ∧ Below W.heap.size W w') := fun W o hb ho => allOk2_impl (H.out.keep hb) (K.out.keep hb) hs hd ht he ho
  have I2 : Hid (Ints w b d) := h2
  have I1 : Hid (Ints w a s) := h1
  have J1 : Hid (Ints w a' t) := k1
  clear h1 h2 k1 k2 g1 g2 g3 g4
  by_cases hg : sign2 g = true
  · have HG : Hid (sign2 g = true) := hg
    by_cases ho : arrOk s d = true ∧ arrOk t e = true
    · have hs3 : s.length ≤ 3 := (sizeV_ok (arrOk_shape ho.1)).1
      have ht3 : t.length ≤ 3 := (sizeV_ok (arrOk_shape ho.2)).1
      have hd3 : d.length ≤ 300 := by have := arrOk_len ho.1; omega
      have EP := outerR_told ho.1 ho.2 hg
      have hoo : (arrOk s d && arrOk t e) = true := by rw [ho.1, ho.2]; rfl
      rw [hoo] at HOK
      by_cases hr : 3 < s.length + t.length
      · rw [if_pos hr] at EP
        rw [EP]
        have hri : (3 : Int) < (s.length : Int) + (t.length : Int) := by omega
        clear EP ho hoo hr
        go_enter Try.func17, Try.ntmps17
        go_wp2_with fail
        refine (knownTwo_impl g _).mono ?_
        rintro r w0 ⟨rfl, hb⟩
        have HB0 : Hid (Below w.heap.size w w0) := bTrans (bAlloc (bAlloc (bAlloc (Below.refl _ _) _) _) _) hb
        have X0 : Hid (Box w0 w.heap.size (.slice a s.length c) (.slice b d.length f) 26) := (((box_new w _ _ _).keep (bAlloc (Below.refl _ _) _)).keep (bAlloc (Below.refl _ _) _)).keep hb
        have Y0 : Hid (Box w0 (w.heap.size + 1) (.slice a' t.length c') (.slice b' e.length f') 26) := ((box_new2 w _ _ _ _).keep (bAlloc (Below.refl _ _) _)).keep hb
        have R0 : Hid (Box w0 (w.heap.size + 1 + 1) (.slice none 0 0) (.slice none 0 0) 26) := (box3o w _ _ _ _ _).keep hb
        clear hb
        rw [HG.out]
        have x0 := X0.out.c0
        have x1 := X0.out.c1
        have y0 := Y0.out.c0
        have y1 := Y0.out.c1
        go_wp2_with fail
        refine (HOK.out _ _ (bAlloc HB0.out _) (by exact heap_alloc_new w0 _)).mono ?_
        rintro r w1 ⟨rfl, hb⟩
        have hb2 : Below w0.heap.size w0 w1 := bTrans (bAlloc (Below.refl _ _) _) hb
        have X1 : Hid (Box w1 w.heap.size (.slice a s.length c) (.slice b d.length f) 26) := X0.out.keep hb2
        have Y1 : Hid (Box w1 (w.heap.size + 1) (.slice a' t.length c') (.slice b' e.length f') 26) := Y0.out.keep hb2
        have R1 : Hid (Box w1 (w.heap.size + 1 + 1) (.slice none 0 0) (.slice none 0 0) 26) := R0.out.keep hb2
        have HB1 : Hid (Below w.heap.size w w1) := bTrans HB0.out hb2
        clear x0 x1 y0 y1
        clear hb hb2 X0 Y0 R0 HB0
        have LT : Hid (w.heap.size + 1 + 1 < w1.heap.size) := R1.out.lt
        have x0 := X1.out.c0
        have x1 := X1.out.c1
        have y0 := Y1.out.c0
        have y1 := Y1.out.c1
        have r0 := R1.out.c0
        have r1 := R1.out.c1
        have f0 : w1.frozen? ⟨w.heap.size + 1 + 1, 0, none⟩ = false := free_at R1.out 0
        have f1 : w1.frozen? ⟨w.heap.size + 1 + 1, 1, none⟩ = false := free_at R1.out 1
        have HR : Hid (((w1.setCell ⟨w.heap.size + 1 + 1, 0, none⟩ (.slice none 0 0)).setCell ⟨w.heap.size + 1 + 1, 1, none⟩ (.slice none 0 0)).heap[w.heap.size + 1 + 1]? = some (.cells #[.slice none 0 0, .slice none 0 0] 26 (0, 0))) := arr_stored R1.out
        go_wp2
        refine bodyPost_ret (results_arr_tmp Try.results17 _ _ (w.heap.size + 1 + 1) _ _ rfl HR.out) rfl ?_
        exact ⟨_, rfl, arr_zero _ _ _, below_setCell (below_setCell HB1.out (by omega) _ _) (by omega) _ _⟩
      · rw [if_neg hr] at EP
        have hri : ¬ (3 : Int) < (s.length : Int) + (t.length : Int) := by omega
        have HOS := outer_strung (s ++ t) ho.1 ho.2 hg
        obtain ⟨SH, hSH⟩ : ∃ SH, SH = s ++ t := ⟨_, rfl⟩
        have hSL : SH.length ≤ 6 := by rw [hSH, List.length_append]; omega
        rw [← hSH] at EP HOS
        rw [EP, ← HOS]
        have HO1 : Hid (arrOk s d = true ∧ arrOk t e = true) := ho
        have HCC : Hid (∀ (W : World) (o : Nat), Below w.heap.size w W → W.heap[o]? = some (.cells #[.slice a s.length c, .slice a' t.length c'] 24 (0, 0)) → Calls Try.prog 50 #[.slice (some ⟨o, 0, none⟩) 2 2] W fun r w' => ∃ a' k', r = .returned (.slice a' SH.length k') ∧ NewInts W.heap.size w' (.slice a' SH.length k') SH ∧ Below W.heap.size W w') := fun W o hb ho => by
          rw [hSH]
          exact concat_impl (I1.out.keep hb) (J1.out.keep hb) (by omega) ho
        have HST : Hid (∀ (W : World) (o q p B E : Nat) (a3 : Option Addr) (c3 : Nat), 0 ≤ sizeV SH → Below w.heap.size w W → W.cell? ⟨p, 0, none⟩ = some (.func (.func 93) #[] #[.pointer (some ⟨o, 0, none⟩), .pointer (some ⟨q, 0, none⟩)]) → p < W.heap.size → Box W w.heap.size (.slice a s.length c) (.slice b d.length f) 26 → W.cell? ⟨o, 0, none⟩ = some (.int .i64 g) → o < W.heap.size → Box W q (.slice a' t.length c') (.slice b' e.length f') 26 → Piece B E W (.slice a3 SH.length c3) SH → B ≤ W.heap.size → E ≤ W.heap.size →
            Calls Try.prog 53 #[.slice a3 SH.length c3, .int .i64 (d.length : Int), .func (.func 54) #[] #[.pointer (some ⟨p, 0, none⟩), .pointer (some ⟨w.heap.size, 0, none⟩)]] W fun r w' => ∃ v', r = .returned (.tuple #[v', .int .i64 (firstC (fun k => eachTwoC g [] [d.getD k 0] t e) d.length)]) ∧ Arr B w'.heap.size w' v' (mkR (firstC (fun k => eachTwoC g [] [d.getD k 0] t e) d.length) SH ((List.range d.length).flatMap (fun k => eachTwoD g [] [d.getD k 0] t e))).2.1 (mkR (firstC (fun k => eachTwoC g [] [d.getD k 0] t e) d.length) SH ((List.range d.length).flatMap (fun k => eachTwoD g [] [d.getD k 0] t e))).2.2 ∧ Below W.heap.size W w') := fun W o q p B E a3 c3 hz hb hp lp hm hg ho hq hS hB hE => by
          refine strung_impl (T := fun k => eachTwoS g [] [d.getD k 0] t e) (enters_of Try.func54 (by kernel_rfl) rfl) hS hB hE hz (by omega) (fun k hk => ?_) (fun W' k hk hb' => ?_)
          · have q1 := spread_bound g d t e k
            have q2 : k * 300 ≤ 300 * 300 := Nat.mul_le_mul_right _ (by omega)
            omega
          · exact outer1_impl ((hb'.cell (p := ⟨p, 0, none⟩) lp).trans hp) (hm.keep hb') (I2.out.keep (bTrans hb hb')) (Nat.lt_of_lt_of_le lp hb'.size) hk hd3 ((hb'.cell (p := ⟨o, 0, none⟩) ho).trans hg) (Nat.lt_of_lt_of_le ho hb'.size) (hq.keep hb') (K.out.keep (bTrans hb hb')) ht he
        have ECODE : Hid ((mkR (firstC (fun k => eachTwoC g [] [d.getD k 0] t e) d.length) SH ((List.range d.length).flatMap (fun k => eachTwoD g [] [d.getD k 0] t e))).1 = firstC (fun k => eachTwoC g [] [d.getD k 0] t e) d.length) := mkR_code _ _ _
        generalize firstC (fun k => eachTwoC g [] [d.getD k 0] t e) d.length = FC at *
        generalize (List.range d.length).flatMap (fun k => eachTwoD g [] [d.getD k 0] t e) = FD at *
        obtain ⟨x, hx⟩ : ∃ x, x = (if sizeV SH < 0 then ((6 : Int), ([] : List Int), ([] : List Int)) else mkR FC SH FD).1 := ⟨_, rfl⟩
        obtain ⟨S, hS⟩ : ∃ S, S = (if sizeV SH < 0 then ((6 : Int), ([] : List Int), ([] : List Int)) else mkR FC SH FD).2.1 := ⟨_, rfl⟩
        obtain ⟨D, hD⟩ : ∃ D, D = (if sizeV SH < 0 then ((6 : Int), ([] : List Int), ([] : List Int)) else mkR FC SH FD).2.2 := ⟨_, rfl⟩
        rw [← hx, ← hS, ← hD]
        have E6 : Hid (sizeV SH < 0 → x = 6 ∧ S = [] ∧ D = []) := fun q => by
          rw [if_pos q] at hx hS hD; exact ⟨hx, hS, hD⟩
        have E0 : Hid (0 ≤ sizeV SH → x = FC ∧ (mkR FC SH FD).2.1 = S ∧ (mkR FC SH FD).2.2 = D) := fun q => by
          rw [if_neg (by omega)] at hx hS hD; rw [ECODE.out] at hx; exact ⟨hx, hS.symm, hD.symm⟩
        clear EP HOS ho hoo hr hSH hs hd ht he hx hS hD ECODE
        go_enter Try.func17, Try.ntmps17
        go_wp2_with fail
        refine (knownTwo_impl g _).mono ?_
        rintro r w0 ⟨rfl, hb⟩
        have HB0 : Hid (Below w.heap.size w w0) := bTrans (bAlloc (bAlloc (bAlloc (Below.refl _ _) _) _) _) hb
        have X0 : Hid (Box w0 w.heap.size (.slice a s.length c) (.slice b d.length f) 26) := (((box_new w _ _ _).keep (bAlloc (Below.refl _ _) _)).keep (bAlloc (Below.refl _ _) _)).keep hb
        have Y0 : Hid (Box w0 (w.heap.size + 1) (.slice a' t.length c') (.slice b' e.length f') 26) := ((box_new2 w _ _ _ _).keep (bAlloc (Below.refl _ _) _)).keep hb
        have R0 : Hid (Box w0 (w.heap.size + 1 + 1) (.slice none 0 0) (.slice none 0 0) 26) := (box3o w _ _ _ _ _).keep hb
        clear hb
        rw [HG.out]
        have x0 := X0.out.c0
        have x1 := X0.out.c1
        have y0 := Y0.out.c0
        have y1 := Y0.out.c1
        go_wp2_with fail
        refine (HOK.out _ _ (bAlloc HB0.out _) (by exact heap_alloc_new w0 _)).mono ?_
        rintro r w1 ⟨rfl, hb⟩
        have hb2 : Below w0.heap.size w0 w1 := bTrans (bAlloc (Below.refl _ _) _) hb
        have X1 : Hid (Box w1 w.heap.size (.slice a s.length c) (.slice b d.length f) 26) := X0.out.keep hb2
        have Y1 : Hid (Box w1 (w.heap.size + 1) (.slice a' t.length c') (.slice b' e.length f') 26) := Y0.out.keep hb2
        have R1 : Hid (Box w1 (w.heap.size + 1 + 1) (.slice none 0 0) (.slice none 0 0) 26) := R0.out.keep hb2
        have HB1 : Hid (Below w.heap.size w w1) := bTrans HB0.out hb2
        clear x0 x1 y0 y1
        clear hb hb2 X0 Y0 R0 HB0
        have LT : Hid (w.heap.size + 1 + 1 < w1.heap.size) := R1.out.lt
        have x0 := X1.out.c0
        have x1 := X1.out.c1
        have y0 := Y1.out.c0
        have y1 := Y1.out.c1
        go_wp2_with fail
        refine (HCC.out _ _ (bAlloc HB1.out _) (by exact heap_alloc_new w1 _)).mono ?_
        rintro r w3 ⟨a3, c3, rfl, hn, hbb⟩
        have hb : Below w1.heap.size w1 w3 := bTrans (bAlloc (Below.refl _ _) _) hbb
        have N3 : Hid (NewInts w1.heap.size w3 (.slice a3 SH.length c3) SH) := hn.mono (by simp)
        have X3 : Hid (Box w3 w.heap.size (.slice a s.length c) (.slice b d.length f) 26) := X1.out.keep hb
        have Y3 : Hid (Box w3 (w.heap.size + 1) (.slice a' t.length c') (.slice b' e.length f') 26) := Y1.out.keep hb
        have R3 : Hid (Box w3 (w.heap.size + 1 + 1) (.slice none 0 0) (.slice none 0 0) 26) := R1.out.keep hb
        have HB3 : Hid (Below w.heap.size w w3) := bTrans HB1.out hb
        have L13 : Hid (w1.heap.size ≤ w3.heap.size) := hb.size
        clear hn hbb hb HCC X1 Y1 R1 HB1
        clear x0 x1 y0 y1
        obtain ⟨_, _, ev, i3⟩ := N3.out.ints
        cases ev
        have HSO : Hid (Calls Try.prog 51 #[.slice a3 SH.length c3] w3 fun r w' => r = .returned (.bool (decide (0 ≤ sizeV SH))) ∧ Below w3.heap.size w3 w') := ok_impl c3 i3
        clear i3
        go_wp2_with fail
        refine (HSO.out).mono ?_
        rintro r w4 ⟨rfl, hb⟩
        have X4 : Hid (Box w4 w.heap.size (.slice a s.length c) (.slice b d.length f) 26) := X3.out.keep hb
        have Y4 : Hid (Box w4 (w.heap.size + 1) (.slice a' t.length c') (.slice b' e.length f') 26) := Y3.out.keep hb
        have R4 : Hid (Box w4 (w.heap.size + 1 + 1) (.slice none 0 0) (.slice none 0 0) 26) := R3.out.keep hb
        have HB4 : Hid (Below w.heap.size w w4) := bTrans HB3.out hb
        have P4 : Hid (Piece w1.heap.size w3.heap.size w4 (.slice a3 SH.length c3) SH) := N3.out.piece.keep hb
        have L34 : Hid (w3.heap.size ≤ w4.heap.size) := hb.size
        clear hb HSO N3 X3 Y3 R3 HB3
        by_cases hz : 0 ≤ sizeV SH
        · have hdz : decide (0 ≤ sizeV SH) = true := by simpa using hz
          rw [hdz]
          have HZ : Hid (0 ≤ sizeV SH) := hz
          obtain ⟨rfl, eS, eD⟩ := E0.out hz
          rw [eS, eD] at HST
          clear hdz hz E0 E6 eS eD
          have x0 := X4.out.c0
          have x1 := X4.out.c1
          have y0 := Y4.out.c0
          have y1 := Y4.out.c1
          go_wp2_with fail
          refine (spreading_impl g _ _ _).mono ?_
          rintro r w5 ⟨rfl, hc, hx, hb, hsz⟩
          have C5 : Hid (w5.cell? ⟨w4.heap.size, 0, none⟩ = some (.int .i64 g)) := hc
          have Z5 : Hid (Box w5 (w4.heap.size + 1) (.slice a' t.length c') (.slice b' e.length f') 26) := hx
          have L45 : Hid (w4.heap.size + 2 ≤ w5.heap.size) := hsz
          have X5 : Hid (Box w5 w.heap.size (.slice a s.length c) (.slice b d.length f) 26) := X4.out.keep hb
          have Y5 : Hid (Box w5 (w.heap.size + 1) (.slice a' t.length c') (.slice b' e.length f') 26) := Y4.out.keep hb
          have R5 : Hid (Box w5 (w.heap.size + 1 + 1) (.slice none 0 0) (.slice none 0 0) 26) := R4.out.keep hb
          have HB5 : Hid (Below w.heap.size w w5) := bTrans HB4.out hb
          have P5 : Hid (Piece w1.heap.size w3.heap.size w5 (.slice a3 SH.length c3) SH) := P4.out.keep hb
          clear hc hx hb hsz X4 Y4 R4 HB4 P4
          clear x0 x1 y0 y1
          obtain ⟨FN, hFN⟩ : ∃ FN, FN = Value.func (.func 93) #[] #[.pointer (some ⟨w4.heap.size, 0, none⟩), .pointer (some ⟨w4.heap.size + 1, 0, none⟩)] := ⟨_, rfl⟩
          have BA : Hid (∀ O, Below w5.heap.size w5 (w5.alloc O)) := fun O => bAlloc (Below.refl _ _) O
          have X6 : Hid (∀ O, Box (w5.alloc O) w.heap.size (.slice a s.length c) (.slice b d.length f) 26) := fun O => X5.out.keep (BA.out O)
          have x1 : ∀ O, (w5.alloc O).cell? ⟨w.heap.size, 1, none⟩ = some (.slice b d.length f) := fun O => (X6.out O).c1
          clear hFN
          go_wp2_with fail
          refine (HST.out _ w4.heap.size (w4.heap.size + 1) w5.heap.size w1.heap.size w3.heap.size a3 c3 HZ.out (bTrans HB5.out (BA.out _)) (by exact cell_at (heap_alloc_new w5 _) rfl) (by simp) (X6.out _) (((BA.out _).cell (p := ⟨w4.heap.size, 0, none⟩) (by have := L45.out; show w4.heap.size < w5.heap.size; omega)).trans C5.out) (by have := L45.out; simp; omega) (Z5.out.keep (BA.out _)) (P5.out.keep (BA.out _)) (by have := L45.out; have := L34.out; have := L13.out; simp; omega) (by have := L45.out; have := L34.out; simp; omega)).mono ?_
          rintro r w7 ⟨v7, rfl, ha, hbb⟩
          obtain ⟨a7, k7, b7, f7, rfl, _, _, _, _⟩ := ha.arrI
          have hb : Below w5.heap.size w5 w7 := bTrans (BA.out _) hbb
          have HA7 : Hid (Arr w1.heap.size w7.heap.size w7 (.agg #[.slice a7 S.length k7, .slice b7 D.length f7]) S D) := ha
          have R7 : Hid (Box w7 (w.heap.size + 1 + 1) (.slice none 0 0) (.slice none 0 0) 26) := R5.out.keep hb
          have HB7 : Hid (Below w.heap.size w w7) := bTrans HB5.out hb
          clear ha hb hbb HST X5 Y5 R5 HB5 P5 C5 Z5 X6 x1 BA
          have r0 := R7.out.c0
          have r1 := R7.out.c1
          have f0 : w7.frozen? ⟨w.heap.size + 1 + 1, 0, none⟩ = false := free_at R7.out 0
          have f1 : w7.frozen? ⟨w.heap.size + 1 + 1, 1, none⟩ = false := free_at R7.out 1
          have HR : Hid (((w7.setCell ⟨w.heap.size + 1 + 1, 0, none⟩ (.slice a7 S.length k7)).setCell ⟨w.heap.size + 1 + 1, 1, none⟩ (.slice b7 D.length f7)).heap[w.heap.size + 1 + 1]? = some (.cells #[.slice a7 S.length k7, .slice b7 D.length f7] 26 (0, 0))) := arr_stored R7.out
          go_wp2
          refine bodyPost_ret (results_arr_tmp Try.results17 _ _ (w.heap.size + 1 + 1) _ _ rfl HR.out) rfl ?_
          refine ⟨_, rfl, ?_, below_setCell (below_setCell HB7.out (by omega) _ _) (by omega) _ _⟩
          have L := LT.out
          exact ((HA7.out.setCell L _ _).setCell L _ _).mono (by omega) (by simp [size_setCell])
        · have hdz : decide (0 ≤ sizeV SH) = false := by simpa using hz
          rw [hdz]
          obtain ⟨rfl, rfl, rfl⟩ := E6.out (by omega)
          clear hdz E0 E6 HST
          have r0 := R4.out.c0
          have r1 := R4.out.c1
          have f0 : w4.frozen? ⟨w.heap.size + 1 + 1, 0, none⟩ = false := free_at R4.out 0
          have f1 : w4.frozen? ⟨w.heap.size + 1 + 1, 1, none⟩ = false := free_at R4.out 1
          have HR : Hid (((w4.setCell ⟨w.heap.size + 1 + 1, 0, none⟩ (.slice none 0 0)).setCell ⟨w.heap.size + 1 + 1, 1, none⟩ (.slice none 0 0)).heap[w.heap.size + 1 + 1]? = some (.cells #[.slice none 0 0, .slice none 0 0] 26 (0, 0))) := arr_stored R4.out
          go_wp2
          refine bodyPost_ret (results_arr_tmp Try.results17 _ _ (w.heap.size + 1 + 1) _ _ rfl HR.out) rfl ?_
          exact ⟨_, rfl, arr_zero _ _ _, below_setCell (below_setCell HB4.out (by omega) _ _) (by omega) _ _⟩
    · have hoo : (arrOk s d && arrOk t e) = false := by
        cases h1 : arrOk s d <;> cases h2 : arrOk t e <;> simp_all
      rw [outerR_bad (fun q => ho ⟨q.1, q.2.1⟩)]
      rw [hoo] at HOK
      clear ho hoo
      go_enter Try.func17, Try.ntmps17
      go_wp2_with fail
      refine (knownTwo_impl g _).mono ?_
      rintro r w0 ⟨rfl, hb⟩
      have HB0 : Hid (Below w.heap.size w w0) := bTrans (bAlloc (bAlloc (bAlloc (Below.refl _ _) _) _) _) hb
      have X0 : Hid (Box w0 w.heap.size (.slice a s.length c) (.slice b d.length f) 26) := (((box_new w _ _ _).keep (bAlloc (Below.refl _ _) _)).keep (bAlloc (Below.refl _ _) _)).keep hb
      have Y0 : Hid (Box w0 (w.heap.size + 1) (.slice a' t.length c') (.slice b' e.length f') 26) := ((box_new2 w _ _ _ _).keep (bAlloc (Below.refl _ _) _)).keep hb
      have R0 : Hid (Box w0 (w.heap.size + 1 + 1) (.slice none 0 0) (.slice none 0 0) 26) := (box3o w _ _ _ _ _).keep hb
      clear hb
      rw [HG.out]
      have x0 := X0.out.c0
      have x1 := X0.out.c1
      have y0 := Y0.out.c0
      have y1 := Y0.out.c1
      go_wp2_with fail
      refine (HOK.out _ _ (bAlloc HB0.out _) (by exact heap_alloc_new w0 _)).mono ?_
      rintro r w1 ⟨rfl, hb⟩
      have hb2 : Below w0.heap.size w0 w1 := bTrans (bAlloc (Below.refl _ _) _) hb
      have X1 : Hid (Box w1 w.heap.size (.slice a s.length c) (.slice b d.length f) 26) := X0.out.keep hb2
      have Y1 : Hid (Box w1 (w.heap.size + 1) (.slice a' t.length c') (.slice b' e.length f') 26) := Y0.out.keep hb2
      have R1 : Hid (Box w1 (w.heap.size + 1 + 1) (.slice none 0 0) (.slice none 0 0) 26) := R0.out.keep hb2
      have HB1 : Hid (Below w.heap.size w w1) := bTrans HB0.out hb2
      clear x0 x1 y0 y1
      clear hb hb2 X0 Y0 R0 HB0
      have LT : Hid (w.heap.size + 1 + 1 < w1.heap.size) := R1.out.lt
      have r0 := R1.out.c0
      have r1 := R1.out.c1
      have f0 : w1.frozen? ⟨w.heap.size + 1 + 1, 0, none⟩ = false := free_at R1.out 0
      have f1 : w1.frozen? ⟨w.heap.size + 1 + 1, 1, none⟩ = false := free_at R1.out 1
      have HR : Hid (((w1.setCell ⟨w.heap.size + 1 + 1, 0, none⟩ (.slice none 0 0)).setCell ⟨w.heap.size + 1 + 1, 1, none⟩ (.slice none 0 0)).heap[w.heap.size + 1 + 1]? = some (.cells #[.slice none 0 0, .slice none 0 0] 26 (0, 0))) := arr_stored R1.out
      go_wp2
      refine bodyPost_ret (results_arr_tmp Try.results17 _ _ (w.heap.size + 1 + 1) _ _ rfl HR.out) rfl ?_
      exact ⟨_, rfl, arr_zero _ _ _, below_setCell (below_setCell HB1.out (by omega) _ _) (by omega) _ _⟩
  · have HG : Hid (sign2 g = false) := by show _ = _; simpa using hg
    rw [outerR_bad (fun q => hg q.2.2)]
    clear hg
    go_enter Try.func17, Try.ntmps17
    go_wp2_with fail
    refine (knownTwo_impl g _).mono ?_
    rintro r w0 ⟨rfl, hb⟩
    have HB0 : Hid (Below w.heap.size w w0) := bTrans (bAlloc (bAlloc (bAlloc (Below.refl _ _) _) _) _) hb
    have X0 : Hid (Box w0 w.heap.size (.slice a s.length c) (.slice b d.length f) 26) := (((box_new w _ _ _).keep (bAlloc (Below.refl _ _) _)).keep (bAlloc (Below.refl _ _) _)).keep hb
    have Y0 : Hid (Box w0 (w.heap.size + 1) (.slice a' t.length c') (.slice b' e.length f') 26) := ((box_new2 w _ _ _ _).keep (bAlloc (Below.refl _ _) _)).keep hb
    have R0 : Hid (Box w0 (w.heap.size + 1 + 1) (.slice none 0 0) (.slice none 0 0) 26) := (box3o w _ _ _ _ _).keep hb
    clear hb
    rw [HG.out]
    have r0 := R0.out.c0
    have r1 := R0.out.c1
    have f0 : w0.frozen? ⟨w.heap.size + 1 + 1, 0, none⟩ = false := free_at R0.out 0
    have f1 : w0.frozen? ⟨w.heap.size + 1 + 1, 1, none⟩ = false := free_at R0.out 1
    have HR : Hid (((w0.setCell ⟨w.heap.size + 1 + 1, 0, none⟩ (.slice none 0 0)).setCell ⟨w.heap.size + 1 + 1, 1, none⟩ (.slice none 0 0)).heap[w.heap.size + 1 + 1]? = some (.cells #[.slice none 0 0, .slice none 0 0] 26 (0, 0))) := arr_stored R0.out
    go_wp2
    refine bodyPost_ret (results_arr_tmp Try.results17 _ _ (w.heap.size + 1 + 1) _ _ rfl HR.out) rfl ?_
    exact ⟨_, rfl, arr_zero _ _ _, below_setCell (below_setCell HB0.out (by omega) _ _) (by omega) _ _⟩
end Go.Proofs.Ytcpgdhffemecbaa
namespace Go.Proofs.Ytcpgdhffemecbaa
open Go.RowKit
set_option linter.unusedVariables false
set_option linter.unusedSimpArgs false
set_option maxHeartbeats 1000000 in
theorem rev_none {l : List Int} {a : Option Addr} {c : Nat} {w : World} (hl : l.length = 0 ∨ l.length = 1) :
    Calls Try.prog 63 #[.slice a l.length c] w fun r w' => (∃ v, r = .returned v) ∧ w' = w := by
  rcases hl with hl | hl
  all_goals
    rw [hl]
    go_enter Try.func63, Try.ntmps63
    go_wp2
    refine wp_loop_rounds 1 ?_
    rw [rounds_succ]
    go_wp2
    go_end0
    exact ⟨⟨_, rfl⟩, rfl⟩
set_option maxHeartbeats 1000000 in
theorem rev_two {B C g off c : Nat} {x y z : Int} {w : World} (h : Piece B C w (.slice (some ⟨g, off, none⟩) 2 c) [x, y]) :
    Calls Try.prog 63 #[.slice (some ⟨g, off, none⟩) 2 c] w fun r w' => (∃ v, r = .returned v) ∧ w' = (w.drew.setCell ⟨g, off, none⟩ (.int .i64 y)).setCell ⟨g, off + 1, none⟩ (.int .i64 x) := by
  obtain ⟨t0, t1, _, _, _⟩ := h.cellAt (k := 0) (by simp)
  obtain ⟨u0, u1, _, _, _⟩ := h.cellAt (k := 1) (by simp)
  rw [Nat.add_zero] at t0 t1
  have t0 : w.cell? ⟨g, off, none⟩ = some (.int .i64 x) := t0
  have u0 : w.cell? ⟨g, off + 1, none⟩ = some (.int .i64 y) := u0
  clear h
  go_enter Try.func63, Try.ntmps63
  go_wp2
  refine wp_loop_rounds 2 ?_
  rw [rounds_succ]
  go_wp2
  go_region
  go_wp2
  rw [rounds_succ]
  go_wp2
  go_end0
  exact ⟨⟨_, rfl⟩, rfl⟩
set_option maxHeartbeats 1000000 in
theorem rev_three {B C g off c : Nat} {x y z : Int} {w : World} (h : Piece B C w (.slice (some ⟨g, off, none⟩) 3 c) [x, z, y]) :
    Calls Try.prog 63 #[.slice (some ⟨g, off, none⟩) 3 c] w fun r w' => (∃ v, r = .returned v) ∧ w' = (w.drew.setCell ⟨g, off, none⟩ (.int .i64 y)).setCell ⟨g, off + 2, none⟩ (.int .i64 x) := by
  obtain ⟨t0, t1, _, _, _⟩ := h.cellAt (k := 0) (by simp)
  obtain ⟨u0, u1, _, _, _⟩ := h.cellAt (k := 2) (by simp)
  rw [Nat.add_zero] at t0 t1
  have t0 : w.cell? ⟨g, off, none⟩ = some (.int .i64 x) := t0
  have u0 : w.cell? ⟨g, off + 2, none⟩ = some (.int .i64 y) := u0
  clear h
  go_enter Try.func63, Try.ntmps63
  go_wp2
  refine wp_loop_rounds 2 ?_
  rw [rounds_succ]
  go_wp2
  go_region
  go_wp2
  rw [rounds_succ]
  go_wp2
  go_end0
  exact ⟨⟨_, rfl⟩, rfl⟩
/-- slices.Reverse, on a list of one's own of up to three numbers. -/
theorem reverse_impl {B C g off c : Nat} {l : List Int} {w : World} (h : Piece B C w (.slice (some ⟨g, off, none⟩) l.length c) l) (hl : l.length ≤ 3) (hg : l ≠ [] → B ≤ g ∧ g < C) :
    Calls Try.prog 63 #[.slice (some ⟨g, off, none⟩) l.length c] w fun r w' => (∃ v, r = .returned v) ∧ Piece B C w' (.slice (some ⟨g, off, none⟩) l.length c) l.reverse ∧ (w' = w ∨ l ≠ [] ∧ ∃ k y x, w' = (w.drew.setCell ⟨g, off, none⟩ y).setCell ⟨g, off + k, none⟩ x) := by
  match l, hl, h with
  | [], _, h =>
    refine (rev_none (l := []) (.inl rfl)).mono ?_
    rintro r w' ⟨hr, rfl⟩
    exact ⟨hr, h, .inl rfl⟩
  | [x], _, h =>
    refine (rev_none (l := [x]) (.inr rfl)).mono ?_
    rintro r w' ⟨hr, rfl⟩
    exact ⟨hr, h, .inl rfl⟩
  | [x, y], _, h =>
    refine (rev_two (z := 0) h).mono ?_
    rintro r w' ⟨hr, rfl⟩
    refine ⟨hr, ?_, .inr ⟨by simp, 1, _, _, rfl⟩⟩
    have h1 : Piece B C w.drew (.slice (some ⟨g, off, none⟩) 2 c) [x, y] := h.keep (Below.refl w.heap.size w).drew
    have h2 := Piece.set (l := [x, y]) h1 (k := 0) (by simp) y
    have h3 := Piece.set (l := [y, y]) h2 (k := 1) (by simp) x
    exact h3
  | [x, z, y], _, h =>
    refine (rev_three h).mono ?_
    rintro r w' ⟨hr, rfl⟩
    refine ⟨hr, ?_, .inr ⟨by simp, 2, _, _, rfl⟩⟩
    have h1 : Piece B C w.drew (.slice (some ⟨g, off, none⟩) 3 c) [x, z, y] := h.keep (Below.refl w.heap.size w).drew
    have h2 := Piece.set (l := [x, z, y]) h1 (k := 0) (by simp) y
    have h3 := Piece.set (l := [y, z, y]) h2 (k := 2) (by simp) x
    exact h3
  | _ :: _ :: _ :: _ :: _, hl, _ => simp at hl
end Go.Proofs.Ytcpgdhffemecbaa
namespace Go.Proofs.Ytcpgdhffemecbaa
open Go.RowKit
set_option linter.unusedVariables false
theorem placeV_hit {s i : List Int} {P : Int} (hs : 0 ≤ sizeV s) (h0 : 0 ≤ P) (h1 : P < sizeV s) (he : idx s P = i) : placeV s i = P := by
  have q := place_of_index hs h0 (by omega)
  rw [indexV_in hs h0 (by omega), he] at q
  exact q.2
theorem placeV_miss {s i : List Int} {P : Int} (hs : 0 ≤ sizeV s) (hl : i.length = s.length) (hP : inOk (s.zip i) = true → P = hor (s.zip i)) (h : P < 0 ∨ sizeV s ≤ P ∨ idx s P ≠ i) : placeV s i = -1 := by
  by_cases hin : inOk (s.zip i) = true
  · exfalso
    have e := hP hin
    have hv : placeV s i = P := by unfold placeV; rw [if_neg (by omega), if_pos hin, e]
    have b := hor_lt _ hin
    rw [List.map_fst_zip (by omega), ← (sizeV_ok hs).2.2.2, ← e] at b
    have q := index_of_place (s := s) (m := i) (by omega)
    rw [hv, indexV_in hs (by omega) (by omega)] at q
    rcases h with h | h | h
    · omega
    · omega
    · exact h q
  · unfold placeV
    rw [if_neg (by omega), if_neg hin]
theorem wrap_in {a : Int} (h0 : 0 ≤ a) (h1 : a ≤ 27000000) : wrap64 a = a := by unfold wrap64; omega
theorem reck1_in {x i : Int} (x1 : x ≤ 300) (h : inOk ([x].zip [i]) = true) : wrap64 i = hor ([x].zip [i]) := by
  simp [inOk] at h
  rw [wrap_in (by omega) (by omega)]
  simp [hor]
theorem reck2_in {x y i j : Int} (x1 : x ≤ 300) (y1 : y ≤ 300) (h : inOk ([x, y].zip [i, j]) = true) : wrap64 (wrap64 (wrap64 i * y) + j) = hor ([x, y].zip [i, j]) := by
  simp [inOk] at h
  have m0 : 0 ≤ i * y := Int.mul_nonneg (by omega) (by omega)
  have m1 : i * y ≤ 300 * 300 := Int.mul_le_mul (by omega) (by omega) (by omega) (by omega)
  rw [wrap_in (a := i) (by omega) (by omega), wrap_in (a := i * y) (by omega) (by omega), wrap_in (by omega) (by omega)]
  simp [hor]
theorem reck3_in {x y z i j k : Int} (x1 : x ≤ 300) (y1 : y ≤ 300) (z1 : z ≤ 300) (h : inOk ([x, y, z].zip [i, j, k]) = true) : wrap64 (wrap64 (wrap64 (wrap64 (wrap64 i * y) + j) * z) + k) = hor ([x, y, z].zip [i, j, k]) := by
  have h' : inOk ([x, y].zip [i, j]) = true := by simp [inOk] at h ⊢; omega
  rw [reck2_in x1 y1 h']
  have b := hor_lt _ h'
  simp [inOk] at h
  have m1 : x * y ≤ 300 * 300 := Int.mul_le_mul (by omega) (by omega) (by omega) (by omega)
  have b2 : hor ([x, y].zip [i, j]) + 1 ≤ x * y := by simpa [prodV] using b.2
  generalize hh : hor ([x, y].zip [i, j]) = H at b b2
  have n0 : 0 ≤ H * z := Int.mul_nonneg b.1 (by omega)
  have n1 : H * z ≤ 90000 * 300 := Int.mul_le_mul (by omega) (by omega) (by omega) (by omega)
  rw [wrap_in n0 (by omega)]
  have e : hor ([x, y, z].zip [i, j, k]) = H * z + k := by rw [← hh]; simp [hor]
  have b3 := (hor_lt ([x, y, z].zip [i, j, k]) (by simp [inOk]; omega)).2
  have m2 : x * y * z ≤ 90000 * 300 := Int.mul_le_mul (by omega) (by omega) (by omega) (by omega)
  have b4 : hor ([x, y, z].zip [i, j, k]) + 1 ≤ x * y * z := by simpa [prodV] using b3
  rw [e] at b4 ⊢
  exact wrap_in (by omega) (by omega)
/-- PlaceOf, whatever lists it is given. -/
theorem place_impl {s i : List Int} {a b : Option Addr} {w : World} (c d : Nat) (h1 : Ints w a s) (h2 : Ints w b i) :
    Calls Try.prog 65 #[.slice a s.length c, .slice b i.length d] w fun e w' => e = .returned (.int .i64 (placeV s i)) ∧ Below w.heap.size w w' := by
  by_cases hb : sizeV s < 0 ∨ i.length ≠ s.length
  · have e : placeV s i = -1 := by unfold placeV; rw [if_pos hb]
    rw [e]
    exact place_bad_impl c d h1 hb
  · have hs : 0 ≤ sizeV s := by omega
    have hl : i.length = s.length := by omega
    obtain ⟨k1, k2, k3, k4⟩ := sizeV_ok hs
    rcases len3 k1 with rfl | ⟨x, rfl⟩ | ⟨x, y, rfl⟩ | ⟨x, y, z, rfl⟩
    · obtain rfl : i = [] := List.eq_nil_of_length_eq_zero hl
      have e : placeV [] [] = 0 := by simp [placeV, sizeV, prodV, inOk, hor]
      rw [e]
      exact place_0_hit 0 a b c d w h1 h2 rfl (by omega) (by omega) rfl
    · rcases len3 (by omega : i.length ≤ 3) with rfl | ⟨i, rfl⟩ | ⟨i, j, rfl⟩ | ⟨i, j, k, rfl⟩
      · simp at hl
      · simp only [List.all_cons, List.all_nil, Bool.and_true] at k2
        have dx := dimOk_bd k2
        rw [prod1] at k3 k4
        have hP := reck1_in dx.2 (i := i)
        generalize hPe : wrap64 i = P at hP
        by_cases q1 : P < 0
        · rw [placeV_miss hs hl hP (.inl q1)]
          exact place_1_neg x i P a b c d w h1 h2 hPe dx.1 dx.2 q1
        by_cases q2 : x ≤ P
        · rw [placeV_miss hs hl hP (.inr (.inl (by omega)))]
          exact place_1_much x i P a b c d w h1 h2 hPe dx.1 dx.2 (by omega) q2
        have px : 0 < x := by omega
        by_cases q3 : idx [x] P = [i]
        · rw [placeV_hit hs (by omega) (by omega) q3]
          simp only [idx, List.cons.injEq, and_true] at q3
          exact place_1_hit x i i P a b c d w h1 h2 hPe px dx.2 (by omega) (by omega) q3 (by simp)
        · rw [placeV_miss hs hl hP (.inr (.inr q3))]
          simp only [idx, List.cons.injEq, and_true] at q3
          exact place_1_miss x i _ P a b c d w h1 h2 hPe px dx.2 (by omega) (by omega) rfl (by simp; exact q3)
      · simp at hl
      · simp at hl
    · rcases len3 (by omega : i.length ≤ 3) with rfl | ⟨i, rfl⟩ | ⟨i, j, rfl⟩ | ⟨i, j, k, rfl⟩
      · simp at hl
      · simp at hl
      · simp only [List.all_cons, List.all_nil, Bool.and_true, Bool.and_eq_true] at k2
        have dx := dimOk_bd k2.1
        have dy := dimOk_bd k2.2
        rw [prod2] at k3 k4
        have hP := reck2_in dx.2 dy.2 (i := i) (j := j)
        generalize hPe : wrap64 (wrap64 (wrap64 i * y) + j) = P at hP
        by_cases q1 : P < 0
        · rw [placeV_miss hs hl hP (.inl q1)]
          exact place_2_neg x y i j P a b c d w h1 h2 hPe dx.1 dx.2 dy.1 dy.2 k3 q1
        by_cases q2 : x * y ≤ P
        · rw [placeV_miss hs hl hP (.inr (.inl (by omega)))]
          exact place_2_much x y i j P a b c d w h1 h2 hPe dx.1 dx.2 dy.1 dy.2 k3 (by omega) q2
        have q := pos_of_mul dx.1 dy.1 (by omega)
        obtain ⟨px, py⟩ := q
        by_cases q3 : idx [x, y] P = [i, j]
        · rw [placeV_hit hs (by omega) (by omega) q3]
          simp only [idx, List.cons.injEq, and_true] at q3
          exact place_2_hit x y i j i j P a b c d w h1 h2 hPe px dx.2 py dy.2 k3 (by omega) (by omega) q3.1 q3.2 (by simp)
        · rw [placeV_miss hs hl hP (.inr (.inr q3))]
          simp only [idx, List.cons.injEq, and_true] at q3
          exact place_2_miss x y i j _ _ P a b c d w h1 h2 hPe px dx.2 py dy.2 k3 (by omega) (by omega) rfl rfl (by simp at q3 ⊢; exact q3)
      · simp at hl
    · rcases len3 (by omega : i.length ≤ 3) with rfl | ⟨i, rfl⟩ | ⟨i, j, rfl⟩ | ⟨i, j, k, rfl⟩
      · simp at hl
      · simp at hl
      · simp at hl
      · simp only [List.all_cons, List.all_nil, Bool.and_true, Bool.and_eq_true] at k2
        have dx := dimOk_bd k2.1
        have dy := dimOk_bd k2.2.1
        have dz := dimOk_bd k2.2.2
        rw [prod3] at k3 k4
        have hP := reck3_in dx.2 dy.2 dz.2 (i := i) (j := j) (k := k)
        generalize hPe : wrap64 (wrap64 (wrap64 (wrap64 (wrap64 i * y) + j) * z) + k) = P at hP
        by_cases q1 : P < 0
        · rw [placeV_miss hs hl hP (.inl q1)]
          exact place_3_neg x y z i j k P a b c d w h1 h2 hPe dx.1 dx.2 dy.1 dy.2 dz.1 dz.2 k3 q1
        by_cases q2 : x * y * z ≤ P
        · rw [placeV_miss hs hl hP (.inr (.inl (by omega)))]
          exact place_3_much x y z i j k P a b c d w h1 h2 hPe dx.1 dx.2 dy.1 dy.2 dz.1 dz.2 k3 (by omega) q2
        have q := pos_of_mul (Int.mul_nonneg dx.1 dy.1) dz.1 (by omega)
        have q' := pos_of_mul dx.1 dy.1 q.1
        obtain ⟨px, py⟩ := q'
        have pz := q.2
        by_cases q3 : idx [x, y, z] P = [i, j, k]
        · rw [placeV_hit hs (by omega) (by omega) q3]
          simp only [idx, List.cons.injEq, and_true] at q3
          exact place_3_hit x y z i j k i j k P a b c d w h1 h2 hPe px dx.2 py dy.2 pz dz.2 k3 (by omega) (by omega) q3.1 q3.2.1 q3.2.2 (by simp)
        · rw [placeV_miss hs hl hP (.inr (.inr q3))]
          simp only [idx, List.cons.injEq, and_true] at q3
          exact place_3_miss x y z i j k _ _ _ P a b c d w h1 h2 hPe px dx.2 py dy.2 pz dz.2 k3 (by omega) (by omega) rfl rfl rfl (by simp at q3 ⊢; exact q3)
end Go.Proofs.Ytcpgdhffemecbaa
namespace Go.Proofs.Ytcpgdhffemecbaa
open Go.RowKit
set_option linter.unusedVariables false
set_option linter.unusedSimpArgs false
theorem piece_setN6 {B C g c k n : Nat} {w : World} {l : List Int} (h : Piece B C w (.slice (some ⟨g, 0, none⟩) n c) l) (hl : l.length = n) (hk : k < n) (x : Int) : Piece B C (w.setCell ⟨g, k, none⟩ (.int .i64 x)) (.slice (some ⟨g, 0, none⟩) n c) (l.set k x) := by
  subst hl
  have := h.set hk x
  simpa using this
/-- slices.Reverse on a list of one's own. -/
theorem reverse_new {B c : Nat} {a : Option Addr} {l : List Int} {w : World} (h : NewInts B w (.slice a l.length c) l) (hl : l.length ≤ 3) (hB : B ≤ w.heap.size) :
    Calls Try.prog 63 #[.slice a l.length c] w fun r w' => (∃ v, r = .returned v) ∧ Piece B w'.heap.size w' (.slice a l.length c) l.reverse ∧ Below B w w' := by
  by_cases h0 : l = []
  · subst h0
    refine (rev_none (l := []) (.inl rfl)).mono ?_
    rintro r w' ⟨hr, rfl⟩
    exact ⟨hr, h.piece, Below.refl _ _⟩
  · have hp := h.piece
    obtain ⟨_, hn⟩ := h
    rcases hn with ⟨_, h1⟩ | ⟨g, cap, cur, e, hg, hh, _⟩
    · exact absurd (List.length_eq_zero_iff.1 h1) h0
    · cases e
      have hlt := lt_of_heapA hh
      refine (reverse_impl hp hl (fun _ => ⟨hg, hlt⟩)).mono ?_
      rintro r w' ⟨hr, q1, q2⟩
      rcases q2 with rfl | ⟨_, k, y, x, rfl⟩
      · exact ⟨hr, q1, Below.refl _ _⟩
      · refine ⟨hr, q1.mono (Nat.le_refl _) (by simp [size_setCell]), below_setCell (below_setCell ((Below.refl B w).drew) hg _ _) hg _ _⟩
set_option maxRecDepth 20000 in
set_option maxHeartbeats 4000000 in
/-- Flip. -/
theorem flip_impl {s d : List Int} {w : World} {v : Value} (h : ArrI w v s d) (hs : s.length ≤ 1048576) (hd : d.length ≤ 1048576) :
    Calls Try.prog 21 #[v] w fun r w' => ∃ v', r = .returned (.tuple #[v', .int .i64 (flipR s d).1]) ∧ Arr w.heap.size w'.heap.size w' v' (flipR s d).2.1 (flipR s d).2.2 ∧ Below w.heap.size w w' := by
  have H : Hid (ArrI w v s d) := h
  have HOK : Hid (∀ W, Below w.heap.size w W → Calls Try.prog 20 #[v] W fun r w' => r = .returned (.bool (arrOk s d)) ∧ Below W.heap.size W w') := fun W hb => arrOk_impl (h.keep hb) hd
  obtain ⟨a, c, b, f, rfl, h1, h2, g1, g2⟩ := h
  have H1 : Hid (Ints w a s) := h1
  have H2 : Hid (Ints w b d) := h2
  obtain ⟨x, hx⟩ : ∃ x, x = (flipR s d).1 := ⟨_, rfl⟩
  obtain ⟨S, hS⟩ : ∃ S, S = (flipR s d).2.1 := ⟨_, rfl⟩
  obtain ⟨D, hD⟩ : ∃ D, D = (flipR s d).2.2 := ⟨_, rfl⟩
  rw [← hx, ← hS, ← hD]
  have E1 : Hid (arrOk s d = false → x = 1 ∧ S = [] ∧ D = []) := fun ho => by
    rw [hx, hS, hD]; unfold flipR okC; rw [if_neg (by rw [ho]; simp)]; exact ⟨rfl, rfl, rfl⟩
  have E2 : Hid (arrOk s d = true → x = 0 ∧ S = s.reverse ∧ D = (List.range d.length).map (fun (i : Nat) => d.getD (placeV s (indexV s.reverse (i : Int)).reverse).toNat 0)) := fun ho => by
    rw [hx, hS, hD]; unfold flipR okC; rw [if_pos ho]; exact ⟨rfl, rfl, rfl⟩
  clear hx hS hD h1 h2
  go_enter Try.func21, Try.ntmps21
  go_wp2_with fail
  refine (HOK.out _ (bAlloc (bAlloc (Below.refl _ _) _) _)).mono ?_
  rintro r w1 ⟨rfl, hb⟩
  have HB1 : Hid (Below w.heap.size w w1) := bTrans (bAlloc (bAlloc (Below.refl _ _) _) _) hb
  have X1 : Hid (Box w1 w.heap.size (.slice a s.length c) (.slice b d.length f) 26) := (Box.keep (heap_alloc2_old w _ _) hb)
  have R1 : Hid (Box w1 (w.heap.size + 1) (.slice none 0 0) (.slice none 0 0) 26) := (box_new2 w _ _ _ _).keep hb
  clear hb HOK
  by_cases ho : arrOk s d = true
  · obtain ⟨rfl, eS, eD⟩ := E2.out ho
    have ES : Hid (S = s.reverse ∧ D = (List.range d.length).map (fun (i : Nat) => d.getD (placeV s (indexV s.reverse (i : Int)).reverse).toNat 0)) := ⟨eS, eD⟩
    have HPL : Hid (∀ i : Nat, i < d.length → 0 ≤ placeV s (indexV s.reverse (i : Int)).reverse ∧ placeV s (indexV s.reverse (i : Int)).reverse < (d.length : Int)) := fun i hi => ⟨(flip_place ho i hi).1, (flip_place ho i hi).2.1⟩
    have hs3 : s.length ≤ 3 := (sizeV_ok (arrOk_shape ho)).1
    have hd3 : d.length ≤ 300 := arrOk_len ho
    obtain ⟨m, hm⟩ : ∃ m, m = d.length := ⟨_, rfl⟩
    have hm3 : m ≤ 300 := by omega
    have HM : Hid (m = d.length) := hm
    rw [ho]
    clear E1 E2 eS eD ho
    have q0 := X1.out.c0
    have q1 := X1.out.c1
    go_wp2_with fail
    refine (copied_impl c (H1.out.keep HB1.out) hs).mono ?_
    rintro r W2 ⟨rfl, rfl⟩
    have N2 : Hid (NewInts w1.heap.size (w1.alloc (.cells (vals s) 3)) (.slice (some ⟨w1.heap.size, 0, none⟩) s.length s.length) s) := newInts_alloc w1 s (Nat.le_refl _) (by omega)
    go_wp2_with fail
    refine (reverse_new N2.out hs3 (by simp)).mono ?_
    rintro r w3 ⟨⟨vr, rfl⟩, hp, hb⟩
    have P3 : Hid (Piece w1.heap.size w3.heap.size w3 (.slice (some ⟨w1.heap.size, 0, none⟩) s.length s.length) s.reverse) := hp
    have B3 : Hid (Below w1.heap.size w1 w3) := (bAlloc (Below.refl _ _) _).trans hb
    have X3 : Hid (Box w3 w.heap.size (.slice a s.length c) (.slice b d.length f) 26) := X1.out.keep B3.out
    have R3 : Hid (Box w3 (w.heap.size + 1) (.slice none 0 0) (.slice none 0 0) 26) := R1.out.keep B3.out
    have S3 : Hid (w1.heap.size ≤ w3.heap.size) := B3.out.size
    clear hp hb N2 q0 q1
    have q0 := X3.out.c0
    have q1 := X3.out.c1
    have hmk : ∀ w, (Instr.makeSlice 24 (.int .i64 (d.length : Int)) (.int .i64 (d.length : Int))).run Try.prog w = .ok (.slice (some ⟨w.heap.size, 0, none⟩) m m) (w.alloc (.cells (vals (List.replicate m 0)) 3)) := fun w => by rw [hm]; exact make_ints d.length (by omega) w
    clear hm
    go_wp2
    generalize hW : w3.alloc (.cells (vals (List.replicate m 0)) 3) = W
    have P0 : Hid (Piece w3.heap.size (w3.heap.size + 1) W (.slice (some ⟨w3.heap.size, 0, none⟩) m m) (List.replicate m 0)) := by
      rw [← hW]
      have := OwnInts.piece (ownInts_new w3 (List.replicate m 0)) (B := w3.heap.size) (C := w3.heap.size + 1) (Nat.le_refl _) (Nat.lt_succ_self _) m
      show Piece _ _ _ _ _
      simpa using this
    have B0 : Hid (Below w3.heap.size w3 W) := by rw [← hW]; exact bAlloc (Below.refl _ _) _
    have S0 : Hid (w3.heap.size + 1 ≤ W.heap.size) := by rw [← hW]; show _ ≤ _; simp
    clear hW hmk q0 q1
    obtain ⟨φ, hφ⟩ : ∃ φ : Nat → Int, φ = fun (i : Nat) => d.getD (placeV s (indexV s.reverse (i : Int)).reverse).toNat 0 := ⟨_, rfl⟩
    have HPH : Hid (∀ k, φ k = d.getD (placeV s (indexV s.reverse (k : Int)).reverse).toNat 0) := fun k => by rw [hφ]
    rw [← hφ] at ES
    clear hφ
    go_loopw [23] (fun i w' => ∃ (k : Nat) (l : List Int), k ≤ m ∧ i = .int .i64 (k : Int) ∧ l = setTo φ (List.replicate m 0) k ∧ l.length = m ∧ Piece w3.heap.size (w3.heap.size + 1) w' (.slice (some ⟨w3.heap.size, 0, none⟩) m m) l ∧ Below w3.heap.size w3 w' ∧ w3.heap.size + 1 ≤ w'.heap.size) (fun i _ => m - (intOf i).toNat)
    case atStart => exact ⟨0, _, by omega, rfl, by rw [setTo_zero], by simp, P0.out, B0.out, S0.out⟩
    case round =>
      obtain ⟨k, l, hk, rfl, hl, hll, hP, hb, hs'⟩ := hrel
      have HL : Hid (l = setTo φ (List.replicate m 0) k) := hl
      have HLL : Hid (l.length = m) := hll
      have HP : Hid (Piece w3.heap.size (w3.heap.size + 1) wr (.slice (some ⟨w3.heap.size, 0, none⟩) m m) l) := hP
      have HB : Hid (Below w3.heap.size w3 wr ∧ w3.heap.size + 1 ≤ wr.heap.size) := ⟨hb, hs'⟩
      have BW : Hid (Below w.heap.size w wr) := bTrans (bTrans HB1.out B3.out) hb
      clear hl hll hP hb hs' P0 B0 S0
      by_cases hlt : (k : Int) < (m : Int)
      · obtain ⟨e1, e2⟩ := HPL.out k (by have := HM.out; omega)
        have hix := indexV_len s.reverse (k : Int)
        have hf := HPH.out k
        obtain ⟨ix, hxx⟩ : ∃ ix, ix = indexV s.reverse (k : Int) := ⟨_, rfl⟩
        rw [← hxx] at e1 e2 hix hf
        obtain ⟨PN, hPN⟩ : ∃ PN : Nat, placeV s ix.reverse = (PN : Int) := ⟨(placeV s ix.reverse).toNat, by omega⟩
        rw [hPN] at e1 e2 hf
        rw [Int.toNat_natCast] at hf
        obtain ⟨b1, o1, rfl, hb1, c1⟩ := H2.out.at (k := PN) (by omega)
        rw [← hf] at c1
        have CC : Hid (∀ W, Below w.heap.size w W → W.cell? ⟨b1, o1 + PN, none⟩ = some (.int .i64 (φ k))) := fun W h => (h.cell (p := ⟨b1, o1 + PN, none⟩) hb1).trans c1
        obtain ⟨_, _, ev, ir⟩ := P3.out.ints
        simp only [Value.slice.injEq] at ev
        obtain ⟨rfl, e8, e9⟩ := ev
        clear e8 e9
        have IR : Hid (Ints wr (some ⟨w1.heap.size, 0, none⟩) s.reverse) := ir.keep HB.out.1
        have HIX : Hid (Calls Try.prog 64 #[.slice (some ⟨w1.heap.size, 0, none⟩) s.length s.length, .int .i64 (k : Int)] wr fun e w' => ∃ v, e = .returned v ∧ NewInts wr.heap.size w' v ix ∧ Below wr.heap.size wr w') := by
          have q := index_impl (k : Int) s.length IR.out
          rw [List.length_reverse, ← hxx] at q
          exact q
        have HPO : Hid (∀ W a' c', Ints W a s → Ints W a' ix.reverse → Calls Try.prog 65 #[.slice a s.length c, .slice a' ix.length c'] W fun e w' => e = .returned (.int .i64 (PN : Int)) ∧ Below W.heap.size W w') := fun W a' c' i1 i2 => by
          have q := place_impl c c' i1 i2
          rw [List.length_reverse, hPN] at q
          exact q
        have E3 : Hid (l.set k (φ k) = setTo φ (List.replicate m 0) (k + 1)) := by show _ = _; rw [HL.out]; exact setTo_set φ _ (by simp; omega)
        have hz : (PN : Int) < (d.length : Int) := e2
        generalize φ k = x at *
        clear hxx hPN hf c1 ir hk
        go_wp2_with fail
        refine (HIX.out).mono ?_
        rintro r w5 ⟨v5, rfl, hN, hb⟩
        obtain ⟨ia, ic, ev, _⟩ := hN.ints
        subst ev
        have N5 : Hid (NewInts wr.heap.size w5 (.slice ia ix.length ic) ix) := hN
        have B5 : Hid (Below wr.heap.size wr w5) := hb
        clear hN hb HIX
        go_wp2_with fail
        refine (reverse_new N5.out hix B5.out.size).mono ?_
        rintro r w6 ⟨⟨vr', rfl⟩, hp, hb⟩
        obtain ⟨_, _, ev, i6⟩ := hp.ints
        have I6 : Hid (Ints w6 ia ix.reverse) := by simp only [Value.slice.injEq] at ev; obtain ⟨rfl, e8, e9⟩ := ev; exact i6
        have B6 : Hid (Below wr.heap.size wr w6) := B5.out.trans hb
        have X6 : Hid (Box w6 w.heap.size (.slice a s.length c) (.slice (some ⟨b1, o1, none⟩) d.length f) 26) := (X3.out.keep HB.out.1).keep B6.out
        have P6 : Hid (Piece w3.heap.size (w3.heap.size + 1) w6 (.slice (some ⟨w3.heap.size, 0, none⟩) m m) l) := HP.out.keep B6.out
        have C6 := CC.out _ (bTrans BW.out B6.out)
        clear hp hb i6 ev N5
        have q0 := X6.out.c0
        have q1 := X6.out.c1
        go_wp2_with fail
        go_region_held3 (fun w' => w'.cell? ⟨w.heap.size, 0, none⟩ = some (.slice a s.length c) ∧ w'.cell? ⟨w.heap.size, 1, none⟩ = some (.slice (some ⟨b1, o1, none⟩) d.length f) ∧ w'.cell? ⟨b1, o1 + PN, none⟩ = some (.int .i64 x))
          (first | with_reducible exact ⟨z0, z1, z2⟩ | with_reducible exact ⟨y0, y1, y2⟩ | exact ⟨q0, q1, C6⟩)
          ((go_at_call 65; refine (HPO.out _ _ _ (H1.out.keep (bTrans BW.out (bTrans B6.out ((Below.refl w6.heap.size w6).drew)))) (I6.out.keep ((Below.refl w6.heap.size w6).drew))).mono ?_; rintro r w7 ⟨rfl, hb⟩; have B7 : Hid (Below wr.heap.size wr w7) := bTrans B6.out (bTrans ((Below.refl w6.heap.size w6).drew) hb); have y0 := (Box.keep X6.out (bTrans ((Below.refl w6.heap.size w6).drew) hb)).c0; have y1 := (Box.keep X6.out (bTrans ((Below.refl w6.heap.size w6).drew) hb)).c1; have y2 := CC.out _ (bTrans BW.out B7.out); have P7 : Hid (Piece w3.heap.size (w3.heap.size + 1) w7 (.slice (some ⟨w3.heap.size, 0, none⟩) m m) l) := HP.out.keep B7.out; obtain ⟨t1, t2, _, _, _⟩ := P7.out.cellAt (k := k) (by rw [HLL.out]; omega); rw [Nat.zero_add] at t1 t2; generalize l.getD k 0 = zz at t1; have z0 := ((Box.keep X6.out (bTrans ((Below.refl w6.heap.size w6).drew) hb)).win (win_setCell _ w3.heap.size k (.int .i64 x)) (.inl X3.out.lt)).c0; have z1 := ((Box.keep X6.out (bTrans ((Below.refl w6.heap.size w6).drew) hb)).win (win_setCell _ w3.heap.size k (.int .i64 x)) (.inl X3.out.lt)).c1; have z2 : (w7.setCell ⟨w3.heap.size, k, none⟩ (.int .i64 x)).cell? ⟨b1, o1 + PN, none⟩ = some (.int .i64 x) := CC.out _ (below_setCell (bTrans BW.out B7.out) (by have := HB1.out.size; have := S3.out; omega) _ _); clear hb))
        go_wp2
        go_roundw
        case rel => exact ⟨k + 1, _, by omega, by go_num, E3.out, by rw [List.length_set]; exact HLL.out, piece_setN6 P7.out HLL.out (by omega) _, below_setCell (bTrans HB.out.1 B7.out) (Nat.le_refl _) _ _, by rw [size_setCell]; exact Nat.le_trans HB.out.2 B7.out.size⟩
        case measure => simp [intOf]; omega
      · obtain rfl : k = m := by omega
        have ED : Hid (D = l) := by show _ = _; rw [ES.out.2, HL.out, setTo_all _ _ (by simp), HM.out]
        have RR : Hid (Box wr (w.heap.size + 1) (.slice none 0 0) (.slice none 0 0) 26) := R3.out.keep HB.out.1
        have LT : Hid (w.heap.size + 1 < w1.heap.size) := R1.out.lt
        have PS : Hid (Piece w1.heap.size w3.heap.size wr (.slice (some ⟨w1.heap.size, 0, none⟩) s.length s.length) s.reverse) := P3.out.keep HB.out.1
        have y0 := RR.out.c0
        have y1 := RR.out.c1
        have f0 : wr.frozen? ⟨w.heap.size + 1, 0, none⟩ = false := free_at RR.out 0
        have f1 : wr.frozen? ⟨w.heap.size + 1, 1, none⟩ = false := free_at RR.out 1
        have HR : Hid (((wr.setCell ⟨w.heap.size + 1, 0, none⟩ (.slice (some ⟨w1.heap.size, 0, none⟩) s.length s.length)).setCell ⟨w.heap.size + 1, 1, none⟩ (.slice (some ⟨w3.heap.size, 0, none⟩) k k)).heap[w.heap.size + 1]? = some (.cells #[.slice (some ⟨w1.heap.size, 0, none⟩) s.length s.length, .slice (some ⟨w3.heap.size, 0, none⟩) k k] 26 (0, 0))) := arr_stored RR.out
        go_wp2
        refine bodyPost_ret (results_arr_tmp Try.results21 _ _ (w.heap.size + 1) _ _ rfl HR.out) rfl ?_
        refine ⟨_, rfl, ?_, below_setCell (below_setCell BW.out (by omega) _ _) (by omega) _ _⟩
        have L1 := LT.out
        have L2 := HB.out.2
        have L3 := S3.out
        rw [ES.out.1, ED.out]
        have p1' := (PS.out.win (win_setCell _ (w.heap.size + 1) 0 (.slice (some ⟨w1.heap.size, 0, none⟩) s.length s.length)) (.inr (by omega))).win (win_setCell _ (w.heap.size + 1) 1 (.slice (some ⟨w3.heap.size, 0, none⟩) k k)) (.inr (by omega))
        have p2' := (HP.out.win (win_setCell _ (w.heap.size + 1) 0 (.slice (some ⟨w1.heap.size, 0, none⟩) s.length s.length)) (.inr (by omega))).win (win_setCell _ (w.heap.size + 1) 1 (.slice (some ⟨w3.heap.size, 0, none⟩) k k)) (.inr (by omega))
        exact ⟨_, _, rfl, p1'.mono (by omega) (by simp only [size_setCell]; omega), p2'.mono (by omega) (by simp only [size_setCell]; omega), p1'.apart p2' (.inl (by omega))⟩
  · have ho' : arrOk s d = false := by simpa using ho
    obtain ⟨rfl, rfl, rfl⟩ := E1.out ho'
    rw [ho']
    clear E1 E2 ho ho'
    have y0 := R1.out.c0
    have y1 := R1.out.c1
    have f0 : w1.frozen? ⟨w.heap.size + 1, 0, none⟩ = false := free_at R1.out 0
    have f1 : w1.frozen? ⟨w.heap.size + 1, 1, none⟩ = false := free_at R1.out 1
    have HR : Hid (((w1.setCell ⟨w.heap.size + 1, 0, none⟩ (.slice none 0 0)).setCell ⟨w.heap.size + 1, 1, none⟩ (.slice none 0 0)).heap[w.heap.size + 1]? = some (.cells #[.slice none 0 0, .slice none 0 0] 26 (0, 0))) := arr_stored R1.out
    go_wp2
    refine bodyPost_ret (results_arr_tmp Try.results21 _ _ (w.heap.size + 1) _ _ rfl HR.out) rfl ?_
    exact ⟨_, rfl, arr_zero _ _ _, below_setCell (below_setCell HB1.out (by omega) _ _) (by omega) _ _⟩
end Go.Proofs.Ytcpgdhffemecbaa
