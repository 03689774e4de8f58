/-
  Several texts, one behind the other: SpecEach2, SpecEach2b, SpecCopy.
-/
import Derived.Test.YtnkacfgbkfkhdaaGreatY8
import Derived.Deep.AppendLies
import Derived.Deep.RegionHeld3
import Derived.Test.YtnkacfgbkfkhdaaGreatY7
import Derived.Test.YtnkacfgbkfkhdaaGreatY3
namespace Go.Proofs.YtnkacfgbkfkhdaaGreat
open Go.RowKit
set_option linter.unusedVariables false
set_option linter.unusedSimpArgs false
theorem eachTwo_bad {g : Int} {s d t e : List Int} (h : eachTwoC g s d t e ≠ 0) : eachTwoS g s d t e = [] ∧ eachTwoD g s d t e = [] := by
  unfold eachTwoS eachTwoD; rw [if_neg h, if_neg h]; exact ⟨rfl, rfl⟩
theorem eachTwo_good {g : Int} {s d t e : List Int} (h : eachTwoC g s d t e = 0) : eachTwoS g s d t e = fitS s d t e ∧ eachTwoD g s d t e = (List.range (eachN s d t e)).map (fun i => (twoV g (numOf s d i) (numOf t e i)).1) := by
  unfold eachTwoS eachTwoD; rw [if_pos h, if_pos h]; exact ⟨rfl, rfl⟩
/-- Three blocks of two cells, one behind the other. -/
theorem box3 (w : World) (A B : Obj) (x y : Value) (t : TypeId) : Box (((w.alloc A).alloc B).alloc (.cells #[x, y] t)) (w.heap.size + 1 + 1) x y t := by
  have := box_new2 (w.alloc A) B x y t
  simpa using this
theorem boxSetE {w : World} {q : Nat} {x y : Value} {t : TypeId} (h : Box w q x y t) (y' : Value) : Box (w.setCell ⟨q, 1, none⟩ y') q x y' t := by
  have := heap_setCell_same w q 1 _ _ y' h
  unfold Box; simpa using this
theorem boxGrownE {w w' : World} {q : Nat} {x y : Value} {t : TypeId} {row : Option Nat} (h : Box w q x y t) (hg : w.grownBy w' row) (hr : ∀ k, row = some k → q < k) : Box w' q x y t := by
  unfold Box at *; rw [hg.block q (lt_of_heapA h) (fun e => by have := hr q e.symm; omega)]; exact h
theorem below_grown {B : Nat} {a w w' : World} {row : Option Nat} (h : Below B a w) (hg : w.grownBy w' row) (hr : ∀ k, row = some k → B ≤ k) (hB : B ≤ w.heap.size) : Below B a w' :=
  ⟨hg.os.trans h.os, hg.tape.trans h.tape, hg.output.trans h.output, Nat.le_trans h.size hg.size, fun k hk => (hg.block k (by omega) (fun e => by have := hr k e.symm; omega)).trans (h.block k hk)⟩
/-- EachTwo, where nothing stands in its way at first. -/
structure TwoAt (w : World) (zb : Nat) (W0 wr : World) (sv : Value) (m : List Int) (dv : Value) : Prop where
  box : Box wr zb sv dv 26
  row : NewInts (zb + 1) wr dv m
  below : Below zb W0 wr
  lt : zb < wr.heap.size
set_option maxRecDepth 20000 in
set_option maxHeartbeats 4000000 in
theorem eachTwo_ok {g : Int} {s d t e : List Int} {w : World} {v u : Value} (h : ArrI w v s d) (k : ArrI w u t e) (hs : s.length ≤ 1048576) (hd : d.length ≤ 1048576) (ht : t.length ≤ 1048576) (he : e.length ≤ 1048576)
    (ho : arrOk s d = true) (ho' : arrOk t e = true) (hg2 : sign2 g = true) (hf0 : fitC s d t e = 0) :
    Calls Tryz.prog 84 #[.int .i64 g, v, u] w fun r w' => ∃ v', r = .returned (.tuple #[v', .int .i64 (eachTwoC g s d t e)]) ∧ Arr w.heap.size w'.heap.size w' v' (eachTwoS g s d t e) (eachTwoD g s d t e) ∧ Below w.heap.size w w' := by
  have hi := info_int
  obtain ⟨i0, hq, z1, z2, z3⟩ : ∃ i0, Tryz.prog.info? 3 = some i0 ∧ i0.zero = some (.int .i64 0) ∧ i0.size = 1 ∧ i0.bytes = 8 := by
    cases hq : Tryz.prog.info? 3 with
    | none => rw [hq] at hi; cases hi
    | some i => rw [hq] at hi; simp at hi; exact ⟨i, rfl, hi.1, hi.2.1, hi.2.2⟩
  clear hi
  have H : Hid (ArrI w v s d) := h
  have K : Hid (ArrI w u t e) := k
  obtain ⟨a, c, b, f, rfl, h1, h2, _, _⟩ := h
  obtain ⟨a', c', b', f', rfl, k1, k2, _, _⟩ := k
  have HS : Hid (s.length ≤ 1048576) := hs
  have HD : Hid (d.length ≤ 1048576) := hd
  have HT : Hid (t.length ≤ 1048576) := ht
  have HE : Hid (e.length ≤ 1048576) := he
  have HO : Hid (arrOk s d = true) := ho
  have HO' : Hid (arrOk t e = true) := ho'
  have HG : Hid (sign2 g = true) := hg2
  obtain ⟨F1, F2, F3⟩ := fit_size hf0
  obtain ⟨n, hn⟩ : ∃ n, n = eachN s d t e := ⟨_, rfl⟩
  obtain ⟨S, hS⟩ : ∃ S, S = fitS s d t e := ⟨_, rfl⟩
  obtain ⟨C, hC⟩ : ∃ C, C = eachTwoC g s d t e := ⟨_, rfl⟩
  have HC : Hid (C = firstC (fun i => (twoV g (numOf s d i) (numOf t e i)).2) n) := by show _ = _; rw [hC, hn]; unfold eachTwoC; rw [if_pos ⟨ho, ho', hg2⟩, if_pos hf0]
  have HBAD : Hid (C ≠ 0 → eachTwoS g s d t e = [] ∧ eachTwoD g s d t e = []) := by rw [hC]; exact eachTwo_bad
  have HGOOD : Hid (C = 0 → eachTwoS g s d t e = S ∧ eachTwoD g s d t e = (List.range n).map (fun i => (twoV g (numOf s d i) (numOf t e i)).1)) := by rw [hC, hS, hn]; exact eachTwo_good
  have HFS : Hid (∀ W p q, ArrI W p s d → ArrI W q t e → Calls Tryz.prog 101 #[p, q] W fun r w' => ∃ v', r = .returned (.tuple #[v', .int .i64 0]) ∧ Piece W.heap.size w'.heap.size w' v' S ∧ Below W.heap.size W w') := fun W p q hp hq' => by
    have := fit_spec hp hq' HS.out HD.out HT.out HE.out
    rw [hf0, ← hS] at this
    exact this
  have HSZ : Hid (∀ W x (c : Nat), Ints W x S → Calls Tryz.prog 32 #[.slice x S.length c] W fun e w' => e = .returned (.int .i64 (n : Int)) ∧ w' = W) := fun W x c h => by
    have := size_spec c h
    rw [hn, F1, ← hS]
    exact this
  have HAT : Hid (∀ i, i < n → (s = [] → 0 < d.length) ∧ (s ≠ [] → i < d.length) ∧ (t = [] → 0 < e.length) ∧ (t ≠ [] → i < e.length)) := by rw [hn]; exact F3
  have hn3 : n ≤ 300 := by omega
  rw [← hC]
  clear h1 h2 k1 k2 hs hd ht he ho ho' hg2 hf0 F1 F2 F3 hC hS hn
  go_enter Tryz.func84, Tryz.ntmps84
  go_wp2_with fail
  refine (arrOk_spec (H.out.keep (bAlloc (bAlloc (bAlloc (Below.refl _ _) _) _) _)) HD.out).mono ?_
  rintro r w1 ⟨rfl, hb⟩
  have HB1 : Hid (Below w.heap.size w w1) := bTrans (bAlloc (bAlloc (bAlloc (Below.refl _ _) _) _) _) hb
  have X1 : Hid (Box w1 w.heap.size (.slice a s.length c) (.slice b d.length f) 26) := (((box_new w _ _ _).keep (bAlloc (Below.refl _ _) _)).keep (bAlloc (Below.refl _ _) _)).keep hb
  have Y1 : Hid (Box w1 (w.heap.size + 1) (.slice a' t.length c') (.slice b' e.length f') 26) := ((box_new2 w _ _ _ _).keep (bAlloc (Below.refl _ _) _)).keep hb
  have R1 : Hid (Box w1 (w.heap.size + 1 + 1) (.slice none 0 0) (.slice none 0 0) 26) := (box3 w _ _ _ _ _).keep hb
  have x0 := X1.out.c0
  have x1 := X1.out.c1
  have y0 := Y1.out.c0
  have y1 := Y1.out.c1
  clear hb
  rw [HO.out]
  go_wp2_with fail
  refine (arrOk_spec (K.out.keep HB1.out) HE.out).mono ?_
  rintro r w2 ⟨rfl, hb⟩
  have HB2 : Hid (Below w.heap.size w w2) := bTrans HB1.out hb
  have X2 : Hid (Box w2 w.heap.size (.slice a s.length c) (.slice b d.length f) 26) := X1.out.keep hb
  have Y2 : Hid (Box w2 (w.heap.size + 1) (.slice a' t.length c') (.slice b' e.length f') 26) := Y1.out.keep hb
  have R2 : Hid (Box w2 (w.heap.size + 1 + 1) (.slice none 0 0) (.slice none 0 0) 26) := R1.out.keep hb
  clear hb x0 x1 y0 y1 X1 Y1 R1 HB1
  have x0 := X2.out.c0
  have x1 := X2.out.c1
  have y0 := Y2.out.c0
  have y1 := Y2.out.c1
  rw [HO'.out]
  go_wp2_with fail
  refine (sign2_spec g _).mono ?_
  rintro r w' ⟨rfl, hw⟩
  subst w'
  rw [HG.out]
  go_wp2_with fail
  refine (HFS.out _ _ _ (H.out.keep HB2.out) (K.out.keep HB2.out)).mono ?_
  rintro r w3 ⟨v3, rfl, hp, hb⟩
  obtain ⟨sa, sc, rfl, _⟩ := hp.ints
  have HB3 : Hid (Below w.heap.size w w3) := bTrans HB2.out hb
  have X3 : Hid (Box w3 w.heap.size (.slice a s.length c) (.slice b d.length f) 26) := X2.out.keep hb
  have Y3 : Hid (Box w3 (w.heap.size + 1) (.slice a' t.length c') (.slice b' e.length f') 26) := Y2.out.keep hb
  have R3 : Hid (Box w3 (w.heap.size + 1 + 1) (.slice none 0 0) (.slice none 0 0) 26) := R2.out.keep hb
  have S3 : Hid (w.heap.size + 1 + 1 < w2.heap.size) := R2.out.lt
  have PS : Hid (Piece w2.heap.size w3.heap.size w3 (.slice sa S.length sc) S) := hp
  have S4 : Hid (w2.heap.size ≤ w3.heap.size) := hb.size
  clear hb hp x0 x1 y0 y1 X2 Y2 R2 HB2
  go_wp2
  generalize hW : w3.alloc (.cells #[.slice sa S.length sc, .slice none 0 0] 26) = W4
  have Z4 : Hid (TwoAt w w3.heap.size w3 W4 (.slice sa S.length sc) [] (.slice none 0 0)) := by
    rw [← hW]; exact ⟨box_new w3 _ _ _, ⟨rfl, .inl ⟨rfl, rfl⟩⟩, bAlloc (Below.refl _ _) _, by simp⟩
  clear hW
  go_loopw [11] (fun i w' => ∃ (k : Nat) (m : List Int) (ad : Option Addr) (cd : Nat), k ≤ n ∧ i = .int .i64 (k : Int) ∧ firstC (fun i => (twoV g (numOf s d i) (numOf t e i)).2) k = 0 ∧ m = (List.range k).map (fun i => (twoV g (numOf s d i) (numOf t e i)).1) ∧ TwoAt w w3.heap.size w3 w' (.slice sa S.length sc) m (.slice ad m.length cd)) (fun i _ => n - (intOf i).toNat)
  case atStart => exact ⟨0, [], none, 0, by omega, rfl, rfl, rfl, Z4.out⟩
  case round =>
    obtain ⟨k, m, ad, cd, hk, rfl, hf, hm, hT⟩ := hrel
    have HF : Hid (firstC (fun i => (twoV g (numOf s d i) (numOf t e i)).2) k = 0) := hf
    have HM : Hid (m = (List.range k).map (fun i => (twoV g (numOf s d i) (numOf t e i)).1)) := hm
    have HML : Hid (m.length = k) := by show _ = _; rw [hm]; simp
    have HT4 : Hid (TwoAt w w3.heap.size w3 wr (.slice sa S.length sc) m (.slice ad m.length cd)) := hT
    have X : Hid (Box wr w.heap.size (.slice a s.length c) (.slice b d.length f) 26) := X3.out.keep hT.below
    have Y : Hid (Box wr (w.heap.size + 1) (.slice a' t.length c') (.slice b' e.length f') 26) := Y3.out.keep hT.below
    have R : Hid (Box wr (w.heap.size + 1 + 1) (.slice none 0 0) (.slice none 0 0) 26) := R3.out.keep hT.below
    have HBr : Hid (Below w.heap.size w wr) := bTrans HB3.out hT.below
    have HI : Hid (Ints wr sa S) := by
      obtain ⟨x', c'', e', i'⟩ := (PS.out.keep hT.below).ints
      cases e'
      exact i'
    have x0 := X.out.c0
    have x1 := X.out.c1
    have y0 := Y.out.c0
    have y1 := Y.out.c1
    clear hf hm hT
    by_cases hlt : (k : Int) < (n : Int)
    · have L : k < n := by omega
      obtain ⟨q1, q2, q3, q4⟩ := HAT.out k L
      have O1 : Hid (∀ W, Below w.heap.size w W → Calls Tryz.prog 102 #[.agg #[.slice a s.length c, .slice b d.length f], .int .i64 (k : Int)] W fun r w' => r = .returned (.int .i64 (numOf s d k)) ∧ Below W.heap.size W w') := fun W h => of_spec k (H.out.keep h) q1 q2 HD.out
      have O2 : Hid (∀ W, Below w.heap.size w W → Calls Tryz.prog 102 #[.agg #[.slice a' t.length c', .slice b' e.length f'], .int .i64 (k : Int)] W fun r w' => r = .returned (.int .i64 (numOf t e k)) ∧ Below W.heap.size W w') := fun W h => of_spec k (K.out.keep h) q3 q4 HE.out
      have HV : Hid (∀ W, Calls Tryz.prog 59 #[.int .i64 g, .int .i64 (numOf s d k), .int .i64 (numOf t e k)] W fun e' w' => e' = .returned (.tuple #[.int .i64 (twoV g (numOf s d k) (numOf t e k)).1, .int .i64 (twoV g (numOf s d k) (numOf t e k)).2]) ∧ w' = W) := fun W => two_spec g _ _ W
      have E1 : Hid ((twoV g (numOf s d k) (numOf t e k)).2 = 0 → firstC (fun i => (twoV g (numOf s d i) (numOf t e i)).2) (k + 1) = 0) := fun h => firstC_go HF.out h
      have E2 : Hid ((twoV g (numOf s d k) (numOf t e k)).2 ≠ 0 → C = (twoV g (numOf s d k) (numOf t e k)).2) := fun h => by rw [HC.out]; exact firstC_stop HF.out h L
      have E3 : Hid (m ++ [(twoV g (numOf s d k) (numOf t e k)).1] = (List.range (k + 1)).map (fun i => (twoV g (numOf s d i) (numOf t e i)).1)) := by show _ = _; rw [HM.out, List.range_succ]; simp
      clear q1 q2 q3 q4
      generalize hx : (twoV g (numOf s d k) (numOf t e k)).1 = x at *
      generalize hy : (twoV g (numOf s d k) (numOf t e k)).2 = y at *
      generalize numOf s d k = u1 at *
      generalize numOf t e k = u2 at *
      clear hx hy
      go_wp2_with fail
      refine (HSZ.out _ _ _ HI.out).mono ?_
      rintro r w' ⟨rfl, hw⟩
      subst w'
      go_wp2_with fail
      go_region_held3 (fun w' => w'.cell? ⟨w.heap.size, 0, none⟩ = some (.slice a s.length c) ∧ w'.cell? ⟨w.heap.size, 1, none⟩ = some (.slice b d.length f) ∧ w'.cell? ⟨w.heap.size + 1, 0, none⟩ = some (.slice a' t.length c') ∧ w'.cell? ⟨w.heap.size + 1, 1, none⟩ = some (.slice b' e.length f'))
        (first | exact ⟨r0, r1, r2, r3⟩ | exact ⟨p0, p1, p2, p3⟩ | exact ⟨x0, x1, y0, y1⟩)
        (first
          | (go_at_call_of 102 (Value.agg #[.slice a s.length c, .slice b d.length f]); refine (O1.out _ (bTrans HBr.out ((Below.refl wr.heap.size wr).drew))).mono ?_; rintro r w5 ⟨rfl, hb⟩; have HB5 : Hid (Below wr.heap.size wr w5) := bTrans ((Below.refl wr.heap.size wr).drew) hb; have p0 := (X.out.keep HB5.out).c0; have p1 := (X.out.keep HB5.out).c1; have p2 := (Y.out.keep HB5.out).c0; have p3 := (Y.out.keep HB5.out).c1; clear hb)
          | (go_at_call_of 102 (Value.agg #[.slice a' t.length c', .slice b' e.length f']); refine (O2.out _ (bTrans HBr.out HB5.out)).mono ?_; rintro r w6 ⟨rfl, hb⟩; have HB6 : Hid (Below wr.heap.size wr w6) := bTrans HB5.out hb; have r0 := (X.out.keep HB6.out).c0; have r1 := (X.out.keep HB6.out).c1; have r2 := (Y.out.keep HB6.out).c0; have r3 := (Y.out.keep HB6.out).c1; clear hb)
          | (go_at_call 59; refine (HV.out _).mono ?_; rintro r w' ⟨rfl, hw⟩; subst w'))
      have HBW : Hid (Below w.heap.size w w6) := bTrans HBr.out HB6.out
      clear p0 p1 p2 p3 x0 x1 y0 y1
      by_cases h0 : y = 0
      · subst h0
        have E1' : Hid (firstC (fun i => (twoV g (numOf s d i) (numOf t e i)).2) (k + 1) = 0) := E1.out rfl
        have T6 : Hid (TwoAt w w3.heap.size w3 w6 (.slice sa S.length sc) m (.slice ad m.length cd)) := ⟨HT4.out.box.keep HB6.out, ownsRow_keep HT4.out.row HB6.out, HT4.out.below.trans (HB6.out.mono (by have := HT4.out.lt; omega)), by have := HT4.out.lt; have := HB6.out.size; omega⟩
        have HK : Hid ((m.length + 1) * 8 ≤ 140737488355328 ∧ m.length + 1 ≤ maxLen) := by
          have := HML.out
          refine ⟨by omega, by unfold maxLen; omega⟩
        have c1 := T6.out.box.c1
        have c2 := (T6.out.box.keep (bAlloc (Below.refl _ _) (.cells #[.int .i64 x] 3))).c1
        have HL6 : Hid (w3.heap.size + 1 ≤ (w6.alloc (.cells #[.int .i64 x] 3)).heap.size) := by have := T6.out.lt; show _ ≤ _; simp; omega
        go_wp2_with (at_builtin; refine wpList_append_lies _ rfl (.tmp 62) (.tmp 64) 24 rfl (w3.heap.size + 1) 3 i0 (.int .i64 0) 1 8 Tryz.underlying24 hq z1 z2 z3 rfl (by decide) (.slice ad m.length cd) m.length (m.map (Value.int .i64)) rfl (ownsRow_keep T6.out.row (bAlloc (Below.refl _ _) _)) ⟨w6.heap.size, 0, none⟩ 1 1 [.int .i64 x] rfl rfl (World.news_of_block (cs := #[.int .i64 x]) (heap_alloc_new w6 _)) (by simp [Value.oneCell']) (by decide) HK.out.2 HK.out.1 HL6.out (w6.heap.size + 1) (by simp) ?_; intro g4 cap4 w7 hown hgrow hat hlt4; have B7 : Hid (Box w7 w3.heap.size (.slice sa S.length sc) (.slice ad m.length cd) 26) := boxGrownE (T6.out.box.keep (bAlloc (Below.refl _ _) _)) hgrow (fun q e => T6.out.row.row q e); have N7 : Hid (NewInts (w3.heap.size + 1) w7 (.slice (some ⟨g4, 0, none⟩) (m.length + 1) cap4) (m ++ [x])) := (by show World.ownsRow _ _ _ _ _ _ _; simpa using hown); have D7 : Hid (Below w3.heap.size w3 w7) := below_grown (T6.out.below.trans ((bAlloc (Below.refl w6.heap.size w6) _).mono (Nat.le_of_lt T6.out.lt))) hgrow (fun q e => Nat.le_of_succ_le (T6.out.row.row q e)) (Nat.le_trans (Nat.le_succ _) HL6.out); have y1 := B7.out.c1; have yf : w7.frozen? ⟨w3.heap.size, 1, none⟩ = false := free_at B7.out 1; clear hown hgrow hat hlt4)
        go_roundw
        case rel =>
          refine ⟨k + 1, m ++ [x], some ⟨g4, 0, none⟩, cap4, by omega, by go_num, E1'.out, E3.out, ?_, ?_, ?_, ?_⟩
          · have := boxSetE B7.out (.slice (some ⟨g4, 0, none⟩) (m.length + 1) cap4)
            simpa using this
          · have := N7.out.but ((But.refl w3.heap.size w7).setCell 1 (.slice (some ⟨g4, 0, none⟩) (m.length + 1) cap4)) (by omega)
            simpa using this
          · exact below_setCell D7.out (Nat.le_refl _) _ _
          · have := B7.out.lt; simp only [size_setCell]; omega
        case measure => simp [intOf]; omega
      · have hne : (y != 0) = true := by simpa using h0
        obtain rfl : C = y := E2.out h0
        obtain ⟨es, ed⟩ := HBAD.out h0
        have HES : Hid (eachTwoS g s d t e = []) := es
        have HED : Hid (eachTwoD g s d t e = []) := ed
        have R6 : Hid (Box w6 (w.heap.size + 1 + 1) (.slice none 0 0) (.slice none 0 0) 26) := R.out.keep HB6.out
        have HR : Hid (((w6.setCell ⟨w.heap.size + 1 + 1, 0, none⟩ (.slice none 0 0)).setCell ⟨w.heap.size + 1 + 1, 1, none⟩ (.slice none 0 0)).heap[w.heap.size + 1 + 1]? = some (.cells #[.slice none 0 0, .slice none 0 0] 26 (0, 0))) := arr_stored R6.out
        have y0 := R6.out.c0
        have y1 := R6.out.c1
        have f0 : w6.frozen? ⟨w.heap.size + 1 + 1, 0, none⟩ = false := free_at R6.out 0
        have f1 : w6.frozen? ⟨w.heap.size + 1 + 1, 1, none⟩ = false := free_at R6.out 1
        clear es ed h0
        go_wp2
        refine bodyPost_ret (results_arr_tmp Tryz.results84 _ _ (w.heap.size + 1 + 1) _ _ rfl HR.out) rfl ?_
        refine ⟨_, rfl, ?_, below_setCell (below_setCell HBW.out (by omega) _ _) (by omega) _ _⟩
        rw [HES.out, HED.out]
        exact arr_zero _ _ _
    · obtain rfl : k = n := by omega
      have h0 : C = 0 := by rw [HC.out, HF.out]
      obtain ⟨es, ed⟩ := HGOOD.out h0
      subst h0
      have HES : Hid (eachTwoS g s d t e = S) := es
      have HED : Hid (eachTwoD g s d t e = m) := by show _ = _; rw [ed, HM.out]
      have z0 := HT4.out.box.c0
      have zz := HT4.out.box.c1
      have HR : Hid (((wr.setCell ⟨w.heap.size + 1 + 1, 0, none⟩ (.slice sa S.length sc)).setCell ⟨w.heap.size + 1 + 1, 1, none⟩ (.slice ad m.length cd)).heap[w.heap.size + 1 + 1]? = some (.cells #[.slice sa S.length sc, .slice ad m.length cd] 26 (0, 0))) := arr_stored R.out
      have r0 := R.out.c0
      have r1 := R.out.c1
      have f0 : wr.frozen? ⟨w.heap.size + 1 + 1, 0, none⟩ = false := free_at R.out 0
      have f1 : wr.frozen? ⟨w.heap.size + 1 + 1, 1, none⟩ = false := free_at R.out 1
      clear es ed
      go_wp2_with fail
      refine (HSZ.out _ _ _ HI.out).mono ?_
      rintro r w' ⟨rfl, hw⟩
      subst w'
      go_wp2
      refine bodyPost_ret (results_arr_tmp Tryz.results84 _ _ (w.heap.size + 1 + 1) _ _ rfl HR.out) rfl ?_
      refine ⟨_, rfl, ?_, below_setCell (below_setCell HBr.out (by omega) _ _) (by omega) _ _⟩
      rw [HES.out, HED.out]
      have L := S3.out
      have L2 := S4.out
      have L3 := HT4.out.lt
      have p1 := (PS.out.keep HT4.out.below).mono (B' := w2.heap.size) (Nat.le_refl _) (Nat.le_refl _)
      have p2 : Piece (w3.heap.size + 1) wr.heap.size wr (.slice ad m.length cd) m := HT4.out.row.piece
      have A : Arr w2.heap.size wr.heap.size wr (.agg #[.slice sa S.length sc, .slice ad m.length cd]) S m := ⟨_, _, rfl, p1.mono (Nat.le_refl _) (by omega), p2.mono (by omega) (Nat.le_refl _), p1.apart p2 (.inl (by omega))⟩
      exact ((A.setCell L _ _).setCell L _ _).mono (by omega) (by simp only [size_setCell]; omega)
end Go.Proofs.YtnkacfgbkfkhdaaGreat
namespace Go.Proofs.YtnkacfgbkfkhdaaGreat
open Go.RowKit
set_option linter.unusedVariables false
set_option linter.unusedSimpArgs false
set_option maxRecDepth 20000 in
set_option maxHeartbeats 4000000 in
/-- EachTwo. -/
theorem eachTwo_spec {g : Int} {s d t e : List Int} {w : World} {v u : Value} (h : ArrI w v s d) (k : ArrI w u t e) (hs : s.length ≤ 1048576) (hd : d.length ≤ 1048576) (ht : t.length ≤ 1048576) (he : e.length ≤ 1048576) :
    Calls Tryz.prog 84 #[.int .i64 g, v, u] w fun r w' => ∃ v', r = .returned (.tuple #[v', .int .i64 (eachTwoC g s d t e)]) ∧ Arr w.heap.size w'.heap.size w' v' (eachTwoS g s d t e) (eachTwoD g s d t e) ∧ Below w.heap.size w w' := by
  by_cases hall : arrOk s d = true ∧ arrOk t e = true ∧ sign2 g = true
  · by_cases hf : fitC s d t e = 0
    · exact eachTwo_ok h k hs hd ht he hall.1 hall.2.1 hall.2.2 hf
    have hc : eachTwoC g s d t e = fitC s d t e := by unfold eachTwoC; rw [if_pos hall, if_neg hf]
    obtain ⟨es, ed⟩ := eachTwo_bad (g := g) (s := s) (d := d) (t := t) (e := e) (by rw [hc]; exact hf)
    rw [hc, es, ed]
    obtain ⟨q1, q2, q3⟩ := hall
    have H : Hid (ArrI w v s d) := h
    have K : Hid (ArrI w u t e) := k
    obtain ⟨a, c, b, f, rfl, _, _, _, _⟩ := h
    obtain ⟨a', c', b', f', rfl, _, _, _, _⟩ := k
    have HS : Hid (s.length ≤ 1048576) := hs
    have HD : Hid (d.length ≤ 1048576) := hd
    have HT : Hid (t.length ≤ 1048576) := ht
    have HE : Hid (e.length ≤ 1048576) := he
    have HO : Hid (arrOk s d = true) := q1
    have HO' : Hid (arrOk t e = true) := q2
    have HG : Hid (sign2 g = true) := q3
    have hne : (fitC s d t e != 0) = true := by simpa using hf
    clear hs hd ht he q1 q2 q3 hc es ed hf
    go_enter Tryz.func84, Tryz.ntmps84
    go_wp2_with fail
    refine (arrOk_spec (H.out.keep (bAlloc (bAlloc (bAlloc (Below.refl _ _) _) _) _)) HD.out).mono ?_
    rintro r w1 ⟨rfl, hb⟩
    have HB1 : Hid (Below w.heap.size w w1) := bTrans (bAlloc (bAlloc (bAlloc (Below.refl _ _) _) _) _) hb
    have X1 : Hid (Box w1 w.heap.size (.slice a s.length c) (.slice b d.length f) 26) := (((box_new w _ _ _).keep (bAlloc (Below.refl _ _) _)).keep (bAlloc (Below.refl _ _) _)).keep hb
    have Y1 : Hid (Box w1 (w.heap.size + 1) (.slice a' t.length c') (.slice b' e.length f') 26) := ((box_new2 w _ _ _ _).keep (bAlloc (Below.refl _ _) _)).keep hb
    have R1 : Hid (Box w1 (w.heap.size + 1 + 1) (.slice none 0 0) (.slice none 0 0) 26) := (box3 w _ _ _ _ _).keep hb
    have x0 := X1.out.c0
    have x1 := X1.out.c1
    have y0 := Y1.out.c0
    have y1 := Y1.out.c1
    clear hb
    rw [HO.out]
    go_wp2_with fail
    refine (arrOk_spec (K.out.keep HB1.out) HE.out).mono ?_
    rintro r w2 ⟨rfl, hb⟩
    have HB2 : Hid (Below w.heap.size w w2) := bTrans HB1.out hb
    have X2 : Hid (Box w2 w.heap.size (.slice a s.length c) (.slice b d.length f) 26) := X1.out.keep hb
    have Y2 : Hid (Box w2 (w.heap.size + 1) (.slice a' t.length c') (.slice b' e.length f') 26) := Y1.out.keep hb
    have R2 : Hid (Box w2 (w.heap.size + 1 + 1) (.slice none 0 0) (.slice none 0 0) 26) := R1.out.keep hb
    clear hb x0 x1 y0 y1 X1 Y1 R1 HB1
    have x0 := X2.out.c0
    have x1 := X2.out.c1
    have y0 := Y2.out.c0
    have y1 := Y2.out.c1
    rw [HO'.out]
    go_wp2_with fail
    refine (sign2_spec g _).mono ?_
    rintro r w' ⟨rfl, hw⟩
    subst w'
    rw [HG.out]
    go_wp2_with fail
    refine (fit_spec (H.out.keep HB2.out) (K.out.keep HB2.out) HS.out HD.out HT.out HE.out).mono ?_
    rintro r w3 ⟨v3, rfl, hp, hb⟩
    obtain ⟨sa, sc, rfl, _⟩ := hp.ints
    have HB3 : Hid (Below w.heap.size w w3) := bTrans HB2.out hb
    have R3 : Hid (Box w3 (w.heap.size + 1 + 1) (.slice none 0 0) (.slice none 0 0) 26) := R2.out.keep hb
    clear hb hp
    have r0 := R3.out.c0
    have r1 := R3.out.c1
    have f0 : w3.frozen? ⟨w.heap.size + 1 + 1, 0, none⟩ = false := free_at R3.out 0
    have f1 : w3.frozen? ⟨w.heap.size + 1 + 1, 1, none⟩ = false := free_at R3.out 1
    have HR : Hid (((w3.setCell ⟨w.heap.size + 1 + 1, 0, none⟩ (.slice none 0 0)).setCell ⟨w.heap.size + 1 + 1, 1, none⟩ (.slice none 0 0)).heap[w.heap.size + 1 + 1]? = some (.cells #[.slice none 0 0, .slice none 0 0] 26 (0, 0))) := arr_stored R3.out
    go_wp2
    refine bodyPost_ret (results_arr_tmp Tryz.results84 _ _ (w.heap.size + 1 + 1) _ _ rfl HR.out) rfl ?_
    exact ⟨_, rfl, arr_zero _ _ _, below_setCell (below_setCell HB3.out (by omega) _ _) (by omega) _ _⟩
  have hc : eachTwoC g s d t e = 1 := by unfold eachTwoC; rw [if_neg hall]
  obtain ⟨es, ed⟩ := eachTwo_bad (g := g) (s := s) (d := d) (t := t) (e := e) (by rw [hc]; decide)
  rw [hc, es, ed]
  have H : Hid (ArrI w v s d) := h
  have K : Hid (ArrI w u t e) := k
  obtain ⟨a, c, b, f, rfl, _, _, _, _⟩ := h
  obtain ⟨a', c', b', f', rfl, _, _, _, _⟩ := k
  have HD : Hid (d.length ≤ 1048576) := hd
  have HE : Hid (e.length ≤ 1048576) := he
  have hcase : arrOk s d = false ∨ (arrOk s d = true ∧ arrOk t e = false) ∨ (arrOk s d = true ∧ arrOk t e = true ∧ sign2 g = false) := by
    cases h1 : arrOk s d
    · exact .inl rfl
    · cases h2 : arrOk t e
      · exact .inr (.inl ⟨rfl, rfl⟩)
      · exact .inr (.inr ⟨rfl, rfl, by simpa [h1, h2] using hall⟩)
  clear hs hd ht he hc es ed hall
  rcases hcase with q1 | ⟨q1, q2⟩ | ⟨q1, q2, q3⟩
  · -- the left one is not right
    have HO : Hid (arrOk s d = false) := q1
    clear q1
    go_enter Tryz.func84, Tryz.ntmps84
    go_wp2_with fail
    refine (arrOk_spec (H.out.keep (bAlloc (bAlloc (bAlloc (Below.refl _ _) _) _) _)) HD.out).mono ?_
    rintro r w1 ⟨rfl, hb⟩
    have HB1 : Hid (Below w.heap.size w w1) := bTrans (bAlloc (bAlloc (bAlloc (Below.refl _ _) _) _) _) hb
    have X1 : Hid (Box w1 w.heap.size (.slice a s.length c) (.slice b d.length f) 26) := (((box_new w _ _ _).keep (bAlloc (Below.refl _ _) _)).keep (bAlloc (Below.refl _ _) _)).keep hb
    have Y1 : Hid (Box w1 (w.heap.size + 1) (.slice a' t.length c') (.slice b' e.length f') 26) := ((box_new2 w _ _ _ _).keep (bAlloc (Below.refl _ _) _)).keep hb
    have R1 : Hid (Box w1 (w.heap.size + 1 + 1) (.slice none 0 0) (.slice none 0 0) 26) := (box3 w _ _ _ _ _).keep hb
    have x0 := X1.out.c0
    have x1 := X1.out.c1
    have y0 := Y1.out.c0
    have y1 := Y1.out.c1
    clear hb
    rw [HO.out]
    have r0 := R1.out.c0
    have r1 := R1.out.c1
    have f0 : w1.frozen? ⟨w.heap.size + 1 + 1, 0, none⟩ = false := free_at R1.out 0
    have f1 : w1.frozen? ⟨w.heap.size + 1 + 1, 1, none⟩ = false := free_at R1.out 1
    have HR : Hid (((w1.setCell ⟨w.heap.size + 1 + 1, 0, none⟩ (.slice none 0 0)).setCell ⟨w.heap.size + 1 + 1, 1, none⟩ (.slice none 0 0)).heap[w.heap.size + 1 + 1]? = some (.cells #[.slice none 0 0, .slice none 0 0] 26 (0, 0))) := arr_stored R1.out
    go_wp2
    refine bodyPost_ret (results_arr_tmp Tryz.results84 _ _ (w.heap.size + 1 + 1) _ _ rfl HR.out) rfl ?_
    exact ⟨_, rfl, arr_zero _ _ _, below_setCell (below_setCell HB1.out (by omega) _ _) (by omega) _ _⟩
  · -- the right one is not right
    have HO : Hid (arrOk s d = true) := q1
    have HO' : Hid (arrOk t e = false) := q2
    clear q1 q2
    go_enter Tryz.func84, Tryz.ntmps84
    go_wp2_with fail
    refine (arrOk_spec (H.out.keep (bAlloc (bAlloc (bAlloc (Below.refl _ _) _) _) _)) HD.out).mono ?_
    rintro r w1 ⟨rfl, hb⟩
    have HB1 : Hid (Below w.heap.size w w1) := bTrans (bAlloc (bAlloc (bAlloc (Below.refl _ _) _) _) _) hb
    have X1 : Hid (Box w1 w.heap.size (.slice a s.length c) (.slice b d.length f) 26) := (((box_new w _ _ _).keep (bAlloc (Below.refl _ _) _)).keep (bAlloc (Below.refl _ _) _)).keep hb
    have Y1 : Hid (Box w1 (w.heap.size + 1) (.slice a' t.length c') (.slice b' e.length f') 26) := ((box_new2 w _ _ _ _).keep (bAlloc (Below.refl _ _) _)).keep hb
    have R1 : Hid (Box w1 (w.heap.size + 1 + 1) (.slice none 0 0) (.slice none 0 0) 26) := (box3 w _ _ _ _ _).keep hb
    have x0 := X1.out.c0
    have x1 := X1.out.c1
    have y0 := Y1.out.c0
    have y1 := Y1.out.c1
    clear hb
    rw [HO.out]
    go_wp2_with fail
    refine (arrOk_spec (K.out.keep HB1.out) HE.out).mono ?_
    rintro r w2 ⟨rfl, hb⟩
    have HB2 : Hid (Below w.heap.size w w2) := bTrans HB1.out hb
    have X2 : Hid (Box w2 w.heap.size (.slice a s.length c) (.slice b d.length f) 26) := X1.out.keep hb
    have Y2 : Hid (Box w2 (w.heap.size + 1) (.slice a' t.length c') (.slice b' e.length f') 26) := Y1.out.keep hb
    have R2 : Hid (Box w2 (w.heap.size + 1 + 1) (.slice none 0 0) (.slice none 0 0) 26) := R1.out.keep hb
    clear hb x0 x1 y0 y1 X1 Y1 R1 HB1
    have x0 := X2.out.c0
    have x1 := X2.out.c1
    have y0 := Y2.out.c0
    have y1 := Y2.out.c1
    rw [HO'.out]
    have r0 := R2.out.c0
    have r1 := R2.out.c1
    have f0 : w2.frozen? ⟨w.heap.size + 1 + 1, 0, none⟩ = false := free_at R2.out 0
    have f1 : w2.frozen? ⟨w.heap.size + 1 + 1, 1, none⟩ = false := free_at R2.out 1
    have HR : Hid (((w2.setCell ⟨w.heap.size + 1 + 1, 0, none⟩ (.slice none 0 0)).setCell ⟨w.heap.size + 1 + 1, 1, none⟩ (.slice none 0 0)).heap[w.heap.size + 1 + 1]? = some (.cells #[.slice none 0 0, .slice none 0 0] 26 (0, 0))) := arr_stored R2.out
    go_wp2
    refine bodyPost_ret (results_arr_tmp Tryz.results84 _ _ (w.heap.size + 1 + 1) _ _ rfl HR.out) rfl ?_
    exact ⟨_, rfl, arr_zero _ _ _, below_setCell (below_setCell HB2.out (by omega) _ _) (by omega) _ _⟩
  · -- no sign
    have HO : Hid (arrOk s d = true) := q1
    have HO' : Hid (arrOk t e = true) := q2
    have HG : Hid (sign2 g = false) := q3
    clear q1 q2 q3
    go_enter Tryz.func84, Tryz.ntmps84
    go_wp2_with fail
    refine (arrOk_spec (H.out.keep (bAlloc (bAlloc (bAlloc (Below.refl _ _) _) _) _)) HD.out).mono ?_
    rintro r w1 ⟨rfl, hb⟩
    have HB1 : Hid (Below w.heap.size w w1) := bTrans (bAlloc (bAlloc (bAlloc (Below.refl _ _) _) _) _) hb
    have X1 : Hid (Box w1 w.heap.size (.slice a s.length c) (.slice b d.length f) 26) := (((box_new w _ _ _).keep (bAlloc (Below.refl _ _) _)).keep (bAlloc (Below.refl _ _) _)).keep hb
    have Y1 : Hid (Box w1 (w.heap.size + 1) (.slice a' t.length c') (.slice b' e.length f') 26) := ((box_new2 w _ _ _ _).keep (bAlloc (Below.refl _ _) _)).keep hb
    have R1 : Hid (Box w1 (w.heap.size + 1 + 1) (.slice none 0 0) (.slice none 0 0) 26) := (box3 w _ _ _ _ _).keep hb
    have x0 := X1.out.c0
    have x1 := X1.out.c1
    have y0 := Y1.out.c0
    have y1 := Y1.out.c1
    clear hb
    rw [HO.out]
    go_wp2_with fail
    refine (arrOk_spec (K.out.keep HB1.out) HE.out).mono ?_
    rintro r w2 ⟨rfl, hb⟩
    have HB2 : Hid (Below w.heap.size w w2) := bTrans HB1.out hb
    have X2 : Hid (Box w2 w.heap.size (.slice a s.length c) (.slice b d.length f) 26) := X1.out.keep hb
    have Y2 : Hid (Box w2 (w.heap.size + 1) (.slice a' t.length c') (.slice b' e.length f') 26) := Y1.out.keep hb
    have R2 : Hid (Box w2 (w.heap.size + 1 + 1) (.slice none 0 0) (.slice none 0 0) 26) := R1.out.keep hb
    clear hb x0 x1 y0 y1 X1 Y1 R1 HB1
    have x0 := X2.out.c0
    have x1 := X2.out.c1
    have y0 := Y2.out.c0
    have y1 := Y2.out.c1
    rw [HO'.out]
    go_wp2_with fail
    refine (sign2_spec g _).mono ?_
    rintro r w' ⟨rfl, hw⟩
    subst w'
    rw [HG.out]
    have r0 := R2.out.c0
    have r1 := R2.out.c1
    have f0 : w2.frozen? ⟨w.heap.size + 1 + 1, 0, none⟩ = false := free_at R2.out 0
    have f1 : w2.frozen? ⟨w.heap.size + 1 + 1, 1, none⟩ = false := free_at R2.out 1
    have HR : Hid (((w2.setCell ⟨w.heap.size + 1 + 1, 0, none⟩ (.slice none 0 0)).setCell ⟨w.heap.size + 1 + 1, 1, none⟩ (.slice none 0 0)).heap[w.heap.size + 1 + 1]? = some (.cells #[.slice none 0 0, .slice none 0 0] 26 (0, 0))) := arr_stored R2.out
    go_wp2
    refine bodyPost_ret (results_arr_tmp Tryz.results84 _ _ (w.heap.size + 1 + 1) _ _ rfl HR.out) rfl ?_
    exact ⟨_, rfl, arr_zero _ _ _, below_setCell (below_setCell HB2.out (by omega) _ _) (by omega) _ _⟩
end Go.Proofs.YtnkacfgbkfkhdaaGreat
namespace Go.Proofs.YtnkacfgbkfkhdaaGreat
open Go.RowKit
set_option linter.unusedVariables false
set_option linter.unusedSimpArgs false
theorem sizeBelowE {w w' : World} (h : Below w.heap.size w w') : w.heap.size ≤ w'.heap.size := h.size
set_option maxRecDepth 20000 in
set_option maxHeartbeats 4000000 in
theorem copy_spec {s d : List Int} {w : World} {v : Value} (h : ArrI w v s d) (hs : s.length ≤ 1048576) (hd : d.length ≤ 1048576) :
    Calls Tryz.prog 83 #[v] w fun e w' => ∃ v', e = .returned v' ∧ Arr w.heap.size w'.heap.size w' v' s d ∧ Below w.heap.size w w' := by
  obtain ⟨a, c, b, e, rfl, h1, h2, g1, g2⟩ := h
  have H1 : Hid (Ints w a s) := h1
  have H2 : Hid (Ints w b d) := h2
  have HS : Hid (s.length ≤ 1048576) := hs
  have HD : Hid (d.length ≤ 1048576) := hd
  clear h1 h2 g1 g2 hs hd
  go_enter Tryz.func83, Tryz.ntmps83
  go_wp2
  generalize hW : (w.alloc (.cells #[.slice a s.length c, .slice b d.length e] 26)).alloc (.cells #[.slice none 0 0, .slice none 0 0] 26) = W
  have HBW : Hid (Below w.heap.size w W) := by rw [← hW]; exact bAlloc (bAlloc (Below.refl _ _) _) _
  have X : Hid (Box W w.heap.size (.slice a s.length c) (.slice b d.length e) 26) := by rw [← hW]; exact heap_alloc2_old w _ _
  have Y : Hid (Box W (w.heap.size + 1) (.slice none 0 0) (.slice none 0 0) 26) := by rw [← hW]; exact heap_alloc2_new w _ _
  have LW : Hid (w.heap.size + 1 < W.heap.size) := Y.out.lt
  clear hW
  have w0 := X.out.c0
  have w1 := X.out.c1
  have nw0 := World.new_ne W ⟨w.heap.size, 0, none⟩ w0
  have nw1 := World.new_ne W ⟨w.heap.size, 1, none⟩ w1
  go_region_held3 (fun w' => w'.cell? ⟨w.heap.size, 0, none⟩ = some (.slice a s.length c) ∧ w'.cell? ⟨w.heap.size, 1, none⟩ = some (.slice b d.length e))
    (first | exact ⟨y0, y1⟩ | exact ⟨x0, x1⟩ | exact ⟨w0, w1⟩ | go_keep)
    (first
      | (refine step_append_newI (by rfl) (.tmp 3) (.tmp 5) (by rfl) _ _ _ _ s (by rfl) (by rfl) (H1.out.keep (bTrans HBW.out (by repeat first | exact (Below.refl _ _).drew | exact BX.out | exact BY.out | exact Below.refl _ _ | refine bAlloc ?_ _ | refine Below.drew ?_))) HS.out ?_; intro ax cx wx hpx hbx; have BX : Hid (Below W.heap.size W wx) := bTrans (by repeat first | exact (Below.refl _ _).drew | exact BX.out | exact BY.out | exact Below.refl _ _ | refine bAlloc ?_ _ | refine Below.drew ?_) hbx; have PX : Hid (Piece W.heap.size wx.heap.size wx (.slice ax s.length cx) s) := hpx.mono (sizeBelowE (w := W) (by repeat first | exact (Below.refl _ _).drew | exact BX.out | exact BY.out | exact Below.refl _ _ | refine bAlloc ?_ _ | refine Below.drew ?_)) (Nat.le_refl _); (try have PY2 : Hid (Piece W.heap.size wx.heap.size wx (.slice ay d.length cy) d) := (PY.out.keep (bTrans (by repeat first | exact Below.refl _ _ | refine bAlloc ?_ _ | refine Below.drew ?_) hbx)).mono (Nat.le_refl _) (Nat.le_trans (sizeBelowE (w := wy) (by repeat first | exact Below.refl _ _ | refine bAlloc ?_ _ | refine Below.drew ?_)) hbx.size)); (try have AP : Hid (Apart (.slice ax s.length cx) (.slice ay d.length cy)) := (PY.out.apart hpx (.inl (sizeBelowE (w := wy) (by repeat first | exact Below.refl _ _ | refine bAlloc ?_ _ | refine Below.drew ?_)))).symm); have x0 := (X.out.keep BX.out).c0; have x1 := (X.out.keep BX.out).c1; have nx0 := World.new_ne wx ⟨w.heap.size, 0, none⟩ x0; have nx1 := World.new_ne wx ⟨w.heap.size, 1, none⟩ x1; have qx0 := (Y.out.keep BX.out).c0; have qx1 := (Y.out.keep BX.out).c1; have fx0 : wx.frozen? ⟨w.heap.size + 1, 0, none⟩ = false := free_at (Y.out.keep BX.out) 0; have fx1 : wx.frozen? ⟨w.heap.size + 1, 1, none⟩ = false := free_at (Y.out.keep BX.out) 1; clear hpx hbx)
      | (refine step_append_newI (by rfl) (.tmp 7) (.tmp 9) (by rfl) _ _ _ _ d (by rfl) (by rfl) (H2.out.keep (bTrans HBW.out (by repeat first | exact (Below.refl _ _).drew | exact BX.out | exact BY.out | exact Below.refl _ _ | refine bAlloc ?_ _ | refine Below.drew ?_))) HD.out ?_; intro ay cy wy hpy hby; have BY : Hid (Below W.heap.size W wy) := bTrans (by repeat first | exact (Below.refl _ _).drew | exact BX.out | exact BY.out | exact Below.refl _ _ | refine bAlloc ?_ _ | refine Below.drew ?_) hby; have PY : Hid (Piece W.heap.size wy.heap.size wy (.slice ay d.length cy) d) := hpy.mono (sizeBelowE (w := W) (by repeat first | exact (Below.refl _ _).drew | exact BX.out | exact BY.out | exact Below.refl _ _ | refine bAlloc ?_ _ | refine Below.drew ?_)) (Nat.le_refl _); (try have PX2 : Hid (Piece W.heap.size wy.heap.size wy (.slice ax s.length cx) s) := (PX.out.keep (bTrans (by repeat first | exact Below.refl _ _ | refine bAlloc ?_ _ | refine Below.drew ?_) hby)).mono (Nat.le_refl _) (Nat.le_trans (sizeBelowE (w := wx) (by repeat first | exact Below.refl _ _ | refine bAlloc ?_ _ | refine Below.drew ?_)) hby.size)); (try have AP : Hid (Apart (.slice ax s.length cx) (.slice ay d.length cy)) := PX.out.apart hpy (.inl (sizeBelowE (w := wx) (by repeat first | exact Below.refl _ _ | refine bAlloc ?_ _ | refine Below.drew ?_)))); have y0 := (X.out.keep BY.out).c0; have y1 := (X.out.keep BY.out).c1; have ny0 := World.new_ne wy ⟨w.heap.size, 0, none⟩ y0; have ny1 := World.new_ne wy ⟨w.heap.size, 1, none⟩ y1; have qy0 := (Y.out.keep BY.out).c0; have qy1 := (Y.out.keep BY.out).c1; have fy0 : wy.frozen? ⟨w.heap.size + 1, 0, none⟩ = false := free_at (Y.out.keep BY.out) 0; have fy1 : wy.frozen? ⟨w.heap.size + 1, 1, none⟩ = false := free_at (Y.out.keep BY.out) 1; clear hpy hby))
  all_goals
    have HR : Hid (((wy.setCell ⟨w.heap.size + 1, 0, none⟩ (.slice ax s.length cx)).setCell ⟨w.heap.size + 1, 1, none⟩ (.slice ay d.length cy)).heap[w.heap.size + 1]? = some (.cells #[.slice ax s.length cx, .slice ay d.length cy] 26 (0, 0))) := arr_stored (Y.out.keep BY.out)
    go_wp2
    refine bodyPost_ret (v := .agg #[.slice ax s.length cx, .slice ay d.length cy]) (results_arr rfl _ _ (w.heap.size + 1) _ _ rfl HR.out) rfl ?_
    refine ⟨_, rfl, ?_, below_setCell (below_setCell (bTrans HBW.out BY.out) (by omega) _ _) (by omega) _ _⟩
    have S3 := LW.out
    have A : Arr W.heap.size wy.heap.size wy (.agg #[.slice ax s.length cx, .slice ay d.length cy]) s d := ⟨_, _, rfl, PX2.out, PY.out, AP.out⟩
    exact ((A.setCell S3 _ _).setCell S3 _ _).mono (by omega) (by simp [size_setCell])
end Go.Proofs.YtnkacfgbkfkhdaaGreat
