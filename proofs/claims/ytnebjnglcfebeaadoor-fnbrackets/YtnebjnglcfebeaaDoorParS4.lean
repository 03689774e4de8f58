/-
  Walks: the specification's l9Operand.
-/
import Derived.Test.YtnebjnglcfebeaaDoorParS3
namespace Go.Proofs.YtnebjnglcfebeaaDoor
open Go.RowKit
set_option linter.unusedVariables false
set_option linter.unusedSimpArgs false
/-- The tokens lie below block g. -/
def TokB (w : World) (a : Option Addr) (n : Nat) (T : Nat → Spn) (g : Nat) : Prop := n = 0 ∨ ∃ o off, a = some ⟨o, off, none⟩ ∧ o < g ∧ o < w.heap.size ∧ ∀ i, i < n →
    w.cell? ⟨o, off + i * 2, none⟩ = some (.int .i64 (T i).f) ∧ w.cell? ⟨o, off + i * 2 + 1, none⟩ = some (.int .i64 (T i).t)
theorem TokB.ssA {w : World} {a : Option Addr} {n g : Nat} {T : Nat → Spn} (h : TokB w a n T g) : SsA w a n T := by
  rcases h with h | ⟨o, off, e, _, ho, h⟩
  · exact .inl h
  · exact .inr ⟨o, off, e, ho, h⟩
theorem TokB.below {w w' : World} {a : Option Addr} {n g : Nat} {T : Nat → Spn} (h : TokB w a n T g) (hb : Below g w w') : TokB w' a n T g := by
  rcases h with h | ⟨o, off, e, hg, ho, h⟩
  · exact .inl h
  · exact .inr ⟨o, off, e, hg, Nat.lt_of_lt_of_le ho hb.size, fun i hi => ⟨(hb.cell (p := ⟨o, off + i * 2, none⟩) hg).trans (h i hi).1, (hb.cell (p := ⟨o, off + i * 2 + 1, none⟩) hg).trans (h i hi).2⟩⟩
theorem TokB.mono {w : World} {a : Option Addr} {n g g' : Nat} {T : Nat → Spn} (h : TokB w a n T g) (hg : g ≤ g') : TokB w a n T g' := by
  rcases h with h | ⟨o, off, e, h1, ho, h⟩
  · exact .inl h
  · exact .inr ⟨o, off, e, by omega, ho, h⟩
theorem TokB.at {w : World} {a : Option Addr} {n g i : Nat} {T : Nat → Spn} (h : TokB w a n T g) (hi : i < n) : ∃ o off, a = some ⟨o, off, none⟩ ∧ o < g ∧ w.cell? ⟨o, off + i * 2, none⟩ = some (.int .i64 (T i).f) ∧ w.cell? ⟨o, off + i * 2 + 1, none⟩ = some (.int .i64 (T i).t) := by
  rcases h with h | ⟨o, off, e, h1, ho, h⟩
  · omega
  · exact ⟨o, off, e, h1, h i hi⟩
/-- What a reading leaves. -/
def LinePost (lv : Value) (w : World) (g : Nat) (v : Value) (L : List Nb) (x : Option (Br × Nat)) (e : Ending) (w' : World) : Prop :=
  match x with
  | none => e = .returned (.bool false) ∧ Below g w w'
  | some y => e = .returned (.bool true) ∧ ∃ v' M, St lv w g v w' y.2 v' (L ++ M) ∧ M.map (fun z => z.1) = y.1.flat L.length
/-- What a line's reading is taken to be. -/
def LineIH (n : Nat) (T : Nat → Spn) (a : Option Addr) (c k : Nat) : Prop :=
  ∀ (W : World) (g p : Nat) (v : Value) (L : List Nb), Cur W g (.slice a n c) p v → NL g W v L → TokB W a n T g → p ≤ n → n + 1 ≤ p + k → L.length + (n - p) ≤ 1048000 →
    Calls Tryd.prog 18 #[.pointer (some ⟨g, 0, none⟩)] W fun e w' => LinePost (.slice a n c) W g v L (lineP n T k p) e w'
theorem St.vbelow {lv v : Value} {w w' : World} {g p : Nat} {v' : Value} {L L' : List Nb} (h : St lv w g v w' p v' L') (hg : g < w.heap.size) (hn : NL g w v L) : Below g w w' := h.below hg (fun k hk => (hn.row.own k hk).1)
theorem St.trans {lv v0 v v' : Value} {w0 w w' : World} {g p q : Nat} {L L' : List Nb} (h : St lv w0 g v0 w p v L) (k : St lv w g v w' q v' L') : St lv w0 g v0 w' q v' L' :=
  ⟨k.cur, k.nl, h.chg.trans k.chg h.own, fun j hj => by
    rcases k.own j hj with e | e
    · exact h.own j e
    · exact .inr (Nat.le_trans h.chg.size e)⟩
def curAt (w : World) (g : Nat) : Nat := (intOf ((w.cell? ⟨g, 1, none⟩).getD undef)).toNat
theorem St.curAt {lv v0 v : Value} {w0 w : World} {g p : Nat} {L : List Nb} (h : St lv w0 g v0 w p v L) : curAt w g = p := by
  unfold Proofs.YtnebjnglcfebeaaDoor.curAt
  rw [h.c1]
  simp [intOf]
set_option maxRecDepth 20000 in
set_option maxHeartbeats 8000000 in
/-- l9Operand. -/
theorem operand_spec {n c k : Nat} {T : Nat → Spn} {a : Option Addr} (IH : LineIH n T a c k) (ha : tokAll T n = true) (hn : n ≤ 300) {w : World} {g p : Nat} {v : Value} {L : List Nb} (h : Cur w g (.slice a n c) p v) (hl : NL g w v L) (ht : TokB w a n T g) (hp : p ≤ n) (hk : n ≤ p + k) (hL : L.length + (n - p) ≤ 1048000) :
    Calls Tryd.prog 37 #[.pointer (some ⟨g, 0, none⟩)] w fun e w' => LinePost (.slice a n c) w g v L (operP n T (fun q => lineP n T k q) p) e w' := by
  have H : Hid (St (.slice a n c) w g v w p v L) := St.start h hl
  have HG : Hid (g < w.heap.size) := H.out.lt
  have HT : Hid (TokB w a n T g) := ht
  have HN : Hid (NL g w v L) := hl
  have HI : Hid (LineIH n T a c k) := IH
  have HA : Hid (tokAll T n = true) := ha
  have KD : Hid (∀ W, Below w.heap.size w W → Calls Tryd.prog 34 #[.pointer (some ⟨g, 0, none⟩), .int .i64 0] W fun e w' => e = .returned (.int .i64 (tkK n T p)) ∧ Below W.heap.size W w') := fun W hb => kind_spec (H.out.keep hb).cur (ht.ssA.keep hb) 0 (by omega) (by omega) (by decide)
  have w1p : IntKind.i64.wrap ((p : Int) + 1) = ((p + 1 : Nat) : Int) := by rw [IntKind.wrap_i64]; omega
  clear h hl ht IH ha
  by_cases e1 : tkK n T p = 1
  · have EX : Hid (operP n T (fun q => lineP n T k q) p = some (.num (numsP n T p (runN n T (n - p) p)), p + runN n T (n - p) p)) := by show _ = _; unfold operP; rw [if_pos e1]
    have EX1 := EX
    obtain ⟨va, vc, ev⟩ := HN.out.row.slice
    subst ev
    have KJ : Hid (∀ W q v0' L', St (.slice a n c) w g (.slice va L.length vc) W q v0' L' → q ≤ n → Calls Tryd.prog 34 #[.pointer (some ⟨g, 0, none⟩), .int .i64 0] W fun e w' => e = .returned (.int .i64 (tkK n T q)) ∧ Below W.heap.size W w') := fun W q v0' L' hS hq => kind_spec hS.cur (HT.out.below (hS.vbelow HG.out HN.out)).ssA 0 (by omega) (by omega) (by decide)
    rw [EX.out]
    rw [e1] at KD
    clear EX w1p
    have RF := runN_facts (n := n) (T := T) (n - p) p (by omega)
    have RL := runN_le (n := n) (T := T) p hp
    obtain ⟨m0, hm0⟩ : ∃ m0, m0 = runN n T (n - p) p := ⟨_, rfl⟩
    rw [← hm0] at RF RL ⊢
    have RK : Hid (∀ j, j < m0 → tkK n T (p + j) = 1) := RF.1
    have RE : Hid (tkK n T (p + m0) ≠ 1) := RF.2
    have M0 : 0 < m0 := by
      rcases Nat.eq_zero_or_pos m0 with e | e
      · exact absurd (by rw [e]; exact e1) RF.2
      · exact e
    clear RF hm0 e1 EX1
    go_enter Tryd.func37, Tryd.ntmps37
    go_wp2_with fail
    refine (KD.out _ (Below.refl _ _)).mono ?_
    rintro r w1 ⟨rfl, hb⟩
    have S1 : Hid (St (.slice a n c) w g (.slice va L.length vc) w1 p (.slice va L.length vc) L) := H.out.keep hb
    have Z1 : Hid (w.heap.size ≤ w1.heap.size) := hb.size
    clear hb KD
    go_wp2_with fail
    go_loopw [] (fun wr => ∃ (j c9 : Nat) (a9 : Option Addr), j ≤ m0 ∧ NumK (.slice a n c) w g (.slice va L.length vc) w1.heap.size wr (p + j) (.slice va L.length vc) L a9 j c9 (numsP n T p j)) (fun wr => n - curAt wr g)
    case atStart =>
      refine ⟨0, 0, none, by omega, ⟨S1.out.keep (bAlloc (Below.refl _ _) _), heap_alloc_new _ _, NewInts.nil _ _, rfl⟩⟩
    case round =>
      obtain ⟨j, c9, a9, hj, hK⟩ := hrel
      have HK : Hid (NumK (.slice a n c) w g (.slice va L.length vc) w1.heap.size wr (p + j) (.slice va L.length vc) L a9 j c9 (numsP n T p j)) := hK
      have CA : Hid (curAt wr g = p + j) := hK.st.curAt
      clear hK
      go_wp2_with fail
      refine (KJ.out _ _ _ _ HK.out.st (by omega)).mono ?_
      rintro r w2 ⟨rfl, hb⟩
      have K2 : Hid (NumK (.slice a n c) w g (.slice va L.length vc) w1.heap.size w2 (p + j) (.slice va L.length vc) L a9 j c9 (numsP n T p j)) := HK.out.keep hb
      clear hb HK
      by_cases hlt : j < m0
      · rw [RK.out j hlt]
        obtain ⟨o, off, rfl, hog, q1, q2⟩ := HT.out.at (show p + j < n by omega)
        rw [← tkN_at (n := n) (show p + j < n by omega)] at q2
        have NS : Hid (numsP n T p j ++ [tkN n T (p + j)] = numsP n T p (j + 1)) := by show _ = _; unfold numsP; rw [List.range_succ, List.map_append]; rfl
        generalize tkN n T (p + j) = z at *
        obtain ⟨q, hq⟩ : ∃ q, q = p + j := ⟨_, rfl⟩
        rw [← hq] at K2 CA q1 q2
        have HQ : Hid (q = p + j) := hq
        have q3 : q < n := by omega
        clear hq
        have BW : Hid (Below g w w2) := K2.out.st.vbelow HG.out HN.out
        have cz : w2.cell? ⟨o, off + q * 2 + 1, none⟩ = some (.int .i64 z) := (BW.out.cell (p := ⟨o, off + q * 2 + 1, none⟩) hog).trans q2
        have oz : ∀ O : Obj, (w2.alloc O).cell? ⟨o, off + q * 2 + 1, none⟩ = some (.int .i64 z) := fun O => ((bAlloc (Below.refl w2.heap.size w2) O).cell (p := ⟨o, off + q * 2 + 1, none⟩) (show o < w2.heap.size by have := K2.out.st.lt; omega)).trans cz
        have i3 : (0 : Int) ≤ (q : Int) := by omega
        have i4 : (q : Int) < (n : Int) := by omega
        have wq : IntKind.i64.wrap ((q : Int) + 1) = ((q + 1 : Nat) : Int) := by rw [IntKind.wrap_i64]; omega
        have c0 := K2.out.st.c0
        have c1 := K2.out.st.c1
        have b6 := cell_at (k := 6) K2.out.box rfl
        have o0 : ∀ O : Obj, (w2.alloc O).cell? ⟨g, 0, none⟩ = _ := fun O => (K2.out.keep (bAlloc (Below.refl _ _) O)).st.c0
        have o1 : ∀ O : Obj, (w2.alloc O).cell? ⟨g, 1, none⟩ = _ := fun O => (K2.out.keep (bAlloc (Below.refl _ _) O)).st.c1
        have o6 : ∀ O : Obj, (w2.alloc O).cell? ⟨w1.heap.size, 6, none⟩ = _ := fun O => cell_at (k := 6) (K2.out.keep (bAlloc (Below.refl _ _) O)).box rfl
        obtain ⟨a8, c8, w9, hr, ⟨u9, hu9⟩, hf9, hK9⟩ := K2.out.grow (V := (w2.alloc (.cells #[.int .i64 z] 3)).drew) (o := w2.heap.size) ((bAlloc (Below.refl _ _) _).drew) z (heap_alloc_new w2 _) Z1.out HG.out (fun j hj => (HN.out.row.own j hj).2) rfl (fun y hy hl => piece_lt (HN.out.nums y hy).1 hl) (by omega)
        have R9 : Hid (∀ ty, (Builtin.append_ #[65, 65] ty #[.slice a9 j c9, .slice (some ⟨w2.heap.size, 0, none⟩) 1 1]).run Tryd.prog (w2.alloc (.cells #[.int .i64 z] 3)).drew = .ok (.slice a8 (j + 1) c8) w9) := hr
        have K9 : Hid (NumK (.slice (some ⟨o, off, none⟩) n c) w g (.slice va L.length vc) w1.heap.size (w9.setCell ⟨w1.heap.size, 6, none⟩ (.slice a8 (j + 1) c8)) q (.slice va L.length vc) L a8 (j + 1) c8 (numsP n T p (j + 1))) := by rw [← NS.out]; exact hK9
        clear hr hK9 K2 NS BW q1 q2 S1
        go_wp2_with fail
        go_region_law (refine step_append_ty (by rfl) (.tmp 13) (.tmp 25) 65 65 (by rfl) _ _ _ (by rfl) (by rfl) (R9.out _) ?_)
        all_goals
          obtain ⟨W9, hW9⟩ : ∃ W9, W9 = w9.setCell ⟨w1.heap.size, 6, none⟩ (.slice a8 (j + 1) c8) := ⟨_, rfl⟩
          rw [← hW9] at K9 ⊢
          clear hW9 hu9 hf9 R9 c0 c1 b6 cz o0 o1 o6 oz
          have d1 := K9.out.st.c1
          have df := K9.out.st.free 1
          have KM := K9.out.move (by have := HG.out; have := Z1.out; omega) (q + 1)
          have KM : Hid _ := KM
          clear K9
          go_wp2
          go_roundw
          case rel => exact ⟨j + 1, c8, a8, by omega, by have e2 := HQ.out; rw [show p + (j + 1) = q + 1 by omega]; exact KM.out⟩
          case measure =>
            rw [CA.out, (show curAt (W9.setCell ⟨g, 1, none⟩ (.int .i64 ((q : Int) + 1))) g = q + 1 from KM.out.st.curAt)]
            omega
      · obtain rfl : j = m0 := by omega
        have ne1 : (tkK n T (p + j) == 1) = false := by simpa using RE.out
        generalize tkK n T (p + j) = z at *
        obtain ⟨b9, hp9, hb9⟩ := K2.out.row.one
        obtain ⟨NL9, hNL⟩ : ∃ l, l = numsP n T p j := ⟨_, rfl⟩
        have LL : NL9.length = j := by rw [hNL]; exact K2.out.len
        rw [← hNL] at hp9 hb9 K2
        have HNL : Hid (NL9 = numsP n T p j) := hNL
        have z0 := K2.out.box
        have y0 := cell_at (k := 0) z0 rfl
        have y1 := cell_at (k := 1) z0 rfl
        have y2 := cell_at (k := 2) z0 rfl
        have y3 := cell_at (k := 3) z0 rfl
        have y4 := cell_at (k := 4) z0 rfl
        have y5 := cell_at (k := 5) z0 rfl
        have y6 := cell_at (k := 6) z0 rfl
        have t2 := K2.out.st.c2
        have t3 : ∀ O : Obj, (w2.alloc O).cell? ⟨g, 2, none⟩ = _ := fun O => (K2.out.keep (bAlloc (Below.refl _ _) O)).st.c2
        obtain ⟨a7, c7, w9, hr, ⟨u9, hu9⟩, hf9, hS9⟩ := K2.out.st.app (V := (w2.alloc (.cells #[.int .i64 1, .int .i64 0, .int .i64 0, .int .i64 0, .int .i64 0, .int .i64 0, .slice a9 j c9] 67)).drew) (o := w2.heap.size) ((bAlloc (Below.refl _ _) _).drew) (⟨1, 0, 0, 0, 0, 0, NL9⟩, .slice a9 j c9, b9) (heap_alloc_new w2 _) hp9 (fun hl => ⟨show g < b9 by have := hb9 hl; have := HG.out; have := Z1.out; omega, fun e => by have e8 : b9 < w.heap.size := (HN.out.row.own _ e).2; have := hb9 hl; have := Z1.out; omega⟩) (by omega)
        have R9 : Hid (∀ ty, (Builtin.append_ #[24, 24] ty #[.slice va L.length vc, .slice (some ⟨w2.heap.size, 0, none⟩) 1 1]).run Tryd.prog (w2.alloc (.cells #[.int .i64 1, .int .i64 0, .int .i64 0, .int .i64 0, .int .i64 0, .int .i64 0, .slice a9 j c9] 67)).drew = .ok (.slice a7 (L.length + 1) c7) w9) := hr
        have S9 : Hid (St (.slice a n c) w g (.slice va L.length vc) (w9.setCell ⟨g, 2, none⟩ (.slice a7 (L.length + 1) c7)) (p + j) (.slice a7 (L.length + 1) c7) (L ++ [(⟨1, 0, 0, 0, 0, 0, NL9⟩, .slice a9 j c9, b9)])) := hS9
        clear hr hS9 K2 S1 z0 hp9 hb9 hNL
        go_wp2_with fail
        go_region_law (refine step_append_ty (by rfl) (.tmp 40) (.tmp 42) 24 24 (by rfl) _ _ _ (by rfl) (by rfl) (R9.out _) ?_)
        all_goals
          obtain ⟨W9, hW9⟩ : ∃ W9, W9 = w9.setCell ⟨g, 2, none⟩ (.slice a7 (L.length + 1) c7) := ⟨_, rfl⟩
          rw [← hW9] at S9 ⊢
          clear hW9 hu9 hf9 R9 t2 t3 y0 y1 y2 y3 y4 y5 y6
          go_wp2
          go_ret
          exact ⟨rfl, _, _, S9.out, by rw [← HNL.out]; rfl⟩
  · by_cases e2 : tkK n T p = 2
    · have EX : Hid (operP n T (fun q => lineP n T k q) p = some (.name (tkN n T p), p + 1)) := by show _ = _; unfold operP; rw [if_neg e1, if_pos e2]
      have hlt := tkK_in (n := n) (T := T) (p := p) (by omega)
      have TV := tkN_at (n := n) (T := T) hlt
      rw [EX.out]
      rw [e2] at KD
      clear e1 EX
      obtain ⟨o, off, rfl, hog, q1, q2⟩ := HT.out.at hlt
      rw [← TV] at q2
      generalize tkN n T p = z at *
      have CT : Hid (∀ W, Below w.heap.size w W → W.cell? ⟨o, off + p * 2 + 1, none⟩ = some (.int .i64 z)) := fun W hb => (hb.cell (p := ⟨o, off + p * 2 + 1, none⟩) (show o < w.heap.size by have := HG.out; omega)).trans q2
      have i3 : (0 : Int) ≤ (p : Int) := by omega
      have i4 : (p : Int) < (n : Int) := by omega
      clear q1 q2 e2 TV
      obtain ⟨va, vc, ev⟩ := HN.out.row.slice
      subst ev
      go_enter Tryd.func37, Tryd.ntmps37
      go_wp2_with fail
      refine (KD.out _ (Below.refl _ _)).mono ?_
      rintro r w1 ⟨rfl, hb⟩
      have B1 : Hid (Below w.heap.size w w1) := hb
      have S1 : Hid (St (.slice (some ⟨o, off, none⟩) n c) w g (.slice va L.length vc) w1 p (.slice va L.length vc) L) := H.out.keep hb
      clear hb KD
      have c0 := S1.out.c0
      have c1 := S1.out.c1
      have c2 := S1.out.c2
      have cz := CT.out _ B1.out
      have o0 : ∀ O : Obj, (w1.alloc O).cell? ⟨g, 0, none⟩ = _ := fun O => (S1.out.keep (bAlloc (Below.refl _ _) O)).c0
      have o1 : ∀ O : Obj, (w1.alloc O).cell? ⟨g, 1, none⟩ = _ := fun O => (S1.out.keep (bAlloc (Below.refl _ _) O)).c1
      have o2 : ∀ O : Obj, (w1.alloc O).cell? ⟨g, 2, none⟩ = _ := fun O => (S1.out.keep (bAlloc (Below.refl _ _) O)).c2
      have oz : ∀ O : Obj, (w1.alloc O).cell? ⟨o, off + p * 2 + 1, none⟩ = _ := fun O => CT.out _ (bTrans B1.out (bAlloc (Below.refl _ _) O))
      obtain ⟨a9, c9, w9, hr, ⟨u9, hu9⟩, hf9, hS9⟩ := S1.out.app (V := (w1.alloc (.cells #[.int .i64 2, .int .i64 z, .int .i64 0, .int .i64 0, .int .i64 0, .int .i64 0, .slice none 0 0] 67)).drew) (o := w1.heap.size) ((bAlloc (Below.refl _ _) _).drew) (⟨2, z, 0, 0, 0, 0, []⟩, .slice none 0 0, 0) (heap_alloc_new w1 _) (Piece.nil _ _ _) (fun e => absurd rfl e) (by omega)
      have R9 : Hid (∀ ty, (Builtin.append_ #[24, 24] ty #[.slice va L.length vc, .slice (some ⟨w1.heap.size, 0, none⟩) 1 1]).run Tryd.prog (w1.alloc (.cells #[.int .i64 2, .int .i64 z, .int .i64 0, .int .i64 0, .int .i64 0, .int .i64 0, .slice none 0 0] 67)).drew = .ok (.slice a9 (L.length + 1) c9) w9) := hr
      have S9 : Hid (St (.slice (some ⟨o, off, none⟩) n c) w g (.slice va L.length vc) (w9.setCell ⟨g, 2, none⟩ (.slice a9 (L.length + 1) c9)) p (.slice a9 (L.length + 1) c9) (L ++ [(⟨2, z, 0, 0, 0, 0, []⟩, .slice none 0 0, 0)])) := hS9
      clear hr hS9 S1 B1 H
      go_wp2_with fail
      go_region_law (refine step_append_ty (by rfl) (.tmp 52) (.tmp 65) 24 24 (by rfl) _ _ _ (by rfl) (by rfl) (R9.out _) ?_)
      all_goals
        obtain ⟨W9, hW9⟩ : ∃ W9, W9 = w9.setCell ⟨g, 2, none⟩ (.slice a9 (L.length + 1) c9) := ⟨_, rfl⟩
        rw [← hW9] at S9 ⊢
        clear hW9 hu9 hf9 R9 c0 c1 c2 cz o0 o1 o2 oz
        have d1 := S9.out.c1
        have df := S9.out.free 1
        go_wp2
        go_ret
        exact ⟨rfl, _, _, S9.out.move (p + 1), rfl⟩
    · by_cases e4 : tkK n T p = 4
      · have hlt := tkK_in (n := n) (T := T) (p := p) (by omega)
        rw [e4] at KD
        have EX : Hid (operP n T (fun q => lineP n T k q) p = match lineP n T k (p + 1) with
            | none => none
            | some x => if tkK n T x.2 = 5 then some (x.1, x.2 + 1) else none) := by show _ = _; unfold operP; rw [if_neg e1, if_neg e2, if_pos e4]; rfl
        have CL : Hid (∀ W, St (.slice a n c) w g v W (p + 1) v L → Calls Tryd.prog 18 #[.pointer (some ⟨g, 0, none⟩)] W fun e w' => LinePost (.slice a n c) W g v L (lineP n T k (p + 1)) e w') := fun W hS => HI.out W g (p + 1) v L hS.cur hS.nl (HT.out.below (hS.vbelow HG.out HN.out)) (by omega) (by omega) (by omega)
        clear e1 e2 e4
        cases hx : lineP n T k (p + 1) with
        | none =>
          rw [hx] at EX CL
          rw [EX.out]
          clear EX hx
          go_enter Tryd.func37, Tryd.ntmps37
          go_wp2_with fail
          refine (KD.out _ (Below.refl _ _)).mono ?_
          rintro r w1 ⟨rfl, hb⟩
          have S1 : Hid (St (.slice a n c) w g v w1 p v L) := H.out.keep hb
          clear hb KD
          have d1 := S1.out.c1
          have df := S1.out.free 1
          go_wp2_with fail
          refine (CL.out _ (S1.out.move (p + 1))).mono ?_
          rintro r w2 ⟨rfl, hb⟩
          have B2 : Hid (Below g w w2) := ((S1.out.move (p + 1)).vbelow HG.out HN.out).trans hb
          clear hb d1 df S1 CL
          go_wp2
          go_ret
          exact ⟨rfl, B2.out⟩
        | some y =>
          obtain ⟨y1, q⟩ := y
          rw [hx] at EX CL
          simp only at EX
          have YF : Hid (p + 1 < q ∧ q ≤ n ∧ y1.size + (p + 1) ≤ q) := lineP_fine (n := n) (T := T) k (p + 1) _ hx
          have KQ : Hid (∀ W v' L', St (.slice a n c) w g v W q v' L' → Calls Tryd.prog 34 #[.pointer (some ⟨g, 0, none⟩), .int .i64 0] W fun e w' => e = .returned (.int .i64 (tkK n T q)) ∧ Below W.heap.size W w') := fun W v' L' hS => by have := YF.out; exact kind_spec hS.cur (HT.out.below (hS.vbelow HG.out HN.out)).ssA 0 (by omega) (by omega) (by decide)
          have wq : IntKind.i64.wrap ((q : Int) + 1) = ((q + 1 : Nat) : Int) := by have := YF.out; rw [IntKind.wrap_i64]; omega
          clear hx
          by_cases e5 : tkK n T q = 5
          · rw [EX.out, if_pos e5]
            rw [e5] at KQ
            clear EX e5
            go_enter Tryd.func37, Tryd.ntmps37
            go_wp2_with fail
            refine (KD.out _ (Below.refl _ _)).mono ?_
            rintro r w1 ⟨rfl, hb⟩
            have S1 : Hid (St (.slice a n c) w g v w1 p v L) := H.out.keep hb
            clear hb KD
            have d1 := S1.out.c1
            have df := S1.out.free 1
            go_wp2_with fail
            refine (CL.out _ (S1.out.move (p + 1))).mono ?_
            rintro r w2 ⟨rfl, v2, M, hS, hM⟩
            have S2 : Hid (St (.slice a n c) w g v w2 q v2 (L ++ M)) := (S1.out.move (p + 1)).trans hS
            have HM : Hid (M.map (fun z => z.1) = y1.flat L.length) := hM
            clear hS hM d1 df S1 CL
            go_wp2_with fail
            refine (KQ.out _ _ _ S2.out).mono ?_
            rintro r w3 ⟨rfl, hb⟩
            have S3 : Hid (St (.slice a n c) w g v w3 q v2 (L ++ M)) := S2.out.keep hb
            clear hb KQ S2
            have d1 := S3.out.c1
            have df := S3.out.free 1
            go_wp2
            go_ret
            exact ⟨rfl, _, _, S3.out.move (q + 1), HM.out⟩
          · have ne5 : (tkK n T q != 5) = true := by simpa using e5
            rw [EX.out, if_neg e5]
            generalize tkK n T q = z at *
            clear EX e5
            go_enter Tryd.func37, Tryd.ntmps37
            go_wp2_with fail
            refine (KD.out _ (Below.refl _ _)).mono ?_
            rintro r w1 ⟨rfl, hb⟩
            have S1 : Hid (St (.slice a n c) w g v w1 p v L) := H.out.keep hb
            clear hb KD
            have d1 := S1.out.c1
            have df := S1.out.free 1
            go_wp2_with fail
            refine (CL.out _ (S1.out.move (p + 1))).mono ?_
            rintro r w2 ⟨rfl, v2, M, hS, hM⟩
            have S2 : Hid (St (.slice a n c) w g v w2 q v2 (L ++ M)) := (S1.out.move (p + 1)).trans hS
            clear hS hM d1 df S1 CL
            go_wp2_with fail
            refine (KQ.out _ _ _ S2.out).mono ?_
            rintro r w3 ⟨rfl, hb⟩
            have S3 : Hid (St (.slice a n c) w g v w3 q v2 (L ++ M)) := S2.out.keep hb
            clear hb KQ S2
            go_wp2
            go_ret
            exact ⟨rfl, S3.out.vbelow HG.out HN.out⟩
      · have EX : Hid (operP n T (fun q => lineP n T k q) p = none) := by show _ = _; unfold operP; rw [if_neg e1, if_neg e2, if_neg e4]
        have n1 : (tkK n T p == 1) = false := by simpa using e1
        have n2 : (tkK n T p == 2) = false := by simpa using e2
        have n4 : (tkK n T p == 4) = false := by simpa using e4
        rw [EX.out]
        generalize tkK n T p = z at *
        clear EX
        go_enter Tryd.func37, Tryd.ntmps37
        go_wp2_with fail
        refine (KD.out _ (Below.refl _ _)).mono ?_
        rintro r w1 ⟨rfl, hb⟩
        have S1 : Hid (St (.slice a n c) w g v w1 p v L) := H.out.keep hb
        clear hb KD
        go_wp2
        go_ret
        exact ⟨rfl, S1.out.vbelow HG.out HN.out⟩
end Go.Proofs.YtnebjnglcfebeaaDoor
