/-
  Walks: the program's filled.
-/
import Derived.Test.YtbmkfmppcojcgaaImplEach1
namespace Go.Proofs.Ytbmkfmppcojcgaa
open Go.RowKit
set_option linter.unusedVariables false
set_option linter.unusedSimpArgs false
set_option maxRecDepth 20000 in
set_option maxHeartbeats 4000000 in
/-- filled. -/
theorem filled_impl {F : List (List Int)} {V : Nat → Int × Int} {w : World} {f n m ca B E sc : Nat} {aa sa : Option Addr} {p : Value} {S : List Int}
    (hE : ∀ (args : Array Value) (w : World), (callFunc f args).run Try.prog w = .ok (.enter f args) w) (hA : ArrsI w (.slice aa m ca) F) (hm : m ≤ 2) (hn : n ≤ 300) (hL : ∀ j, (F.getD j []).length ≤ 1048576)
    (hN : ∀ i, i < m → (F.getD (2 * i) [] = [] → 0 < (F.getD (2 * i + 1) []).length) ∧ (F.getD (2 * i) [] ≠ [] → n ≤ (F.getD (2 * i + 1) []).length))
    (hV : ∀ (W : World) (A k : Nat), k < n → Below w.heap.size w W → Ints W (some ⟨A, 0, none⟩) (numsAt F m k) → Calls Try.prog f #[.slice (some ⟨A, 0, none⟩) m m, p] W fun r W' => r = .returned (.tuple #[.int .i64 (V k).1, .int .i64 (V k).2]) ∧ Below W.heap.size W W')
    (hS : Piece B E w (.slice sa S.length sc) S) (hBE : B ≤ E) (hEw : E ≤ w.heap.size) (hz : sizeV S = (n : Int)) :
    Calls Try.prog 84 #[.slice sa S.length sc, .func (.func f) #[] #[p], .slice aa m ca] w fun r w' => ∃ v', r = .returned (.tuple #[v', .int .i64 (placesC V n)]) ∧ Arr B w'.heap.size w' v' (if placesC V n = 0 then S else []) (placesD V n) ∧ Below w.heap.size w w' := by
  have HI : Hid (Ints w sa S) := by
    obtain ⟨a', c', e', i'⟩ := hS.ints
    cases e'
    exact i'
  have HS : Hid (Piece B E w (.slice sa S.length sc) S) := hS
  have HSZ : Hid (∀ W, Ints W sa S → Calls Try.prog 26 #[.slice sa S.length sc] W fun e w' => e = .returned (.int .i64 (n : Int)) ∧ Below W.heap.size W w') := fun W h => by
    have := size_impl sc h
    rw [hz] at this
    exact this
  have HEP : Hid (∀ W, Below w.heap.size w W → Calls Try.prog 111 #[.int .i64 (n : Int), .func (.func f) #[] #[p], .slice aa m ca] W fun r w' => ∃ a' c', r = .returned (.tuple #[.slice a' (placesD V n).length c', .int .i64 (placesC V n)]) ∧ Piece W.heap.size w'.heap.size w' (.slice a' (placesD V n).length c') (placesD V n) ∧ Below W.heap.size W w') :=
    fun W h => eachPlace_impl hE (hA.keep h) hm hn hL hN (fun W' A k hk hb hi => hV W' A k hk (bTrans h hb) hi)
  have HBE : Hid (B ≤ E ∧ E ≤ w.heap.size) := ⟨hBE, hEw⟩
  have HD0 : Hid (placesC V n ≠ 0 → placesD V n = []) := fun h => by unfold placesD; rw [if_neg h]
  obtain ⟨S', hS'⟩ : ∃ S', S' = (if placesC V n = 0 then S else []) := ⟨_, rfl⟩
  have HS1 : Hid (placesC V n = 0 → S' = S) := fun h => by rw [hS', if_pos h]
  have HS2 : Hid (placesC V n ≠ 0 → S' = []) := fun h => by rw [hS', if_neg h]
  rw [← hS']
  clear hS'
  generalize placesC V n = C at *
  generalize placesD V n = D at *
  clear hE hA hm hn hL hN hV hS hBE hEw hz
  go_enter Try.func84, Try.ntmps84
  go_wp2_with fail
  refine (HSZ.out _ (HI.out.keep (bAlloc (Below.refl _ _) _))).mono ?_
  rintro r w1 ⟨rfl, hb⟩
  have HB1 : Hid (Below w.heap.size w w1) := bTrans (bAlloc (Below.refl _ _) _) hb
  have Y1 : Hid (Box w1 w.heap.size (.slice none 0 0) (.slice none 0 0) 26) := (box_new w _ _ _).keep hb
  clear hb
  go_wp2_with fail
  refine (HEP.out _ HB1.out).mono ?_
  rintro r w2 ⟨a2, c2, rfl, hp, hb⟩
  have HP2 : Hid (Piece w1.heap.size w2.heap.size w2 (.slice a2 D.length c2) D) := hp
  have HB2 : Hid (Below w.heap.size w w2) := bTrans HB1.out hb
  have Y2 : Hid (Box w2 w.heap.size (.slice none 0 0) (.slice none 0 0) 26) := Y1.out.keep hb
  have LT : Hid (w.heap.size < w1.heap.size) := Y1.out.lt
  have LT2 : Hid (w1.heap.size ≤ w2.heap.size) := hb.size
  clear hp hb Y1
  have y0 := Y2.out.c0
  have y1 := Y2.out.c1
  have f0 : w2.frozen? ⟨w.heap.size, 0, none⟩ = false := free_at Y2.out 0
  have f1 : w2.frozen? ⟨w.heap.size, 1, none⟩ = false := free_at Y2.out 1
  by_cases h0 : C = 0
  · have EC : Hid (S' = S) := HS1.out h0
    subst h0
    clear HS1 HS2 HD0
    have HR : Hid (((w2.setCell ⟨w.heap.size, 0, none⟩ (.slice sa S.length sc)).setCell ⟨w.heap.size, 1, none⟩ (.slice a2 D.length c2)).heap[w.heap.size]? = some (.cells #[.slice sa S.length sc, .slice a2 D.length c2] 26 (0, 0))) := arr_stored Y2.out
    go_wp2
    refine bodyPost_ret (results_arr_tmp Try.results84 _ _ w.heap.size _ _ rfl HR.out) rfl ?_
    refine ⟨_, rfl, ?_, below_setCell (below_setCell HB2.out (Nat.le_refl _) _ _) (Nat.le_refl _) _ _⟩
    rw [EC.out]
    have L1 := LT.out
    have L2 := LT2.out
    have L3 := HBE.out
    have p1 : Piece B E w2 (.slice sa S.length sc) S := HS.out.belowC HB2.out L3.2
    have p1' := (p1.win (win_setCell w2 w.heap.size 0 (.slice sa S.length sc)) (.inl L3.2)).win (win_setCell _ w.heap.size 1 (.slice a2 D.length c2)) (.inl L3.2)
    have p2' := (HP2.out.win (win_setCell w2 w.heap.size 0 (.slice sa S.length sc)) (.inr (by omega))).win (win_setCell _ w.heap.size 1 (.slice a2 D.length c2)) (.inr (by omega))
    exact ⟨_, _, rfl, p1'.mono (Nat.le_refl _) (by simp only [size_setCell]; omega), p2'.mono (by omega) (by simp only [size_setCell]; omega), p1'.apart p2' (.inl (by omega))⟩
  · have hne : (C != 0) = true := by simpa using h0
    have ED : Hid (D = []) := HD0.out h0
    have EC : Hid (S' = []) := HS2.out h0
    clear h0
    have HR : Hid (((w2.setCell ⟨w.heap.size, 0, none⟩ (.slice none 0 0)).setCell ⟨w.heap.size, 1, none⟩ (.slice none 0 0)).heap[w.heap.size]? = some (.cells #[.slice none 0 0, .slice none 0 0] 26 (0, 0))) := arr_stored Y2.out
    go_wp2
    refine bodyPost_ret (results_arr_tmp Try.results84 _ _ w.heap.size _ _ rfl HR.out) rfl ?_
    refine ⟨_, rfl, ?_, below_setCell (below_setCell HB2.out (Nat.le_refl _) _ _) (Nat.le_refl _) _ _⟩
    rw [EC.out, ED.out]
    exact arr_zero _ _ _
/-- A list of one array, of two, in a block of its own. -/
theorem arrs_one {W : World} {o : Nat} {x y : Value} {t : TypeId} {s d : List Int} (hb : Box W o x y t) (h : ArrI W (.agg #[x, y]) s d) : ArrsI W (.slice (some ⟨o, 0, none⟩) 1 1) [s, d] := by
  obtain ⟨a, c, b, e, e', i1, i2, g1, g2⟩ := h
  obtain ⟨rfl, rfl⟩ : x = .slice a s.length c ∧ y = .slice b d.length e := by cases e'; exact ⟨rfl, rfl⟩
  refine ⟨_, 1, 1, rfl, rfl, .inr ⟨o, 0, [.slice a s.length c, .slice b d.length e], rfl, hb.lt, rfl, fun j hj => ?_⟩⟩
  match j, hj with
  | 0, _ => exact ⟨hb.c0, a, c, rfl, g1, i1⟩
  | 1, _ => exact ⟨hb.c1, b, e, rfl, g2, i2⟩
theorem arrs_two {W : World} {o : Nat} {x y x' y' : Value} {t : TypeId} {s d s' d' : List Int} (hb : W.heap[o]? = some (.cells #[x, y, x', y'] t (0, 0))) (h : ArrI W (.agg #[x, y]) s d) (k : ArrI W (.agg #[x', y']) s' d') : ArrsI W (.slice (some ⟨o, 0, none⟩) 2 2) [s, d, s', d'] := by
  obtain ⟨a, c, b, e, e', i1, i2, g1, g2⟩ := h
  obtain ⟨rfl, rfl⟩ : x = .slice a s.length c ∧ y = .slice b d.length e := by cases e'; exact ⟨rfl, rfl⟩
  obtain ⟨a', c', b', f', e', i3, i4, g3, g4⟩ := k
  obtain ⟨rfl, rfl⟩ : x' = .slice a' s'.length c' ∧ y' = .slice b' d'.length f' := by cases e'; exact ⟨rfl, rfl⟩
  refine ⟨_, 2, 2, rfl, rfl, .inr ⟨o, 0, [.slice a s.length c, .slice b d.length e, .slice a' s'.length c', .slice b' d'.length f'], rfl, lt_of_heapA hb, rfl, fun j hj => ?_⟩⟩
  match j, hj with
  | 0, _ => exact ⟨cell_at hb rfl, a, c, rfl, g1, i1⟩
  | 1, _ => exact ⟨cell_at hb rfl, b, e, rfl, g2, i2⟩
  | 2, _ => exact ⟨cell_at hb rfl, a', c', rfl, g3, i3⟩
  | 3, _ => exact ⟨cell_at hb rfl, b', f', rfl, g4, i4⟩
theorem numsAt_one (s d : List Int) (k : Nat) : numsAt [s, d] 1 k = [numOf s d k] := rfl
theorem numsAt_two (s d s' d' : List Int) (k : Nat) : numsAt [s, d, s', d'] 2 k = [numOf s d k, numOf s' d' k] := rfl
theorem numOf_at {s d : List Int} (ho : arrOk s d = true) {k : Nat} (hk : k < d.length) : numOf s d k = d.getD k 0 := by
  unfold numOf
  by_cases e : s = []
  · subst e
    have z := arrOk_size ho
    rw [sizeV_0'] at z
    rw [if_pos rfl]
    have : k = 0 := by omega
    rw [this]
  · rw [if_neg e]
end Go.Proofs.Ytbmkfmppcojcgaa
