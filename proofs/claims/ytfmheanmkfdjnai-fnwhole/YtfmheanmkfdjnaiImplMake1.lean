/-
  Walks: the program's helpers of Chapter 5: allOk, soleNumber, vectorCopy, withRows, ofRows.
-/
import Derived.Test.YtfmheanmkfdjnaiImplArr3
import Derived.Test.YtfmheanmkfdjnaiImplArr2
import Derived.Test.YtfmheanmkfdjnaiLaw3
import Derived.Test.YtfmheanmkfdjnaiRowsM
import Derived.Test.YtfmheanmkfdjnaiEachP
namespace Go.Proofs.Ytfmheanmkfdjnai
open Go.RowKit
set_option linter.unusedVariables false
set_option linter.unusedSimpArgs false
/-- Are all arrays of a list right? -/
def allOkV (F : List (List Int)) (m : Nat) : Bool := (List.range m).all fun i => arrOk (F.getD (2 * i) []) (F.getD (2 * i + 1) [])
theorem allOkV_succ (F : List (List Int)) (m : Nat) : allOkV F (m + 1) = (allOkV F m && arrOk (F.getD (2 * m) []) (F.getD (2 * m + 1) [])) := by
  unfold allOkV; rw [List.range_succ, List.all_append]; simp
theorem allOkV_no {F : List (List Int)} {m k : Nat} (hk : k < m) (h : arrOk (F.getD (2 * k) []) (F.getD (2 * k + 1) []) = false) : allOkV F m = false := by
  unfold allOkV
  rw [List.all_eq_false]
  exact ⟨k, by simpa using hk, by rw [h]; decide⟩
set_option maxRecDepth 20000 in
set_option maxHeartbeats 1000000 in
/-- allOk. -/
theorem allOk_impl {F : List (List Int)} {w : World} {m ca : Nat} {aa : Option Addr} (hA : ArrsI w (.slice aa m ca) F) (hm : m ≤ 2) (hL : ∀ j, (F.getD j []).length ≤ 1048576) :
    Calls Try.prog 31 #[.slice aa m ca] w fun r w' => r = .returned (.bool (allOkV F m)) ∧ Below w.heap.size w w' := by
  have HA : Hid (ArrsI w (.slice aa m ca) F) := hA
  have HL : Hid (∀ j, (F.getD j []).length ≤ 1048576) := hL
  clear hA hL
  go_enter Try.func31, Try.ntmps31
  go_wp2
  go_loopw [7] (fun i w' => ∃ k : Nat, k ≤ m ∧ i = .int .i64 (k : Int) ∧ allOkV F k = true ∧ Below w.heap.size w w') (fun i _ => m - (intOf i).toNat)
  case atStart => exact ⟨0, by omega, rfl, rfl, Below.refl _ _⟩
  case round =>
    obtain ⟨j, hk, rfl, ht, hb⟩ := hrel
    have HT : Hid (allOkV F j = true) := ht
    have HB : Hid (Below w.heap.size w wr) := hb
    clear ht hb
    by_cases hlt : (j : Int) < (m : Int)
    · obtain ⟨o, off, sx, sy, rfl, ho, p0, p1, i0, i1⟩ := (HA.out.keep HB.out).at (k := j) (by omega)
      obtain ⟨ax, cx, rfl, gix, ix⟩ := i0
      obtain ⟨ay, cy, rfl, giy, iy⟩ := i1
      have A1 : Hid (ArrI wr (.agg #[.slice ax (F.getD (2 * j) []).length cx, .slice ay (F.getD (2 * j + 1) []).length cy]) (F.getD (2 * j) []) (F.getD (2 * j + 1) [])) := ⟨_, _, _, _, rfl, ix, iy, gix, giy⟩
      have HC : Hid (∀ W, Below wr.heap.size wr W → Calls Try.prog 14 #[.agg #[.slice ax (F.getD (2 * j) []).length cx, .slice ay (F.getD (2 * j + 1) []).length cy]] W fun e w' => e = .returned (.bool (arrOk (F.getD (2 * j) []) (F.getD (2 * j + 1) []))) ∧ Below W.heap.size W w') := fun W h => arrOk_impl (A1.out.keep h) (HL.out _)
      have HY : Hid (arrOk (F.getD (2 * j) []) (F.getD (2 * j + 1) []) = true → allOkV F (j + 1) = true) := fun h => by rw [allOkV_succ, HT.out, h]; rfl
      have HN : Hid (arrOk (F.getD (2 * j) []) (F.getD (2 * j + 1) []) = false → allOkV F m = false) := fun h => allOkV_no (by omega) h
      clear ix iy gix giy A1
      generalize (F.getD (2 * j) []).length = ls at *
      generalize (F.getD (2 * j + 1) []).length = ld at *
      generalize arrOk (F.getD (2 * j) []) (F.getD (2 * j + 1) []) = q at *
      cases q
      · have HN' : Hid (allOkV F m = false) := HN.out rfl
        clear HN HY
        go_wp2_with fail
        refine (HC.out _ (bAlloc (Below.refl _ _) _)).mono ?_
        rintro r w2 ⟨rfl, hb⟩
        have HB2 : Hid (Below w.heap.size w w2) := bTrans HB.out (bTrans (bAlloc (Below.refl _ _) _) hb)
        clear hb
        go_wp2
        go_ret
        exact ⟨by rw [HN'.out]; rfl, HB2.out⟩
      · have HY' : Hid (allOkV F (j + 1) = true) := HY.out rfl
        clear HN HY
        go_wp2_with fail
        refine (HC.out _ (bAlloc (Below.refl _ _) _)).mono ?_
        rintro r w2 ⟨rfl, hb⟩
        have HB2 : Hid (Below w.heap.size w w2) := bTrans HB.out (bTrans (bAlloc (Below.refl _ _) _) hb)
        clear hb
        go_wp2
        go_roundw
        case rel => exact ⟨j + 1, by omega, by go_num, HY'.out, HB2.out⟩
        case measure => simp [intOf]; omega
    · obtain rfl : j = m := by omega
      go_wp2
      go_ret
      exact ⟨by rw [HT.out]; rfl, HB.out⟩
set_option maxRecDepth 20000 in
set_option maxHeartbeats 1000000 in
/-- vectorCopy. -/
theorem vecCopy_impl {l : List Int} {w : World} {v : Value} (h : IntsI w v l) (hl : l.length ≤ 1048576) :
    Calls Try.prog 99 #[v] w fun r w' => ∃ v', r = .returned v' ∧ Arr w.heap.size w'.heap.size w' v' [(l.length : Int)] l ∧ Below w.heap.size w w' := by
  obtain ⟨a, c, rfl, g, i⟩ := h
  have HI : Hid (IntsI w (.slice a l.length c) l) := ⟨a, c, rfl, g, i⟩
  have HC : Hid (∀ W, Below w.heap.size w W → Calls Try.prog 54 #[.slice a l.length c] W fun e w' => ∃ a' c', e = .returned (.slice a' l.length c') ∧ Piece W.heap.size w'.heap.size w' (.slice a' l.length c') l ∧ Below W.heap.size W w') := fun W h => copied_new (HI.out.keep h) hl
  clear g i
  go_enter Try.func99, Try.ntmps99
  go_wp2_with fail
  refine (HC.out _ (bAlloc (bAlloc (Below.refl _ _) _) _)).mono ?_
  rintro r w1 ⟨a2, c2, rfl, hp, hb⟩
  have HP : Hid (Piece (w.heap.size + 2) w1.heap.size w1 (.slice a2 l.length c2) l) := by show Piece _ _ _ _ _; simpa using hp
  have HB : Hid (Below w.heap.size w w1) := bTrans (bAlloc (bAlloc (Below.refl _ _) _) _) hb
  have Y : Hid (Box w1 w.heap.size (.slice none 0 0) (.slice none 0 0) 26) := ((box_new w _ _ _).keep (bAlloc (Below.refl _ _) _)).keep hb
  have PS : Hid (Piece (w.heap.size + 1) (w.heap.size + 2) w1 (.slice (some ⟨w.heap.size + 1, 0, none⟩) 1 1) [(l.length : Int)]) := by
    have p := OwnInts.piece (ownInts_new (w.alloc (.cells #[.slice none 0 0, .slice none 0 0] 26)) [(l.length : Int)]) (B := w.heap.size + 1) (C := w.heap.size + 2) (by simp) (by simp) 1
    have p' : Piece (w.heap.size + 1) (w.heap.size + 2) ((w.alloc (.cells #[.slice none 0 0, .slice none 0 0] 26)).alloc (.cells #[.int .i64 (l.length : Int)] 3)) (.slice (some ⟨w.heap.size + 1, 0, none⟩) 1 1) [(l.length : Int)] := by simpa [vals] using p
    exact p'.keep hb
  have LT : Hid (w.heap.size + 2 ≤ w1.heap.size) := by have := hb.size; show _ ≤ _; simpa using this
  clear hp hb
  have y0 := Y.out.c0
  have y1 := Y.out.c1
  have f0 : w1.frozen? ⟨w.heap.size, 0, none⟩ = false := free_at Y.out 0
  have f1 : w1.frozen? ⟨w.heap.size, 1, none⟩ = false := free_at Y.out 1
  have HR : Hid (((w1.setCell ⟨w.heap.size, 0, none⟩ (.slice (some ⟨w.heap.size + 1, 0, none⟩) 1 1)).setCell ⟨w.heap.size, 1, none⟩ (.slice a2 l.length c2)).heap[w.heap.size]? = some (.cells #[.slice (some ⟨w.heap.size + 1, 0, none⟩) 1 1, .slice a2 l.length c2] 26 (0, 0))) := arr_stored Y.out
  go_wp2
  refine bodyPost_ret (v := .agg #[.slice (some ⟨w.heap.size + 1, 0, none⟩) 1 1, .slice a2 l.length c2]) (results_arr rfl _ _ w.heap.size _ _ rfl HR.out) rfl ?_
  refine ⟨_, rfl, ?_, below_setCell (below_setCell HB.out (Nat.le_refl _) _ _) (Nat.le_refl _) _ _⟩
  have L := LT.out
  have p1' := (PS.out.win (win_setCell w1 w.heap.size 0 (.slice (some ⟨w.heap.size + 1, 0, none⟩) 1 1)) (.inr (by omega))).win (win_setCell _ w.heap.size 1 (.slice a2 l.length c2)) (.inr (by omega))
  have p2' := (HP.out.win (win_setCell w1 w.heap.size 0 (.slice (some ⟨w.heap.size + 1, 0, none⟩) 1 1)) (.inr (by omega))).win (win_setCell _ w.heap.size 1 (.slice a2 l.length c2)) (.inr (by omega))
  exact ⟨_, _, rfl, p1'.mono (by omega) (by simp only [size_setCell]; omega), p2'.mono (by omega) (by simp only [size_setCell]; omega), p1'.apart p2' (.inl (by omega))⟩
/-- What soleNumber tells: a code, and the number beside it. -/
def soleC (s d : List Int) (q : Bool) : Int := if arrOk s d = true ∧ q = true then (if d.length ≠ 1 then 3 else 0) else 1
def soleV (s d : List Int) (q : Bool) : Int := if soleC s d q = 0 then d.getD 0 0 else 0
set_option maxRecDepth 20000 in
set_option maxHeartbeats 2000000 in
/-- soleNumber. -/
theorem sole_impl {s d : List Int} {F : List (List Int)} {w : World} {v : Value} {m ca : Nat} {aa : Option Addr} (h : ArrI w v s d) (hd : d.length ≤ 1048576) (hA : ArrsI w (.slice aa m ca) F) (hm : m ≤ 2) (hL : ∀ j, (F.getD j []).length ≤ 1048576) :
    Calls Try.prog 52 #[v, .slice aa m ca] w fun r w' => r = .returned (.tuple #[.int .i64 (soleV s d (allOkV F m)), .int .i64 (soleC s d (allOkV F m))]) ∧ Below w.heap.size w w' := by
  have H : Hid (ArrI w v s d) := h
  have HC : Hid (∀ W, Below w.heap.size w W → Calls Try.prog 31 #[.slice aa m ca] W fun r w' => r = .returned (.bool (allOkV F m)) ∧ Below W.heap.size W w') := fun W h => allOk_impl (hA.keep h) hm hL
  have HD : Hid (∀ W, Below w.heap.size w W → Calls Try.prog 14 #[v] W fun r w' => r = .returned (.bool (arrOk s d)) ∧ Below W.heap.size W w') := fun W hb => arrOk_impl (h.keep hb) hd
  obtain ⟨a, c, b, e, rfl, _, ib, _, _⟩ := h
  have HI : Hid (Ints w b d) := ib
  clear hA hm hL hd ib
  generalize allOkV F m = q at *
  obtain ⟨x, hx⟩ : ∃ x, x = soleV s d q := ⟨_, rfl⟩
  obtain ⟨y, hy⟩ : ∃ y, y = soleC s d q := ⟨_, rfl⟩
  rw [← hx, ← hy]
  have E1 : Hid (arrOk s d = false → y = 1 ∧ x = 0) := fun h => by
    have : soleC s d q = 1 := by unfold soleC; rw [if_neg (by rw [h]; simp)]
    rw [hy, hx]; unfold soleV; rw [this]; exact ⟨rfl, rfl⟩
  have E2 : Hid (q = false → y = 1 ∧ x = 0) := fun h => by
    have : soleC s d q = 1 := by unfold soleC; rw [if_neg (by rw [h]; simp)]
    rw [hy, hx]; unfold soleV; rw [this]; exact ⟨rfl, rfl⟩
  have E3 : Hid (arrOk s d = true → q = true → d.length ≠ 1 → y = 3 ∧ x = 0) := fun h1 h2 h3 => by
    have : soleC s d q = 3 := by unfold soleC; rw [if_pos ⟨h1, h2⟩, if_pos h3]
    rw [hy, hx]; unfold soleV; rw [this]; exact ⟨rfl, rfl⟩
  have E4 : Hid (arrOk s d = true → q = true → d.length = 1 → y = 0 ∧ x = d.getD 0 0) := fun h1 h2 h3 => by
    have : soleC s d q = 0 := by unfold soleC; rw [if_pos ⟨h1, h2⟩, if_neg (by simpa using h3)]
    rw [hy, hx]; unfold soleV; rw [this]; exact ⟨rfl, rfl⟩
  clear hx hy
  generalize arrOk s d = z at *
  go_enter Try.func52, Try.ntmps52
  go_wp2_with fail
  refine (HD.out _ (bAlloc (Below.refl _ _) _)).mono ?_
  rintro r w1 ⟨rfl, hb⟩
  have HB : Hid (Below w.heap.size w w1) := bTrans (bAlloc (Below.refl _ _) _) hb
  have X : Hid (Box w1 w.heap.size (.slice a s.length c) (.slice b d.length e) 26) := (box_new w _ _ _).keep hb
  clear hb
  cases z
  · obtain ⟨rfl, rfl⟩ := E1.out rfl
    clear E1 E2 E3 E4
    go_wp2
    go_ret2
    exact ⟨rfl, HB.out⟩
  · go_wp2_with fail
    refine (HC.out _ HB.out).mono ?_
    rintro r w2 ⟨rfl, hb⟩
    have HB2 : Hid (Below w.heap.size w w2) := bTrans HB.out hb
    have X2 : Hid (Box w2 w.heap.size (.slice a s.length c) (.slice b d.length e) 26) := X.out.keep hb
    clear hb
    cases q
    · obtain ⟨rfl, rfl⟩ := E2.out (by trivial)
      clear E1 E2 E3 E4
      go_wp2
      go_ret2
      exact ⟨rfl, HB2.out⟩
    · have x1 := X2.out.c1
      by_cases hl : d.length = 1
      · obtain ⟨rfl, hx⟩ := E4.out (by trivial) (by trivial) hl
        clear E1 E2 E3 E4
        obtain ⟨b1, o1, rfl, _, c1⟩ := (HI.out.keep HB2.out).at (k := 0) (by omega)
        rw [Nat.add_zero, ← hx] at c1
        rw [hl] at x1
        clear hl hx
        go_wp2
        go_ret2
        exact ⟨rfl, HB2.out⟩
      · obtain ⟨rfl, rfl⟩ := E3.out (by trivial) (by trivial) hl
        clear E1 E2 E3 E4
        have hne : ((d.length : Int) != 1) = true := by simp; omega
        generalize d.length = n at *
        clear hl
        go_wp2
        go_ret2
        exact ⟨rfl, HB2.out⟩
/-- The shape as withRows has it. -/
def rowsS (s : List Int) : List Int := if s = [] then [1] else s
set_option maxRecDepth 20000 in
set_option maxHeartbeats 2000000 in
/-- withRows. -/
theorem withRows_impl {s d : List Int} {w : World} {v : Value} (h : ArrI w v s d) (hs : s.length ≤ 1048576) :
    Calls Try.prog 32 #[v] w fun r w' => ∃ v', r = .returned v' ∧ ArrI w' v' (rowsS s) d ∧ Below w.heap.size w w' := by
  have H : Hid (ArrI w v s d) := h
  obtain ⟨a, c, b, e, rfl, ia, ib, ga, gb⟩ := h
  by_cases h0 : s = []
  · have HS : Hid (rowsS s = [1]) := by show _ = _; unfold rowsS; rw [if_pos h0]
    have HI : Hid (Ints w b d ∧ d.length ≤ e) := ⟨ib, gb⟩
    subst h0
    clear ia ib ga gb H
    rw [HS.out]
    simp only [List.length_nil]
    go_enter Try.func32, Try.ntmps32
    go_wp2
    refine bodyPost_ret (v := .agg #[.slice (some ⟨w.heap.size + 2, 0, none⟩) 1 1, .slice b d.length e]) (results_arr rfl _ _ (w.heap.size + 1) _ _ rfl ?_) rfl ?_
    · exact (box_new2 w _ _ _ _).keep (bAlloc (Below.refl _ _) _)
    · refine ⟨_, rfl, ⟨_, 1, b, e, rfl, ?_, ?_, by simp, HI.out.2⟩, bAlloc (bAlloc (bAlloc (Below.refl _ _) _) _) _⟩
      · have q := ints_new ((w.alloc (.cells #[.slice a 0 c, .slice b d.length e] 26)).alloc (.cells #[.slice (some ⟨w.heap.size + 1 + 1, 0, none⟩) 1 1, .slice b d.length e] 26)) [1] 3
        simpa [vals] using q
      · exact ((HI.out.1.alloc _).alloc _).alloc _
  · have HS : Hid (rowsS s = s) := by show _ = _; unfold rowsS; rw [if_neg h0]
    have hne : ((s.length : Int) == 0) = false := by
      have : s.length ≠ 0 := fun h => h0 (List.eq_nil_of_length_eq_zero h)
      simp; exact h0
    have HL : Hid (s.length ≤ 1048576) := hs
    rw [HS.out]
    clear ia ib ga gb h0 hs HS
    generalize s.length = n at *
    go_enter Try.func32, Try.ntmps32
    go_wp2
    refine bodyPost_ret (v := .agg #[.slice a n c, .slice b d.length e]) (results_arr rfl _ _ (w.heap.size + 1) _ _ rfl ?_) rfl ?_
    · exact box_new2 w _ _ _ _
    · exact ⟨_, rfl, H.out.keep (bAlloc (bAlloc (Below.refl _ _) _) _), bAlloc (bAlloc (Below.refl _ _) _) _⟩
set_option maxRecDepth 20000 in
set_option maxHeartbeats 2000000 in
/-- ofRows. -/
theorem ofRows_impl {s : List Int} {w : World} {v : Value} (x : Int) (h : IntsI w v s) (hs : s.length ≤ 1048576) (h0 : s ≠ []) :
    Calls Try.prog 33 #[v, .int .i64 x] w fun r w' => ∃ a' c', r = .returned (.slice a' (x :: s.drop 1).length c') ∧ Piece w.heap.size w'.heap.size w' (.slice a' (x :: s.drop 1).length c') (x :: s.drop 1) ∧ Below w.heap.size w w' := by
  obtain ⟨a, c, rfl, g, i⟩ := h
  have HC : Hid (Calls Try.prog 54 #[.slice a s.length c] w fun e w' => e = .returned (.slice (some ⟨w.heap.size, 0, none⟩) s.length s.length) ∧ w' = w.alloc (.cells (vals s) 3)) := copied_impl c i hs
  have hp : 0 < s.length := by cases s with | nil => exact absurd rfl h0 | cons _ _ => simp
  have hp' : (0 : Int) < (s.length : Int) := by omega
  have EL : Hid ((x :: s.drop 1).length = s.length) := by show _ = _; simp; omega
  have ES : Hid (s.set 0 x = x :: s.drop 1) := by cases s with | nil => exact absurd rfl h0 | cons _ _ => rfl
  have HL : Hid (s.length ≤ 1048576) := hs
  rw [EL.out]
  clear i g hs h0
  go_enter Try.func33, Try.ntmps33
  go_wp2_with fail
  refine HC.out.mono ?_
  rintro r w1 ⟨rfl, hw⟩
  have HB : Hid (Below w.heap.size w w1) := by rw [hw]; exact bAlloc (Below.refl _ _) _
  have HP : Hid (Piece w.heap.size (w.heap.size + 1) w1 (.slice (some ⟨w.heap.size, 0, none⟩) s.length s.length) s) := by
    rw [hw]; exact OwnInts.piece (ownInts_new w s) (Nat.le_refl _) (by simp) _
  have LT : Hid (w.heap.size + 1 ≤ w1.heap.size) := by rw [hw]; show _ ≤ _; simp
  clear hw HC
  obtain ⟨t1, t2, _, _, _⟩ := HP.out.cellAt (k := 0) hp
  rw [Nat.zero_add] at t1 t2
  generalize s.getD 0 0 = z at t1
  go_wp2
  go_ret
  refine ⟨_, _, rfl, ?_, below_setCell HB.out (Nat.le_refl _) _ _⟩
  have q := HP.out.set hp x
  rw [ES.out] at q
  exact q.mono (Nat.le_refl _) (by rw [size_setCell]; exact LT.out)
end Go.Proofs.Ytfmheanmkfdjnai
namespace Go.Proofs.Ytfmheanmkfdjnai
open Go.RowKit
set_option linter.unusedVariables false
set_option linter.unusedSimpArgs false
theorem piece_setN5 {B C g c k n : Nat} {w : World} {l : List Int} (h : Piece B C w (.slice (some ⟨g, 0, none⟩) n c) l) (hl : l.length = n) (hk : k < n) (x : Int) : Piece B C (w.setCell ⟨g, k, none⟩ (.int .i64 x)) (.slice (some ⟨g, 0, none⟩) n c) (l.set k x) := by
  subst hl
  have := h.set hk x
  simpa using this
theorem iotaD_len {s d : List Int} (h : iotaC s d = 0) : ((List.range (d.getD 0 0).toNat).map (fun (i : Nat) => (i : Int))).length ≤ 1048576 := by
  have : d.getD 0 0 ≤ 300 := by
    unfold iotaC at h
    by_cases ho : arrOk s d = true
    · by_cases hl : d.length ≠ 1
      · rw [if_pos ho, if_pos hl] at h; cases h
      · by_cases h0 : d.getD 0 0 < 0
        · omega
        · by_cases h3 : 300 < d.getD 0 0
          · rw [if_pos ho, if_neg hl, if_neg h0, if_pos h3] at h; cases h
          · omega
    · rw [if_neg ho] at h; cases h
  rw [List.length_map, List.length_range]
  omega
set_option maxRecDepth 20000 in
set_option maxHeartbeats 4000000 in
/-- Iota. -/
theorem iota_impl {s d : List Int} {w : World} {v : Value} (h : ArrI w v s d) (hd : d.length ≤ 1048576) :
    Calls Try.prog 22 #[v] w fun r w' => ∃ v', r = .returned (.tuple #[v', .int .i64 (iotaR s d).1]) ∧ Arr w.heap.size w'.heap.size w' v' (iotaR s d).2.1 (iotaR s d).2.2 ∧ Below w.heap.size w w' := by
  have HSN : Hid (∀ W, Below w.heap.size w W → Calls Try.prog 52 #[v, .slice none 0 0] W fun r w' => r = .returned (.tuple #[.int .i64 (soleV s d true), .int .i64 (soleC s d true)]) ∧ Below W.heap.size W w') := fun W hb => sole_impl (F := []) (m := 0) (h.keep hb) hd ⟨none, 0, 0, rfl, rfl, .inl rfl⟩ (by decide) (fun j => by simp)
  obtain ⟨a, c, b, e, rfl, ia, ib, ga, gb⟩ := h
  obtain ⟨x, hx⟩ : ∃ x, x = (iotaR s d).1 := ⟨_, rfl⟩
  obtain ⟨S, hS⟩ : ∃ S, S = (iotaR s d).2.1 := ⟨_, rfl⟩
  obtain ⟨D, hD⟩ : ∃ D, D = (iotaR s d).2.2 := ⟨_, rfl⟩
  rw [← hx, ← hS, ← hD]
  have E1 : Hid (soleC s d true ≠ 0 → x = soleC s d true ∧ S = [] ∧ D = []) := fun h => by
    have q : iotaC s d = soleC s d true := by
      unfold soleC at *
      unfold iotaC
      by_cases ho : arrOk s d = true
      · by_cases hl : d.length = 1
        · exact absurd (by simp [ho, hl]) h
        · simp [ho, hl]
      · simp [ho]
    rw [hx, hS, hD]; unfold iotaR; rw [q, mkR_bad h]; exact ⟨rfl, rfl, rfl⟩
  have EQ : soleC s d true = 0 → soleV s d true = d.getD 0 0 ∧ iotaC s d = if d.getD 0 0 < 0 then 2 else if 300 < d.getD 0 0 then 6 else 0 := fun h => by
    refine ⟨by unfold soleV; rw [if_pos h], ?_⟩
    unfold soleC at h
    unfold iotaC
    by_cases ho : arrOk s d = true
    · rw [if_pos ⟨ho, rfl⟩] at h
      rw [if_pos ho]
      by_cases hl : d.length ≠ 1
      · rw [if_pos hl] at h; cases h
      · rw [if_neg hl]
    · rw [if_neg (fun q => ho q.1)] at h; cases h
  have E2 : Hid (soleC s d true = 0 → soleV s d true < 0 → x = 2 ∧ S = [] ∧ D = []) := fun h h1 => by
    obtain ⟨q1, q2⟩ := EQ h
    rw [q1] at h1
    rw [hx, hS, hD]; unfold iotaR; rw [q2, if_pos h1, mkR_bad (by decide)]; exact ⟨rfl, rfl, rfl⟩
  have E3 : Hid (soleC s d true = 0 → ¬ soleV s d true < 0 → 300 < soleV s d true → x = 6 ∧ S = [] ∧ D = []) := fun h h1 h2 => by
    obtain ⟨q1, q2⟩ := EQ h
    rw [q1] at h1 h2
    rw [hx, hS, hD]; unfold iotaR; rw [q2, if_neg h1, if_pos h2, mkR_bad (by decide)]; exact ⟨rfl, rfl, rfl⟩
  have E4 : Hid (soleC s d true = 0 → ∀ n : Nat, soleV s d true = (n : Int) → n ≤ 300 → x = 0 ∧ S = [(n : Int)] ∧ D = (List.range n).map (fun (i : Nat) => (i : Int))) := fun h n h1 h2 => by
    obtain ⟨q1, q2⟩ := EQ h
    rw [q1] at h1
    rw [hx, hS, hD]; unfold iotaR; rw [q2, if_neg (by omega), if_neg (by omega), mkR_good, h1]; exact ⟨rfl, rfl, rfl⟩
  clear hx hS hD ia ib ga gb hd EQ
  generalize soleV s d true = xv at *
  generalize soleC s d true = y at *
  go_enter Try.func22, Try.ntmps22
  go_wp2_with fail
  refine (HSN.out _ (bAlloc (bAlloc (Below.refl _ _) _) _)).mono ?_
  rintro r w1 ⟨rfl, hb⟩
  have HB1 : Hid (Below w.heap.size w w1) := bTrans (bAlloc (bAlloc (Below.refl _ _) _) _) hb
  have R1 : Hid (Box w1 (w.heap.size + 1) (.slice none 0 0) (.slice none 0 0) 26) := (box_new2 w _ _ _ _).keep hb
  clear hb HSN
  by_cases hy : y = 0
  · subst hy
    by_cases h0 : xv < 0
    · obtain ⟨rfl, rfl, rfl⟩ := E2.out (by trivial) h0
      clear E1 E2 E3 E4
      have y0 := R1.out.c0
      have y1 := R1.out.c1
      have f0 : w1.frozen? ⟨w.heap.size + 1, 0, none⟩ = false := free_at R1.out 0
      have f1 : w1.frozen? ⟨w.heap.size + 1, 1, none⟩ = false := free_at R1.out 1
      have HR : Hid (((w1.setCell ⟨w.heap.size + 1, 0, none⟩ (.slice none 0 0)).setCell ⟨w.heap.size + 1, 1, none⟩ (.slice none 0 0)).heap[w.heap.size + 1]? = some (.cells #[.slice none 0 0, .slice none 0 0] 26 (0, 0))) := arr_stored R1.out
      go_wp2
      refine bodyPost_ret (results_arr_tmp Try.results22 _ _ (w.heap.size + 1) _ _ rfl HR.out) rfl ?_
      exact ⟨_, rfl, arr_zero _ _ _, below_setCell (below_setCell HB1.out (by omega) _ _) (by omega) _ _⟩
    · by_cases h3 : 300 < xv
      · obtain ⟨rfl, rfl, rfl⟩ := E3.out (by trivial) (by omega) h3
        clear E1 E2 E3 E4
        have y0 := R1.out.c0
        have y1 := R1.out.c1
        have f0 : w1.frozen? ⟨w.heap.size + 1, 0, none⟩ = false := free_at R1.out 0
        have f1 : w1.frozen? ⟨w.heap.size + 1, 1, none⟩ = false := free_at R1.out 1
        have HR : Hid (((w1.setCell ⟨w.heap.size + 1, 0, none⟩ (.slice none 0 0)).setCell ⟨w.heap.size + 1, 1, none⟩ (.slice none 0 0)).heap[w.heap.size + 1]? = some (.cells #[.slice none 0 0, .slice none 0 0] 26 (0, 0))) := arr_stored R1.out
        go_wp2
        refine bodyPost_ret (results_arr_tmp Try.results22 _ _ (w.heap.size + 1) _ _ rfl HR.out) rfl ?_
        exact ⟨_, rfl, arr_zero _ _ _, below_setCell (below_setCell HB1.out (by omega) _ _) (by omega) _ _⟩
      · obtain ⟨n, rfl⟩ : ∃ n : Nat, xv = (n : Int) := ⟨xv.toNat, by omega⟩
        have hn : n ≤ 300 := by omega
        obtain ⟨rfl, eS, eD⟩ := E4.out (by trivial) n (by trivial) hn
        have ES : Hid (S = [(n : Int)] ∧ D = (List.range n).map (fun (i : Nat) => (i : Int))) := ⟨eS, eD⟩
        clear E1 E2 E3 E4 eS eD
        have hmk : ∀ w, (Instr.makeSlice 24 (.int .i64 (n : Int)) (.int .i64 (n : Int))).run Try.prog w = .ok (.slice (some ⟨w.heap.size, 0, none⟩) n n) (w.alloc (.cells (vals (List.replicate n 0)) 3)) := fun w => make_ints n (by omega) w
        go_wp2
        generalize hW : w1.alloc (.cells (vals (List.replicate n 0)) 3) = W
        have P0 : Hid (Piece w1.heap.size (w1.heap.size + 1) W (.slice (some ⟨w1.heap.size, 0, none⟩) n n) (List.replicate n 0)) := by
          rw [← hW]
          have := OwnInts.piece (ownInts_new w1 (List.replicate n 0)) (B := w1.heap.size) (C := w1.heap.size + 1) (Nat.le_refl _) (Nat.lt_succ_self _) n
          show Piece _ _ _ _ _
          simpa using this
        have B0 : Hid (Below w1.heap.size w1 W) := by rw [← hW]; exact bAlloc (Below.refl _ _) _
        have S0 : Hid (w1.heap.size + 1 ≤ W.heap.size) := by rw [← hW]; show _ ≤ _; simp
        clear hW hmk
        go_loopw [29] (fun i w' => ∃ (k : Nat) (l : List Int), k ≤ n ∧ i = .int .i64 (k : Int) ∧ l = setTo (fun (i : Nat) => (i : Int)) (List.replicate n 0) k ∧ l.length = n ∧ Piece w1.heap.size (w1.heap.size + 1) w' (.slice (some ⟨w1.heap.size, 0, none⟩) n n) l ∧ Below w1.heap.size w1 w' ∧ w1.heap.size + 1 ≤ w'.heap.size) (fun i _ => n - (intOf i).toNat)
        case atStart => exact ⟨0, _, by omega, rfl, by rw [setTo_zero], by simp, P0.out, B0.out, S0.out⟩
        case round =>
          obtain ⟨k, l, hk, rfl, hl, hll, hP, hb, hs⟩ := hrel
          have HL : Hid (l = setTo (fun (i : Nat) => (i : Int)) (List.replicate n 0) k) := hl
          have HLL : Hid (l.length = n) := hll
          have HP : Hid (Piece w1.heap.size (w1.heap.size + 1) wr (.slice (some ⟨w1.heap.size, 0, none⟩) n n) l) := hP
          have HB : Hid (Below w1.heap.size w1 wr ∧ w1.heap.size + 1 ≤ wr.heap.size) := ⟨hb, hs⟩
          clear hl hll hP hb hs P0 B0 S0
          by_cases hlt : (k : Int) < (n : Int)
          · obtain ⟨t1, t2, _, _, _⟩ := HP.out.cellAt (k := k) (by rw [HLL.out]; omega)
            rw [Nat.zero_add] at t1 t2
            generalize l.getD k 0 = z at t1
            have E3 : Hid (l.set k (k : Int) = setTo (fun (i : Nat) => (i : Int)) (List.replicate n 0) (k + 1)) := by show _ = _; rw [HL.out]; exact setTo_set (fun (i : Nat) => (i : Int)) _ (by simp; omega)
            go_wp2
            go_roundw
            case rel => exact ⟨k + 1, _, by omega, by go_num, E3.out, by rw [List.length_set]; exact HLL.out, piece_setN5 HP.out HLL.out (by omega) _, below_setCell HB.out.1 (Nat.le_refl _) _ _, by rw [size_setCell]; exact HB.out.2⟩
            case measure => simp [intOf]; omega
          · obtain rfl : k = n := by omega
            have ED : Hid (D = l) := by show _ = _; rw [ES.out.2, HL.out, setTo_all _ _ (by simp)]
            have R3 : Hid (Box wr (w.heap.size + 1) (.slice none 0 0) (.slice none 0 0) 26) := R1.out.keep HB.out.1
            have LT : Hid (w.heap.size + 1 < w1.heap.size) := R1.out.lt
            have HB5 : Hid (Below w.heap.size w wr) := bTrans HB1.out HB.out.1
            have R4 : Hid (Box (wr.alloc (.cells #[.int .i64 (k : Int)] 3)) (w.heap.size + 1) (.slice none 0 0) (.slice none 0 0) 26) := R3.out.keep (bAlloc (Below.refl _ _) _)
            have PS : Hid (Piece wr.heap.size (wr.heap.size + 1) (wr.alloc (.cells #[.int .i64 (k : Int)] 3)) (.slice (some ⟨wr.heap.size, 0, none⟩) 1 1) [(k : Int)]) := by
              have p := OwnInts.piece (ownInts_new wr [(k : Int)]) (B := wr.heap.size) (C := wr.heap.size + 1) (Nat.le_refl _) (Nat.lt_succ_self _) 1
              show Piece _ _ _ _ _
              simpa [vals] using p
            have PD : Hid (Piece w1.heap.size (w1.heap.size + 1) (wr.alloc (.cells #[.int .i64 (k : Int)] 3)) (.slice (some ⟨w1.heap.size, 0, none⟩) k k) l) := HP.out.keep (bAlloc (Below.refl _ _) _)
            have HB6 : Hid (Below w.heap.size w (wr.alloc (.cells #[.int .i64 (k : Int)] 3))) := bTrans HB5.out (bAlloc (Below.refl _ _) _)
            have SZ : Hid ((wr.alloc (.cells #[.int .i64 (k : Int)] 3)).heap.size = wr.heap.size + 1) := by show _ = _; simp
            have y0 := R3.out.c0
            have y1 := R3.out.c1
            have f0 : wr.frozen? ⟨w.heap.size + 1, 0, none⟩ = false := free_at R3.out 0
            have f1 : wr.frozen? ⟨w.heap.size + 1, 1, none⟩ = false := free_at R3.out 1
            have y0' := R4.out.c0
            have y1' := R4.out.c1
            have f0' : (wr.alloc (.cells #[.int .i64 (k : Int)] 3)).frozen? ⟨w.heap.size + 1, 0, none⟩ = false := free_at R4.out 0
            have f1' : (wr.alloc (.cells #[.int .i64 (k : Int)] 3)).frozen? ⟨w.heap.size + 1, 1, none⟩ = false := free_at R4.out 1
            have HR : Hid ((((wr.alloc (.cells #[.int .i64 (k : Int)] 3)).setCell ⟨w.heap.size + 1, 0, none⟩ (.slice (some ⟨wr.heap.size, 0, none⟩) 1 1)).setCell ⟨w.heap.size + 1, 1, none⟩ (.slice (some ⟨w1.heap.size, 0, none⟩) k k)).heap[w.heap.size + 1]? = some (.cells #[.slice (some ⟨wr.heap.size, 0, none⟩) 1 1, .slice (some ⟨w1.heap.size, 0, none⟩) k k] 26 (0, 0))) := arr_stored R4.out
            go_wp2
            refine bodyPost_ret (results_arr_tmp Try.results22 _ _ (w.heap.size + 1) _ _ rfl HR.out) rfl ?_
            refine ⟨_, rfl, ?_, below_setCell (below_setCell HB6.out (by omega) _ _) (by omega) _ _⟩
            have L1 := LT.out
            have L2 := HB.out.2
            have L3 := SZ.out
            rw [ES.out.1, ED.out]
            have p1' := (PS.out.win (win_setCell _ (w.heap.size + 1) 0 (.slice (some ⟨wr.heap.size, 0, none⟩) 1 1)) (.inr (by omega))).win (win_setCell _ (w.heap.size + 1) 1 (.slice (some ⟨w1.heap.size, 0, none⟩) k k)) (.inr (by omega))
            have p2' := (PD.out.win (win_setCell _ (w.heap.size + 1) 0 (.slice (some ⟨wr.heap.size, 0, none⟩) 1 1)) (.inr (by omega))).win (win_setCell _ (w.heap.size + 1) 1 (.slice (some ⟨w1.heap.size, 0, none⟩) k k)) (.inr (by omega))
            exact ⟨_, _, rfl, p1'.mono (by omega) (by simp only [size_setCell]; omega), p2'.mono (by omega) (by simp only [size_setCell]; omega), p1'.apart p2' (.inr (by omega))⟩
  · obtain ⟨rfl, rfl, rfl⟩ := E1.out hy
    have hne : (x != 0) = true := by simpa using hy
    clear E1 E2 E3 E4 hy
    have y0 := R1.out.c0
    have y1 := R1.out.c1
    have f0 : w1.frozen? ⟨w.heap.size + 1, 0, none⟩ = false := free_at R1.out 0
    have f1 : w1.frozen? ⟨w.heap.size + 1, 1, none⟩ = false := free_at R1.out 1
    have HR : Hid (((w1.setCell ⟨w.heap.size + 1, 0, none⟩ (.slice none 0 0)).setCell ⟨w.heap.size + 1, 1, none⟩ (.slice none 0 0)).heap[w.heap.size + 1]? = some (.cells #[.slice none 0 0, .slice none 0 0] 26 (0, 0))) := arr_stored R1.out
    go_wp2
    refine bodyPost_ret (results_arr_tmp Try.results22 _ _ (w.heap.size + 1) _ _ rfl HR.out) rfl ?_
    exact ⟨_, rfl, arr_zero _ _ _, below_setCell (below_setCell HB1.out (by omega) _ _) (by omega) _ _⟩
end Go.Proofs.Ytfmheanmkfdjnai
namespace Go.Proofs.Ytfmheanmkfdjnai
open Go.RowKit
set_option linter.unusedVariables false
set_option linter.unusedSimpArgs false
theorem arrs_one5 {W : World} {o : Nat} {x y : Value} {t : TypeId} {s d : List Int} (hb : Box W o x y t) (h : ArrI W (.agg #[x, y]) s d) : ArrsI W (.slice (some ⟨o, 0, none⟩) 1 1) [s, d] := by
  obtain ⟨a, c, b, e, e', i1, i2, g1, g2⟩ := h
  obtain ⟨rfl, rfl⟩ : x = .slice a s.length c ∧ y = .slice b d.length e := by cases e'; exact ⟨rfl, rfl⟩
  refine ⟨_, 1, 1, rfl, rfl, .inr ⟨o, 0, [.slice a s.length c, .slice b d.length e], rfl, hb.lt, rfl, fun j hj => ?_⟩⟩
  match j, hj with
  | 0, _ => exact ⟨hb.c0, a, c, rfl, g1, i1⟩
  | 1, _ => exact ⟨hb.c1, b, e, rfl, g2, i2⟩
theorem arrs_two5 {W : World} {o : Nat} {x y x' y' : Value} {t : TypeId} {s d s' d' : List Int} (hb : W.heap[o]? = some (.cells #[x, y, x', y'] t (0, 0))) (h : ArrI W (.agg #[x, y]) s d) (k : ArrI W (.agg #[x', y']) s' d') : ArrsI W (.slice (some ⟨o, 0, none⟩) 2 2) [s, d, s', d'] := by
  obtain ⟨a, c, b, e, e', i1, i2, g1, g2⟩ := h
  obtain ⟨rfl, rfl⟩ : x = .slice a s.length c ∧ y = .slice b d.length e := by cases e'; exact ⟨rfl, rfl⟩
  obtain ⟨a', c', b', f', e', i3, i4, g3, g4⟩ := k
  obtain ⟨rfl, rfl⟩ : x' = .slice a' s'.length c' ∧ y' = .slice b' d'.length f' := by cases e'; exact ⟨rfl, rfl⟩
  refine ⟨_, 2, 2, rfl, rfl, .inr ⟨o, 0, [.slice a s.length c, .slice b d.length e, .slice a' s'.length c', .slice b' d'.length f'], rfl, lt_of_heapA hb, rfl, fun j hj => ?_⟩⟩
  match j, hj with
  | 0, _ => exact ⟨cell_at hb rfl, a, c, rfl, g1, i1⟩
  | 1, _ => exact ⟨cell_at hb rfl, b, e, rfl, g2, i2⟩
  | 2, _ => exact ⟨cell_at hb rfl, a', c', rfl, g3, i3⟩
  | 3, _ => exact ⟨cell_at hb rfl, b', f', rfl, g4, i4⟩
theorem four5 (w : World) (A B C D : Obj) :
    ((((w.alloc A).alloc B).alloc C).alloc D).heap[w.heap.size]? = some A ∧ ((((w.alloc A).alloc B).alloc C).alloc D).heap[w.heap.size + 1]? = some B ∧ ((((w.alloc A).alloc B).alloc C).alloc D).heap[w.heap.size + 1 + 1]? = some C ∧ ((((w.alloc A).alloc B).alloc C).alloc D).heap[w.heap.size + 1 + 1 + 1]? = some D := by
  have e1 := heap_alloc_new w A
  have e2 := heap_alloc_new (w.alloc A) B
  have e3 := heap_alloc_new ((w.alloc A).alloc B) C
  have e4 := heap_alloc_new (((w.alloc A).alloc B).alloc C) D
  simp only [World.size_alloc] at e2 e3 e4
  refine ⟨?_, ?_, ?_, e4⟩
  · rw [heap_alloc_old _ _ (by simp only [World.size_alloc]; omega), heap_alloc_old _ _ (by simp only [World.size_alloc]; omega), heap_alloc_old _ _ (by simp only [World.size_alloc]; omega)]; exact e1
  · rw [heap_alloc_old _ _ (by simp only [World.size_alloc]; omega), heap_alloc_old _ _ (by simp only [World.size_alloc]; omega)]; exact e2
  · rw [heap_alloc_old _ _ (by simp only [World.size_alloc]; omega)]; exact e3
theorem allOkV_two (s d t e : List Int) : allOkV [s, d, t, e] 2 = (arrOk s d && arrOk t e) := by simp [allOkV, List.range_succ]
theorem allOkV_one (t e : List Int) : allOkV [t, e] 1 = arrOk t e := by simp [allOkV, List.range_succ]
theorem allOk2_impl {s d t e : List Int} {W : World} {o : Nat} {x y x' y' : Value} (h : ArrI W (.agg #[x, y]) s d) (k : ArrI W (.agg #[x', y']) t e) (hs : s.length ≤ 1048576) (hd : d.length ≤ 1048576) (ht : t.length ≤ 1048576) (he : e.length ≤ 1048576) {T : TypeId} (ho : W.heap[o]? = some (.cells #[x, y, x', y'] T (0, 0))) :
    Calls Try.prog 31 #[.slice (some ⟨o, 0, none⟩) 2 2] W fun r w' => r = .returned (.bool (arrOk s d && arrOk t e)) ∧ Below W.heap.size W w' := by
  rw [← allOkV_two]
  refine allOk_impl (arrs_two5 ho h k) (by decide) (fun j => ?_)
  match j with
  | 0 => exact hs
  | 1 => exact hd
  | 2 => exact ht
  | 3 => exact he
  | j + 4 => simp
theorem sole2_impl {s d t e : List Int} {W : World} {o : Nat} {x' y' v : Value} (h : ArrI W v s d) (k : ArrI W (.agg #[x', y']) t e) (hd : d.length ≤ 1048576) (ht : t.length ≤ 1048576) (he : e.length ≤ 1048576) {T : TypeId} (ho : Box W o x' y' T) :
    Calls Try.prog 52 #[v, .slice (some ⟨o, 0, none⟩) 1 1] W fun r w' => r = .returned (.tuple #[.int .i64 (soleV s d (arrOk t e)), .int .i64 (oneC s d t e)]) ∧ Below W.heap.size W w' := by
  have q := sole_impl h hd (arrs_one5 ho k) (by decide) (fun j => by
    match j with
    | 0 => exact ht
    | 1 => exact he
    | j + 2 => simp)
  rw [allOkV_one] at q
  exact q
end Go.Proofs.Ytfmheanmkfdjnai
