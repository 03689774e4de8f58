/-
  Walks: the program's strung, for whatever closure of two variables; spreading's and Outer's closures.
-/
import Derived.Test.YtbmkfmppcojcgaaOuterM
import Derived.Test.YtbmkfmppcojcgaaImplShape
import Derived.Test.YtbmkfmppcojcgaaImplCopy1
import Derived.Test.YtbmkfmppcojcgaaImplEach3
import Derived.Shelf.Abstract
namespace Go.Proofs.Ytbmkfmppcojcgaa
open Go.RowKit
set_option linter.unusedVariables false
set_option linter.unusedSimpArgs false
theorem flat_succ (D : Nat → List Int) (k : Nat) : (List.range (k + 1)).flatMap D = (List.range k).flatMap D ++ D k := by
  rw [List.range_succ, List.flatMap_append]; simp
set_option maxRecDepth 20000 in
set_option maxHeartbeats 8000000 in
/-- strung. -/
theorem strung_impl {S : List Int} {n B E : Nat} {C : Nat → Int} {T D : Nat → List Int} {w : World} {a : Option Addr} {c f : Nat} {p q : Value} (hE : ∀ (args : Array Value) (w : World), (callFunc f args).run Try.prog w = .ok (.enter f args) w)
    (hS : Piece B E w (.slice a S.length c) S) (hB : B ≤ w.heap.size) (hEw : E ≤ w.heap.size) (hz : 0 ≤ sizeV S) (hn : n ≤ 90000) (hD : ∀ k, k ≤ n → ((List.range k).flatMap D).length ≤ 100000)
    (hV : ∀ (W : World) (k : Nat), k < n → Below w.heap.size w W → Calls Try.prog f #[.int .i64 (k : Int), p, q] W fun r W' => ∃ v', r = .returned (.tuple #[v', .int .i64 (C k)]) ∧ Arr W.heap.size W'.heap.size W' v' (T k) (D k) ∧ Below W.heap.size W W') :
    Calls Try.prog 37 #[.slice a S.length c, .int .i64 (n : Int), .func (.func f) #[] #[p, q]] w fun r w' => ∃ v', r = .returned (.tuple #[v', .int .i64 (firstC C n)]) ∧ Arr B w'.heap.size w' v' (mkR (firstC C n) S ((List.range n).flatMap D)).2.1 (mkR (firstC C n) S ((List.range n).flatMap D)).2.2 ∧ Below w.heap.size w w' := by
  have HV : Hid (∀ (W : World) (k : Nat), k < n → Below w.heap.size w W → Calls Try.prog f #[.int .i64 (k : Int), p, q] W fun r W' => ∃ v', r = .returned (.tuple #[v', .int .i64 (C k)]) ∧ Arr W.heap.size W'.heap.size W' v' (T k) (D k) ∧ Below W.heap.size W W') := hV
  have HD : Hid (∀ k, k ≤ n → ((List.range k).flatMap D).length ≤ 100000) := hD
  have HS : Hid (Piece B E w (.slice a S.length c) S) := hS
  obtain ⟨m, hm⟩ : ∃ m : Nat, sizeV S = (m : Int) := ⟨(sizeV S).toNat, by omega⟩
  have hm3 : m ≤ 300 := by have := sizeV_bd S; omega
  have HSZ : Hid (∀ W, Below w.heap.size w W → Calls Try.prog 26 #[.slice a S.length c] W fun r w' => r = .returned (.int .i64 (m : Int)) ∧ Below W.heap.size W w') := fun W hb => by
    obtain ⟨q1, q2, q3, q4⟩ := (hS.keep hb).ints
    cases q3
    have qq := size_impl c q4
    rw [hm] at qq
    exact qq
  have HB0 : Hid (B ≤ w.heap.size) := hB
  have HE0 : Hid (E ≤ w.heap.size) := hEw
  clear hV hD hS hm hz hB hEw
  go_enter Try.func37, Try.ntmps37
  go_wp2_with fail
  refine (HSZ.out _ (bAlloc (Below.refl _ _) _)).mono ?_
  rintro r w2 ⟨rfl, hb⟩
  have HB2 : Hid (Below w.heap.size w w2) := bTrans (bAlloc (Below.refl _ _) _) hb
  have R2 : Hid (Box w2 w.heap.size (.slice none 0 0) (.slice none 0 0) 26) := (box_new w _ _ _).keep hb
  have LT : Hid (w.heap.size < w2.heap.size) := R2.out.lt
  clear hb HSZ
  obtain ⟨w3, r3, n3, b3⟩ := make0_ints m (by omega) w2
  have N3 : Hid (NewInts w2.heap.size w3 (.slice (some ⟨w2.heap.size, 0, none⟩) 0 m) []) := n3
  have B3 : Hid (Below w2.heap.size w2 w3) := b3
  clear n3 b3
  go_wp2
  clear r3
  go_loopw [8, 16] (fun v i w' => ∃ (k : Nat), k ≤ n ∧ i = .int .i64 (k : Int) ∧ NewInts w2.heap.size w' v ((List.range k).flatMap D) ∧ firstC C k = 0 ∧ Below w2.heap.size w2 w') (fun _ i _ => n - (intOf i).toNat)
  case atStart => exact ⟨0, by omega, rfl, N3.out, rfl, B3.out⟩
  case round =>
    obtain ⟨k, hk, rfl, hN, hF, hB⟩ := hrel
    have NK : Hid (NewInts w2.heap.size wr _ ((List.range k).flatMap D)) := hN
    have BK : Hid (Below w2.heap.size w2 wr) := hB
    have FK : Hid (firstC C k = 0) := hF
    obtain ⟨a5, c5, rfl, _⟩ := hN.ints
    clear hN hB hF N3 B3
    by_cases hlt : (k : Int) < (n : Int)
    · have L : k < n := by omega
      have HVK : Hid (Calls Try.prog f #[.int .i64 (k : Int), p, q] wr fun r W' => ∃ v', r = .returned (.tuple #[v', .int .i64 (C k)]) ∧ Arr wr.heap.size W'.heap.size W' v' (T k) (D k) ∧ Below wr.heap.size wr W') := HV.out wr k L (bTrans HB2.out BK.out)
      have E1 : Hid (C k = 0 → firstC C (k + 1) = 0) := fun h => firstC_go FK.out h
      have E2 : Hid (C k ≠ 0 → firstC C n = C k) := fun h => firstC_stop FK.out h L
      have LD := HD.out (k + 1) (by omega)
      have EF : Hid ((List.range (k + 1)).flatMap D = (List.range k).flatMap D ++ D k) := flat_succ D k
      rw [EF.out, List.length_append] at LD
      obtain ⟨P, hP⟩ : ∃ P, P = (List.range k).flatMap D := ⟨_, rfl⟩
      rw [← hP] at NK LD EF ⊢
      clear hP
      obtain ⟨dk, hdk⟩ : ∃ dk, dk = D k := ⟨_, rfl⟩
      obtain ⟨tk, htk⟩ : ∃ tk, tk = T k := ⟨_, rfl⟩
      rw [← hdk] at EF LD HVK
      rw [← htk] at HVK
      clear hdk htk
      have LDK : Hid (P.length + dk.length ≤ 100000) := LD
      clear LD
      generalize C k = x at *
      by_cases hx : x = 0
      · subst hx
        have E1' : Hid (firstC C (k + 1) = 0) := E1.out rfl
        clear E1 E2
        go_wp2_with fail
        go_at_fn f
        refine HVK.out.mono ?_
        rintro r w4 ⟨v4, rfl, ha, hb⟩
        obtain ⟨ta, tc, da, dc, rfl, _, i4, _, _⟩ := ha.arrI
        have I4 : Hid (Ints w4 da dk) := i4
        have HB4 : Hid (Below wr.heap.size wr w4) := hb
        clear ha hb i4
        obtain ⟨a7, c7, w7, r7, n7, b7⟩ := growL (NewInts.keep (NewInts.keep NK.out HB4.out) (bAlloc (Below.refl _ _) (.cells #[.slice ta tk.length tc, .slice da dk.length dc] 26))) (I4.out.keep (bAlloc (Below.refl _ _) (.cells #[.slice ta tk.length tc, .slice da dk.length dc] 26))) (by have := BK.out.size; have := HB4.out.size; simp; omega) (by have := LDK.out; omega) dc
        have R7 : Hid (_ = _) := r7
        have N7 : Hid (NewInts w2.heap.size w7 (.slice a7 (P ++ dk).length c7) (P ++ dk)) := n7
        have B7 : Hid (Below w2.heap.size w2 w7) := (bAlloc (bTrans BK.out HB4.out) _).trans b7
        clear r7 n7 b7
        go_wp2_with (at_builtin; refine wpList_append_ty rfl _ _ 24 24 rfl _ _ _ rfl rfl R7.out ?_)
        go_roundw
        case rel => exact ⟨k + 1, by omega, by go_num, by rw [EF.out]; have := N7.out; rw [List.length_append] at this; exact this, E1'.out, B7.out⟩
        case measure => simp [intOf]; omega
      · have E2' : Hid (firstC C n = x) := E2.out hx
        clear E1 E2
        go_wp2_with fail
        go_at_fn f
        refine HVK.out.mono ?_
        rintro r w4 ⟨v4, rfl, ha, hb⟩
        obtain ⟨ta, tc, da, dc, rfl, _, _, _, _⟩ := ha.arrI
        have HB4 : Hid (Below w2.heap.size w2 w4) := bTrans BK.out hb
        have R4 : Hid (Box (w4.alloc (.cells #[.slice ta tk.length tc, .slice da dk.length dc] 26)) w.heap.size (.slice none 0 0) (.slice none 0 0) 26) := ((R2.out.keep HB4.out).keep (bAlloc (Below.refl _ _) _))
        have BW4 : Hid (Below w.heap.size w (w4.alloc (.cells #[.slice ta tk.length tc, .slice da dk.length dc] 26))) := bAlloc (bTrans HB2.out HB4.out) _
        clear ha hb
        have y0 := R4.out.c0
        have y1 := R4.out.c1
        have f0 := free_at R4.out 0
        have f1 := free_at R4.out 1
        have HR : Hid (_ = _) := arr_stored (x' := .slice none 0 0) (y' := .slice none 0 0) R4.out
        have hxx : (x != 0) = true := by simpa using hx
        go_wp2
        refine bodyPost_ret (results_arr_tmp Try.results37 _ _ w.heap.size _ _ rfl HR.out) rfl ?_
        rw [E2'.out, mkR_bad hx]
        exact ⟨_, rfl, arr_zero _ _ _, below_setCell (below_setCell BW4.out (by omega) _ _) (by omega) _ _⟩
    · obtain rfl : k = n := by omega
      have R4 : Hid (Box wr w.heap.size (.slice none 0 0) (.slice none 0 0) 26) := R2.out.keep BK.out
      have BW4 : Hid (Below w.heap.size w wr) := bTrans HB2.out BK.out
      have P4 : Hid (Piece B E wr (.slice a S.length c) S) := HS.out.keep BW4.out
      have N4 : Hid (Piece w2.heap.size wr.heap.size wr (.slice a5 ((List.range k).flatMap D).length c5) ((List.range k).flatMap D)) := NK.out.piece
      clear NK
      generalize ((List.range k).flatMap D).length = q9 at *
      have y0 := R4.out.c0
      have y1 := R4.out.c1
      have f0 := free_at R4.out 0
      have f1 := free_at R4.out 1
      have HR : Hid (_ = _) := arr_stored (x' := .slice a S.length c) (y' := .slice a5 q9 c5) R4.out
      go_wp2
      refine bodyPost_ret (results_arr_tmp Try.results37 _ _ w.heap.size _ _ rfl HR.out) rfl ?_
      rw [FK.out, mkR_good]
      refine ⟨_, rfl, ?_, below_setCell (below_setCell BW4.out (by omega) _ _) (by omega) _ _⟩
      have L1 := LT.out
      have L2 := HE0.out
      have L3 := HB0.out
      have p1' := (P4.out.win (win_setCell wr w.heap.size 0 (.slice a S.length c)) (.inl (by omega))).win (win_setCell _ w.heap.size 1 (.slice a5 q9 c5)) (.inl (by omega))
      have p2' := (N4.out.win (win_setCell wr w.heap.size 0 (.slice a S.length c)) (.inr (by omega))).win (win_setCell _ w.heap.size 1 (.slice a5 q9 c5)) (.inr (by omega))
      have L4 := BW4.out.size
      exact ⟨_, _, rfl, p1'.mono (by omega) (by simp only [size_setCell]; omega), p2'.mono (by omega) (by simp only [size_setCell]; omega), p1'.apart p2' (.inl (by omega))⟩
set_option maxHeartbeats 1000000 in
/-- spreading: its closure, and what it holds. -/
theorem spreading_impl (g : Int) (x y : Value) (w : World) :
    Calls Try.prog 36 #[.int .i64 g, .agg #[x, y]] w fun r w' => r = .returned (.func (.func 66) #[] #[.pointer (some ⟨w.heap.size, 0, none⟩), .pointer (some ⟨w.heap.size + 1, 0, none⟩)]) ∧ w'.cell? ⟨w.heap.size, 0, none⟩ = some (.int .i64 g) ∧ Box w' (w.heap.size + 1) x y 26 ∧ Below w.heap.size w w' ∧ w.heap.size + 2 ≤ w'.heap.size := by
  go_enter Try.func36, Try.ntmps36
  go_wp2
  go_ret
  refine ⟨rfl, ?_, box_new2 w _ _ _ _, bAlloc (bAlloc (Below.refl _ _) _) _, by simp⟩
  exact cell_at (heap_alloc2_old w _ _) rfl
set_option maxRecDepth 20000 in
set_option maxHeartbeats 2000000 in
/-- spreading's closure. -/
theorem spread1_impl {g x : Int} {t e : List Int} {w : World} {o q : Nat} {z z' : Value} (hg : w.cell? ⟨o, 0, none⟩ = some (.int .i64 g)) (ho : o < w.heap.size) (hq : Box w q z z' 26) (k : ArrI w (.agg #[z, z']) t e) (ht : t.length ≤ 1048576) (he : e.length ≤ 1048576) :
    Calls Try.prog 66 #[.int .i64 x, .pointer (some ⟨o, 0, none⟩), .pointer (some ⟨q, 0, none⟩)] w fun r w' => ∃ v', r = .returned (.tuple #[v', .int .i64 (eachTwoC g [] [x] t e)]) ∧ Arr w.heap.size w'.heap.size w' v' (eachTwoS g [] [x] t e) (eachTwoD g [] [x] t e) ∧ Below w.heap.size w w' := by
  have HE : Hid (∀ W o', Below w.heap.size w W → Ints W (some ⟨o', 0, none⟩) [x] → Calls Try.prog 67 #[.int .i64 g, .agg #[.slice none 0 0, .slice (some ⟨o', 0, none⟩) 1 1], .agg #[z, z']] W fun r w' => ∃ v', r = .returned (.tuple #[v', .int .i64 (eachTwoC g [] [x] t e)]) ∧ Arr W.heap.size w'.heap.size w' v' (eachTwoS g [] [x] t e) (eachTwoD g [] [x] t e) ∧ Below W.heap.size W w') := fun W o' hb hi => eachTwo_impl ⟨none, 0, _, 1, rfl, .inl rfl, hi, Nat.le_refl _, Nat.le_refl _⟩ (k.keep hb) (by simp) (by simp) ht he
  obtain ⟨C, hC⟩ : ∃ C, C = eachTwoC g [] [x] t e := ⟨_, rfl⟩
  obtain ⟨S, hS⟩ : ∃ S, S = eachTwoS g [] [x] t e := ⟨_, rfl⟩
  obtain ⟨D, hD⟩ : ∃ D, D = eachTwoD g [] [x] t e := ⟨_, rfl⟩
  rw [← hC, ← hS, ← hD] at HE
  rw [← hC, ← hS, ← hD]
  have q0 := hq.c0
  have q1 := hq.c1
  have HQ : Hid (q < w.heap.size) := hq.lt
  have u0 : (w.alloc (.cells #[.slice none 0 0, .slice none 0 0] 26)).cell? ⟨o, 0, none⟩ = some (.int .i64 g) := ((bAlloc (Below.refl w.heap.size w) (.cells #[.slice none 0 0, .slice none 0 0] 26)).cell (p := ⟨o, 0, none⟩) ho).trans hg
  have u1 : ((w.alloc (.cells #[.slice none 0 0, .slice none 0 0] 26)).alloc (.cells #[.int .i64 x] 3)).cell? ⟨q, 0, none⟩ = some z := ((bAlloc (bAlloc (Below.refl w.heap.size w) (.cells #[.slice none 0 0, .slice none 0 0] 26)) (.cells #[.int .i64 x] 3)).cell (p := ⟨q, 0, none⟩) hq.lt).trans q0
  have u2 : ((w.alloc (.cells #[.slice none 0 0, .slice none 0 0] 26)).alloc (.cells #[.int .i64 x] 3)).cell? ⟨q, 1, none⟩ = some z' := ((bAlloc (bAlloc (Below.refl w.heap.size w) (.cells #[.slice none 0 0, .slice none 0 0] 26)) (.cells #[.int .i64 x] 3)).cell (p := ⟨q, 1, none⟩) hq.lt).trans q1
  have i1 : Ints ((w.alloc (.cells #[.slice none 0 0, .slice none 0 0] 26)).alloc (.cells #[.int .i64 x] 3)) (some ⟨w.heap.size + 1, 0, none⟩) [x] := by
    have q := ints_new (w.alloc (.cells #[.slice none 0 0, .slice none 0 0] 26)) [x] 3
    rw [show (w.alloc (.cells #[.slice none 0 0, .slice none 0 0] 26)).heap.size = w.heap.size + 1 by simp] at q
    exact q
  have II : Hid (_) := i1
  clear hC hS hD k hq i1
  go_enter Try.func66, Try.ntmps66
  go_wp2_with fail
  refine (HE.out _ _ (bAlloc (bAlloc (Below.refl _ _) _) _) II.out).mono ?_
  rintro r w1 ⟨v1, rfl, ha, hb⟩
  obtain ⟨s1, d1, rfl, p1, p2, p3⟩ := ha
  obtain ⟨ta, tc, rfl, _⟩ := p1.ints
  obtain ⟨da, dc, rfl, _⟩ := p2.ints
  have HB1 : Hid (Below w.heap.size w w1) := bTrans (bAlloc (bAlloc (Below.refl _ _) _) _) hb
  have R1 : Hid (Box w1 w.heap.size (.slice none 0 0) (.slice none 0 0) 26) := (((box_new w _ _ _).keep (bAlloc (Below.refl _ _) _))).keep hb
  have A1 : Hid (Arr (w.heap.size + 1) w1.heap.size w1 (.agg #[.slice ta S.length tc, .slice da D.length dc]) S D) := Arr.mono ⟨_, _, rfl, p1, p2, p3⟩ (by simp) (Nat.le_refl _)
  have LT : Hid (w.heap.size < w1.heap.size) := R1.out.lt
  clear p1 p2 p3 hb HE q0 q1 hg u0 u1 u2
  have y0 := R1.out.c0
  have y1 := R1.out.c1
  have f0 := free_at R1.out 0
  have f1 := free_at R1.out 1
  have HR : Hid (_ = _) := arr_stored (x' := .slice ta S.length tc) (y' := .slice da D.length dc) R1.out
  go_wp2
  refine bodyPost_ret (results_arr_tmp Try.results66 _ _ w.heap.size _ _ rfl HR.out) rfl ?_
  refine ⟨_, rfl, ?_, below_setCell (below_setCell HB1.out (by omega) _ _) (by omega) _ _⟩
  have L1 := LT.out
  exact ((A1.out.setCell (by omega) _ _).setCell (by omega) _ _).mono (by omega) (by simp only [size_setCell]; omega)
set_option maxRecDepth 20000 in
set_option maxHeartbeats 2000000 in
/-- Outer's closure. -/
theorem outer1_impl {g : Int} {d t e : List Int} {w : World} {o q p m k : Nat} {z z' y : Value} {b : Option Addr} {f : Nat} (hw : w.cell? ⟨p, 0, none⟩ = some (.func (.func 66) #[] #[.pointer (some ⟨o, 0, none⟩), .pointer (some ⟨q, 0, none⟩)])) (hm : Box w m y (.slice b d.length f) 26) (hd : Ints w b d) (hp : p < w.heap.size) (hk : k < d.length) (hd3 : d.length ≤ 300)
    (hg : w.cell? ⟨o, 0, none⟩ = some (.int .i64 g)) (ho : o < w.heap.size) (hq : Box w q z z' 26) (hA : ArrI w (.agg #[z, z']) t e) (ht : t.length ≤ 1048576) (he : e.length ≤ 1048576) :
    Calls Try.prog 38 #[.int .i64 (k : Int), .pointer (some ⟨p, 0, none⟩), .pointer (some ⟨m, 0, none⟩)] w fun r w' => ∃ v', r = .returned (.tuple #[v', .int .i64 (eachTwoC g [] [d.getD k 0] t e)]) ∧ Arr w.heap.size w'.heap.size w' v' (eachTwoS g [] [d.getD k 0] t e) (eachTwoD g [] [d.getD k 0] t e) ∧ Below w.heap.size w w' := by
  obtain ⟨x, hx⟩ : ∃ x, x = d.getD k 0 := ⟨_, rfl⟩
  obtain ⟨b1, o1, rfl, hb1, c1⟩ := hd.at hk
  rw [← hx] at c1 ⊢
  have HE : Hid (∀ W, Below w.heap.size w W → Calls Try.prog 66 #[.int .i64 x, .pointer (some ⟨o, 0, none⟩), .pointer (some ⟨q, 0, none⟩)] W fun r w' => ∃ v', r = .returned (.tuple #[v', .int .i64 (eachTwoC g [] [x] t e)]) ∧ Arr W.heap.size w'.heap.size w' v' (eachTwoS g [] [x] t e) (eachTwoD g [] [x] t e) ∧ Below W.heap.size W w') := fun W hb => spread1_impl ((hb.cell (p := ⟨o, 0, none⟩) ho).trans hg) (Nat.lt_of_lt_of_le ho hb.size) (hq.keep hb) (hA.keep hb) ht he
  obtain ⟨C, hC⟩ : ∃ C, C = eachTwoC g [] [x] t e := ⟨_, rfl⟩
  obtain ⟨S, hS⟩ : ∃ S, S = eachTwoS g [] [x] t e := ⟨_, rfl⟩
  obtain ⟨D, hD⟩ : ∃ D, D = eachTwoD g [] [x] t e := ⟨_, rfl⟩
  rw [← hC, ← hS, ← hD] at HE
  rw [← hC, ← hS, ← hD]
  have q1 := hm.c1
  have hki : (k : Int) < (d.length : Int) := by omega
  have lw : p < w.heap.size := hp
  have u0 : (w.alloc (.cells #[.slice none 0 0, .slice none 0 0] 26)).cell? ⟨p, 0, none⟩ = some (.func (.func 66) #[] #[.pointer (some ⟨o, 0, none⟩), .pointer (some ⟨q, 0, none⟩)]) := ((bAlloc (Below.refl w.heap.size w) (.cells #[.slice none 0 0, .slice none 0 0] 26)).cell (p := ⟨p, 0, none⟩) lw).trans hw
  have u1 : (w.alloc (.cells #[.slice none 0 0, .slice none 0 0] 26)).cell? ⟨m, 1, none⟩ = some (.slice (some ⟨b1, o1, none⟩) d.length f) := ((bAlloc (Below.refl w.heap.size w) (.cells #[.slice none 0 0, .slice none 0 0] 26)).cell (p := ⟨m, 1, none⟩) hm.lt).trans q1
  have u2 : (w.alloc (.cells #[.slice none 0 0, .slice none 0 0] 26)).cell? ⟨b1, o1 + k, none⟩ = some (.int .i64 x) := ((bAlloc (Below.refl w.heap.size w) (.cells #[.slice none 0 0, .slice none 0 0] 26)).cell (p := ⟨b1, o1 + k, none⟩) hb1).trans c1
  clear hC hS hD hx hA hq hg hm hd
  have hE := enters_of Try.func66 (by kernel_rfl) rfl
  go_enter Try.func38, Try.ntmps38
  go_wp2_with fail
  have HU : Hid ((w.alloc (.cells #[.slice none 0 0, .slice none 0 0] 26)).cell? ⟨p, 0, none⟩ = some (.func (.func 66) #[] #[.pointer (some ⟨o, 0, none⟩), .pointer (some ⟨q, 0, none⟩)]) ∧ (w.alloc (.cells #[.slice none 0 0, .slice none 0 0] 26)).cell? ⟨m, 1, none⟩ = some (.slice (some ⟨b1, o1, none⟩) d.length f) ∧ (w.alloc (.cells #[.slice none 0 0, .slice none 0 0] 26)).cell? ⟨b1, o1 + k, none⟩ = some (.int .i64 x)) := ⟨u0, u1, u2⟩
  clear HU
  go_region_with (go_at_call 66; refine (HE.out _ ((bAlloc (Below.refl w.heap.size w) (.cells #[.slice none 0 0, .slice none 0 0] 26)).drew)).mono ?_; rintro r w1 ⟨v1, rfl, ha, hb⟩; obtain ⟨s1, d1, rfl, p1, p2, p3⟩ := ha; obtain ⟨ta, tc, rfl, _⟩ := p1.ints; obtain ⟨da, dc, rfl, _⟩ := p2.ints; have HB1 : Hid (Below w.heap.size w w1) := bTrans ((bAlloc (Below.refl w.heap.size w) (.cells #[.slice none 0 0, .slice none 0 0] 26)).drew) hb; have R1 : Hid (Box w1 w.heap.size (.slice none 0 0) (.slice none 0 0) 26) := (((box_new w _ _ _).keep (Below.refl _ _).drew)).keep hb; have A1 : Hid (Arr (w.heap.size + 1) w1.heap.size w1 (.agg #[.slice ta S.length tc, .slice da D.length dc]) S D) := Arr.mono ⟨_, _, rfl, p1, p2, p3⟩ (by simp) (Nat.le_refl _); have LT : Hid (w.heap.size < w1.heap.size) := R1.out.lt; clear p1 p2 p3 hb; have y0 := R1.out.c0; have y1 := R1.out.c1; have f0 := free_at R1.out 0; have f1 := free_at R1.out 1; have HR : Hid (_ = _) := arr_stored (x' := .slice ta S.length tc) (y' := .slice da D.length dc) R1.out)
  all_goals
    go_wp2
    refine bodyPost_ret (results_arr_tmp Try.results38 _ _ w.heap.size _ _ rfl HR.out) rfl ?_
    refine ⟨_, rfl, ?_, below_setCell (below_setCell HB1.out (by omega) _ _) (by omega) _ _⟩
    have L1 := LT.out
    exact ((A1.out.setCell (by omega) _ _).setCell (by omega) _ _).mono (by omega) (by simp only [size_setCell]; omega)
end Go.Proofs.Ytbmkfmppcojcgaa
