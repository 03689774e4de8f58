/-
  Several texts, one behind the other: ImplOut1, ReduceN, ImplRows1.
-/
import Derived.Test.YtbmkfmppcojcgaaY12
import Derived.Test.YtbmkfmppcojcgaaY22
import Derived.Test.YtbmkfmppcojcgaaY27
import Derived.Test.YtbmkfmppcojcgaaY30
import Derived.Shelf.Abstract
import Derived.RangeFuncNested
import Derived.RangeFuncBound
import Derived.RangeFuncCalls
import Derived.RangeFuncLeaves
import Derived.Shelf.RegionOpen
import Derived.WalkKit
import Derived.OwnWalkIn
import Derived.TacticsInMore
import Derived.LoopNIn
import Derived.LoopIn
import Derived.Test.YtbmkfmppcojcgaaY11
import Derived.Test.YtbmkfmppcojcgaaY3
import Derived.Test.YtbmkfmppcojcgaaY24
namespace Go.Proofs.Ytbmkfmppcojcgaa
open Go.RowKit
set_option linter.unusedVariables false
set_option linter.unusedSimpArgs false
theorem flat_succ (D : Nat → List Int) (k : Nat) : (List.range (k + 1)).flatMap D = (List.range k).flatMap D ++ D k := by
  rw [List.range_succ, List.flatMap_append]; simp
set_option maxRecDepth 20000 in
set_option maxHeartbeats 8000000 in
/-- strung. -/
theorem strung_impl {S : List Int} {n B E : Nat} {C : Nat → Int} {T D : Nat → List Int} {w : World} {a : Option Addr} {c f : Nat} {p q : Value} (hE : ∀ (args : Array Value) (w : World), (callFunc f args).run Try.prog w = .ok (.enter f args) w)
    (hS : Piece B E w (.slice a S.length c) S) (hB : B ≤ w.heap.size) (hEw : E ≤ w.heap.size) (hz : 0 ≤ sizeV S) (hn : n ≤ 90000) (hD : ∀ k, k ≤ n → ((List.range k).flatMap D).length ≤ 100000)
    (hV : ∀ (W : World) (k : Nat), k < n → Below w.heap.size w W → Calls Try.prog f #[.int .i64 (k : Int), p, q] W fun r W' => ∃ v', r = .returned (.tuple #[v', .int .i64 (C k)]) ∧ Arr W.heap.size W'.heap.size W' v' (T k) (D k) ∧ Below W.heap.size W W') :
    Calls Try.prog 37 #[.slice a S.length c, .int .i64 (n : Int), .func (.func f) #[] #[p, q]] w fun r w' => ∃ v', r = .returned (.tuple #[v', .int .i64 (firstC C n)]) ∧ Arr B w'.heap.size w' v' (mkR (firstC C n) S ((List.range n).flatMap D)).2.1 (mkR (firstC C n) S ((List.range n).flatMap D)).2.2 ∧ Below w.heap.size w w' := by
  have HV : Hid (∀ (W : World) (k : Nat), k < n → Below w.heap.size w W → Calls Try.prog f #[.int .i64 (k : Int), p, q] W fun r W' => ∃ v', r = .returned (.tuple #[v', .int .i64 (C k)]) ∧ Arr W.heap.size W'.heap.size W' v' (T k) (D k) ∧ Below W.heap.size W W') := hV
  have HD : Hid (∀ k, k ≤ n → ((List.range k).flatMap D).length ≤ 100000) := hD
  have HS : Hid (Piece B E w (.slice a S.length c) S) := hS
  obtain ⟨m, hm⟩ : ∃ m : Nat, sizeV S = (m : Int) := ⟨(sizeV S).toNat, by omega⟩
  have hm3 : m ≤ 300 := by have := sizeV_bd S; omega
  have HSZ : Hid (∀ W, Below w.heap.size w W → Calls Try.prog 26 #[.slice a S.length c] W fun r w' => r = .returned (.int .i64 (m : Int)) ∧ Below W.heap.size W w') := fun W hb => by
    obtain ⟨q1, q2, q3, q4⟩ := (hS.keep hb).ints
    cases q3
    have qq := size_impl c q4
    rw [hm] at qq
    exact qq
  have HB0 : Hid (B ≤ w.heap.size) := hB
  have HE0 : Hid (E ≤ w.heap.size) := hEw
  clear hV hD hS hm hz hB hEw
  go_enter Try.func37, Try.ntmps37
  go_wp2_with fail
  refine (HSZ.out _ (bAlloc (Below.refl _ _) _)).mono ?_
  rintro r w2 ⟨rfl, hb⟩
  have HB2 : Hid (Below w.heap.size w w2) := bTrans (bAlloc (Below.refl _ _) _) hb
  have R2 : Hid (Box w2 w.heap.size (.slice none 0 0) (.slice none 0 0) 26) := (box_new w _ _ _).keep hb
  have LT : Hid (w.heap.size < w2.heap.size) := R2.out.lt
  clear hb HSZ
  obtain ⟨w3, r3, n3, b3⟩ := make0_ints m (by omega) w2
  have N3 : Hid (NewInts w2.heap.size w3 (.slice (some ⟨w2.heap.size, 0, none⟩) 0 m) []) := n3
  have B3 : Hid (Below w2.heap.size w2 w3) := b3
  clear n3 b3
  go_wp2
  clear r3
  go_loopw [8, 16] (fun v i w' => ∃ (k : Nat), k ≤ n ∧ i = .int .i64 (k : Int) ∧ NewInts w2.heap.size w' v ((List.range k).flatMap D) ∧ firstC C k = 0 ∧ Below w2.heap.size w2 w') (fun _ i _ => n - (intOf i).toNat)
  case atStart => exact ⟨0, by omega, rfl, N3.out, rfl, B3.out⟩
  case round =>
    obtain ⟨k, hk, rfl, hN, hF, hB⟩ := hrel
    have NK : Hid (NewInts w2.heap.size wr _ ((List.range k).flatMap D)) := hN
    have BK : Hid (Below w2.heap.size w2 wr) := hB
    have FK : Hid (firstC C k = 0) := hF
    obtain ⟨a5, c5, rfl, _⟩ := hN.ints
    clear hN hB hF N3 B3
    by_cases hlt : (k : Int) < (n : Int)
    · have L : k < n := by omega
      have HVK : Hid (Calls Try.prog f #[.int .i64 (k : Int), p, q] wr fun r W' => ∃ v', r = .returned (.tuple #[v', .int .i64 (C k)]) ∧ Arr wr.heap.size W'.heap.size W' v' (T k) (D k) ∧ Below wr.heap.size wr W') := HV.out wr k L (bTrans HB2.out BK.out)
      have E1 : Hid (C k = 0 → firstC C (k + 1) = 0) := fun h => firstC_go FK.out h
      have E2 : Hid (C k ≠ 0 → firstC C n = C k) := fun h => firstC_stop FK.out h L
      have LD := HD.out (k + 1) (by omega)
      have EF : Hid ((List.range (k + 1)).flatMap D = (List.range k).flatMap D ++ D k) := flat_succ D k
      rw [EF.out, List.length_append] at LD
      obtain ⟨P, hP⟩ : ∃ P, P = (List.range k).flatMap D := ⟨_, rfl⟩
      rw [← hP] at NK LD EF ⊢
      clear hP
      obtain ⟨dk, hdk⟩ : ∃ dk, dk = D k := ⟨_, rfl⟩
      obtain ⟨tk, htk⟩ : ∃ tk, tk = T k := ⟨_, rfl⟩
      rw [← hdk] at EF LD HVK
      rw [← htk] at HVK
      clear hdk htk
      have LDK : Hid (P.length + dk.length ≤ 100000) := LD
      clear LD
      generalize C k = x at *
      by_cases hx : x = 0
      · subst hx
        have E1' : Hid (firstC C (k + 1) = 0) := E1.out rfl
        clear E1 E2
        go_wp2_with fail
        go_at_fn f
        refine HVK.out.mono ?_
        rintro r w4 ⟨v4, rfl, ha, hb⟩
        obtain ⟨ta, tc, da, dc, rfl, _, i4, _, _⟩ := ha.arrI
        have I4 : Hid (Ints w4 da dk) := i4
        have HB4 : Hid (Below wr.heap.size wr w4) := hb
        clear ha hb i4
        obtain ⟨a7, c7, w7, r7, n7, b7⟩ := growL (NewInts.keep (NewInts.keep NK.out HB4.out) (bAlloc (Below.refl _ _) (.cells #[.slice ta tk.length tc, .slice da dk.length dc] 26))) (I4.out.keep (bAlloc (Below.refl _ _) (.cells #[.slice ta tk.length tc, .slice da dk.length dc] 26))) (by have := BK.out.size; have := HB4.out.size; simp; omega) (by have := LDK.out; omega) dc
        have R7 : Hid (_ = _) := r7
        have N7 : Hid (NewInts w2.heap.size w7 (.slice a7 (P ++ dk).length c7) (P ++ dk)) := n7
        have B7 : Hid (Below w2.heap.size w2 w7) := (bAlloc (bTrans BK.out HB4.out) _).trans b7
        clear r7 n7 b7
        go_wp2_with (at_builtin; refine wpList_append_ty rfl _ _ 24 24 rfl _ _ _ rfl rfl R7.out ?_)
        go_roundw
        case rel => exact ⟨k + 1, by omega, by go_num, by rw [EF.out]; have := N7.out; rw [List.length_append] at this; exact this, E1'.out, B7.out⟩
        case measure => simp [intOf]; omega
      · have E2' : Hid (firstC C n = x) := E2.out hx
        clear E1 E2
        go_wp2_with fail
        go_at_fn f
        refine HVK.out.mono ?_
        rintro r w4 ⟨v4, rfl, ha, hb⟩
        obtain ⟨ta, tc, da, dc, rfl, _, _, _, _⟩ := ha.arrI
        have HB4 : Hid (Below w2.heap.size w2 w4) := bTrans BK.out hb
        have R4 : Hid (Box (w4.alloc (.cells #[.slice ta tk.length tc, .slice da dk.length dc] 26)) w.heap.size (.slice none 0 0) (.slice none 0 0) 26) := ((R2.out.keep HB4.out).keep (bAlloc (Below.refl _ _) _))
        have BW4 : Hid (Below w.heap.size w (w4.alloc (.cells #[.slice ta tk.length tc, .slice da dk.length dc] 26))) := bAlloc (bTrans HB2.out HB4.out) _
        clear ha hb
        have y0 := R4.out.c0
        have y1 := R4.out.c1
        have f0 := free_at R4.out 0
        have f1 := free_at R4.out 1
        have HR : Hid (_ = _) := arr_stored (x' := .slice none 0 0) (y' := .slice none 0 0) R4.out
        have hxx : (x != 0) = true := by simpa using hx
        go_wp2
        refine bodyPost_ret (results_arr_tmp Try.results37 _ _ w.heap.size _ _ rfl HR.out) rfl ?_
        rw [E2'.out, mkR_bad hx]
        exact ⟨_, rfl, arr_zero _ _ _, below_setCell (below_setCell BW4.out (by omega) _ _) (by omega) _ _⟩
    · obtain rfl : k = n := by omega
      have R4 : Hid (Box wr w.heap.size (.slice none 0 0) (.slice none 0 0) 26) := R2.out.keep BK.out
      have BW4 : Hid (Below w.heap.size w wr) := bTrans HB2.out BK.out
      have P4 : Hid (Piece B E wr (.slice a S.length c) S) := HS.out.keep BW4.out
      have N4 : Hid (Piece w2.heap.size wr.heap.size wr (.slice a5 ((List.range k).flatMap D).length c5) ((List.range k).flatMap D)) := NK.out.piece
      clear NK
      generalize ((List.range k).flatMap D).length = q9 at *
      have y0 := R4.out.c0
      have y1 := R4.out.c1
      have f0 := free_at R4.out 0
      have f1 := free_at R4.out 1
      have HR : Hid (_ = _) := arr_stored (x' := .slice a S.length c) (y' := .slice a5 q9 c5) R4.out
      go_wp2
      refine bodyPost_ret (results_arr_tmp Try.results37 _ _ w.heap.size _ _ rfl HR.out) rfl ?_
      rw [FK.out, mkR_good]
      refine ⟨_, rfl, ?_, below_setCell (below_setCell BW4.out (by omega) _ _) (by omega) _ _⟩
      have L1 := LT.out
      have L2 := HE0.out
      have L3 := HB0.out
      have p1' := (P4.out.win (win_setCell wr w.heap.size 0 (.slice a S.length c)) (.inl (by omega))).win (win_setCell _ w.heap.size 1 (.slice a5 q9 c5)) (.inl (by omega))
      have p2' := (N4.out.win (win_setCell wr w.heap.size 0 (.slice a S.length c)) (.inr (by omega))).win (win_setCell _ w.heap.size 1 (.slice a5 q9 c5)) (.inr (by omega))
      have L4 := BW4.out.size
      exact ⟨_, _, rfl, p1'.mono (by omega) (by simp only [size_setCell]; omega), p2'.mono (by omega) (by simp only [size_setCell]; omega), p1'.apart p2' (.inl (by omega))⟩
set_option maxHeartbeats 1000000 in
/-- spreading: its closure, and what it holds. -/
theorem spreading_impl (g : Int) (x y : Value) (w : World) :
    Calls Try.prog 36 #[.int .i64 g, .agg #[x, y]] w fun r w' => r = .returned (.func (.func 66) #[] #[.pointer (some ⟨w.heap.size, 0, none⟩), .pointer (some ⟨w.heap.size + 1, 0, none⟩)]) ∧ w'.cell? ⟨w.heap.size, 0, none⟩ = some (.int .i64 g) ∧ Box w' (w.heap.size + 1) x y 26 ∧ Below w.heap.size w w' ∧ w.heap.size + 2 ≤ w'.heap.size := by
  go_enter Try.func36, Try.ntmps36
  go_wp2
  go_ret
  refine ⟨rfl, ?_, box_new2 w _ _ _ _, bAlloc (bAlloc (Below.refl _ _) _) _, by simp⟩
  exact cell_at (heap_alloc2_old w _ _) rfl
set_option maxRecDepth 20000 in
set_option maxHeartbeats 2000000 in
/-- spreading's closure. -/
theorem spread1_impl {g x : Int} {t e : List Int} {w : World} {o q : Nat} {z z' : Value} (hg : w.cell? ⟨o, 0, none⟩ = some (.int .i64 g)) (ho : o < w.heap.size) (hq : Box w q z z' 26) (k : ArrI w (.agg #[z, z']) t e) (ht : t.length ≤ 1048576) (he : e.length ≤ 1048576) :
    Calls Try.prog 66 #[.int .i64 x, .pointer (some ⟨o, 0, none⟩), .pointer (some ⟨q, 0, none⟩)] w fun r w' => ∃ v', r = .returned (.tuple #[v', .int .i64 (eachTwoC g [] [x] t e)]) ∧ Arr w.heap.size w'.heap.size w' v' (eachTwoS g [] [x] t e) (eachTwoD g [] [x] t e) ∧ Below w.heap.size w w' := by
  have HE : Hid (∀ W o', Below w.heap.size w W → Ints W (some ⟨o', 0, none⟩) [x] → Calls Try.prog 67 #[.int .i64 g, .agg #[.slice none 0 0, .slice (some ⟨o', 0, none⟩) 1 1], .agg #[z, z']] W fun r w' => ∃ v', r = .returned (.tuple #[v', .int .i64 (eachTwoC g [] [x] t e)]) ∧ Arr W.heap.size w'.heap.size w' v' (eachTwoS g [] [x] t e) (eachTwoD g [] [x] t e) ∧ Below W.heap.size W w') := fun W o' hb hi => eachTwo_impl ⟨none, 0, _, 1, rfl, .inl rfl, hi, Nat.le_refl _, Nat.le_refl _⟩ (k.keep hb) (by simp) (by simp) ht he
  obtain ⟨C, hC⟩ : ∃ C, C = eachTwoC g [] [x] t e := ⟨_, rfl⟩
  obtain ⟨S, hS⟩ : ∃ S, S = eachTwoS g [] [x] t e := ⟨_, rfl⟩
  obtain ⟨D, hD⟩ : ∃ D, D = eachTwoD g [] [x] t e := ⟨_, rfl⟩
  rw [← hC, ← hS, ← hD] at HE
  rw [← hC, ← hS, ← hD]
  have q0 := hq.c0
  have q1 := hq.c1
  have HQ : Hid (q < w.heap.size) := hq.lt
  have u0 : (w.alloc (.cells #[.slice none 0 0, .slice none 0 0] 26)).cell? ⟨o, 0, none⟩ = some (.int .i64 g) := ((bAlloc (Below.refl w.heap.size w) (.cells #[.slice none 0 0, .slice none 0 0] 26)).cell (p := ⟨o, 0, none⟩) ho).trans hg
  have u1 : ((w.alloc (.cells #[.slice none 0 0, .slice none 0 0] 26)).alloc (.cells #[.int .i64 x] 3)).cell? ⟨q, 0, none⟩ = some z := ((bAlloc (bAlloc (Below.refl w.heap.size w) (.cells #[.slice none 0 0, .slice none 0 0] 26)) (.cells #[.int .i64 x] 3)).cell (p := ⟨q, 0, none⟩) hq.lt).trans q0
  have u2 : ((w.alloc (.cells #[.slice none 0 0, .slice none 0 0] 26)).alloc (.cells #[.int .i64 x] 3)).cell? ⟨q, 1, none⟩ = some z' := ((bAlloc (bAlloc (Below.refl w.heap.size w) (.cells #[.slice none 0 0, .slice none 0 0] 26)) (.cells #[.int .i64 x] 3)).cell (p := ⟨q, 1, none⟩) hq.lt).trans q1
  have i1 : Ints ((w.alloc (.cells #[.slice none 0 0, .slice none 0 0] 26)).alloc (.cells #[.int .i64 x] 3)) (some ⟨w.heap.size + 1, 0, none⟩) [x] := by
    have q := ints_new (w.alloc (.cells #[.slice none 0 0, .slice none 0 0] 26)) [x] 3
    rw [show (w.alloc (.cells #[.slice none 0 0, .slice none 0 0] 26)).heap.size = w.heap.size + 1 by simp] at q
    exact q
  have II : Hid (_) := i1
  clear hC hS hD k hq i1
  go_enter Try.func66, Try.ntmps66
  go_wp2_with fail
  refine (HE.out _ _ (bAlloc (bAlloc (Below.refl _ _) _) _) II.out).mono ?_
  rintro r w1 ⟨v1, rfl, ha, hb⟩
  obtain ⟨s1, d1, rfl, p1, p2, p3⟩ := ha
  obtain ⟨ta, tc, rfl, _⟩ := p1.ints
  obtain ⟨da, dc, rfl, _⟩ := p2.ints
  have HB1 : Hid (Below w.heap.size w w1) := bTrans (bAlloc (bAlloc (Below.refl _ _) _) _) hb
  have R1 : Hid (Box w1 w.heap.size (.slice none 0 0) (.slice none 0 0) 26) := (((box_new w _ _ _).keep (bAlloc (Below.refl _ _) _))).keep hb
  have A1 : Hid (Arr (w.heap.size + 1) w1.heap.size w1 (.agg #[.slice ta S.length tc, .slice da D.length dc]) S D) := Arr.mono ⟨_, _, rfl, p1, p2, p3⟩ (by simp) (Nat.le_refl _)
  have LT : Hid (w.heap.size < w1.heap.size) := R1.out.lt
  clear p1 p2 p3 hb HE q0 q1 hg u0 u1 u2
  have y0 := R1.out.c0
  have y1 := R1.out.c1
  have f0 := free_at R1.out 0
  have f1 := free_at R1.out 1
  have HR : Hid (_ = _) := arr_stored (x' := .slice ta S.length tc) (y' := .slice da D.length dc) R1.out
  go_wp2
  refine bodyPost_ret (results_arr_tmp Try.results66 _ _ w.heap.size _ _ rfl HR.out) rfl ?_
  refine ⟨_, rfl, ?_, below_setCell (below_setCell HB1.out (by omega) _ _) (by omega) _ _⟩
  have L1 := LT.out
  exact ((A1.out.setCell (by omega) _ _).setCell (by omega) _ _).mono (by omega) (by simp only [size_setCell]; omega)
set_option maxRecDepth 20000 in
set_option maxHeartbeats 2000000 in
/-- Outer's closure. -/
theorem outer1_impl {g : Int} {d t e : List Int} {w : World} {o q p m k : Nat} {z z' y : Value} {b : Option Addr} {f : Nat} (hw : w.cell? ⟨p, 0, none⟩ = some (.func (.func 66) #[] #[.pointer (some ⟨o, 0, none⟩), .pointer (some ⟨q, 0, none⟩)])) (hm : Box w m y (.slice b d.length f) 26) (hd : Ints w b d) (hp : p < w.heap.size) (hk : k < d.length) (hd3 : d.length ≤ 300)
    (hg : w.cell? ⟨o, 0, none⟩ = some (.int .i64 g)) (ho : o < w.heap.size) (hq : Box w q z z' 26) (hA : ArrI w (.agg #[z, z']) t e) (ht : t.length ≤ 1048576) (he : e.length ≤ 1048576) :
    Calls Try.prog 38 #[.int .i64 (k : Int), .pointer (some ⟨p, 0, none⟩), .pointer (some ⟨m, 0, none⟩)] w fun r w' => ∃ v', r = .returned (.tuple #[v', .int .i64 (eachTwoC g [] [d.getD k 0] t e)]) ∧ Arr w.heap.size w'.heap.size w' v' (eachTwoS g [] [d.getD k 0] t e) (eachTwoD g [] [d.getD k 0] t e) ∧ Below w.heap.size w w' := by
  obtain ⟨x, hx⟩ : ∃ x, x = d.getD k 0 := ⟨_, rfl⟩
  obtain ⟨b1, o1, rfl, hb1, c1⟩ := hd.at hk
  rw [← hx] at c1 ⊢
  have HE : Hid (∀ W, Below w.heap.size w W → Calls Try.prog 66 #[.int .i64 x, .pointer (some ⟨o, 0, none⟩), .pointer (some ⟨q, 0, none⟩)] W fun r w' => ∃ v', r = .returned (.tuple #[v', .int .i64 (eachTwoC g [] [x] t e)]) ∧ Arr W.heap.size w'.heap.size w' v' (eachTwoS g [] [x] t e) (eachTwoD g [] [x] t e) ∧ Below W.heap.size W w') := fun W hb => spread1_impl ((hb.cell (p := ⟨o, 0, none⟩) ho).trans hg) (Nat.lt_of_lt_of_le ho hb.size) (hq.keep hb) (hA.keep hb) ht he
  obtain ⟨C, hC⟩ : ∃ C, C = eachTwoC g [] [x] t e := ⟨_, rfl⟩
  obtain ⟨S, hS⟩ : ∃ S, S = eachTwoS g [] [x] t e := ⟨_, rfl⟩
  obtain ⟨D, hD⟩ : ∃ D, D = eachTwoD g [] [x] t e := ⟨_, rfl⟩
  rw [← hC, ← hS, ← hD] at HE
  rw [← hC, ← hS, ← hD]
  have q1 := hm.c1
  have hki : (k : Int) < (d.length : Int) := by omega
  have lw : p < w.heap.size := hp
  have u0 : (w.alloc (.cells #[.slice none 0 0, .slice none 0 0] 26)).cell? ⟨p, 0, none⟩ = some (.func (.func 66) #[] #[.pointer (some ⟨o, 0, none⟩), .pointer (some ⟨q, 0, none⟩)]) := ((bAlloc (Below.refl w.heap.size w) (.cells #[.slice none 0 0, .slice none 0 0] 26)).cell (p := ⟨p, 0, none⟩) lw).trans hw
  have u1 : (w.alloc (.cells #[.slice none 0 0, .slice none 0 0] 26)).cell? ⟨m, 1, none⟩ = some (.slice (some ⟨b1, o1, none⟩) d.length f) := ((bAlloc (Below.refl w.heap.size w) (.cells #[.slice none 0 0, .slice none 0 0] 26)).cell (p := ⟨m, 1, none⟩) hm.lt).trans q1
  have u2 : (w.alloc (.cells #[.slice none 0 0, .slice none 0 0] 26)).cell? ⟨b1, o1 + k, none⟩ = some (.int .i64 x) := ((bAlloc (Below.refl w.heap.size w) (.cells #[.slice none 0 0, .slice none 0 0] 26)).cell (p := ⟨b1, o1 + k, none⟩) hb1).trans c1
  clear hC hS hD hx hA hq hg hm hd
  have hE := enters_of Try.func66 (by kernel_rfl) rfl
  go_enter Try.func38, Try.ntmps38
  go_wp2_with fail
  have HU : Hid ((w.alloc (.cells #[.slice none 0 0, .slice none 0 0] 26)).cell? ⟨p, 0, none⟩ = some (.func (.func 66) #[] #[.pointer (some ⟨o, 0, none⟩), .pointer (some ⟨q, 0, none⟩)]) ∧ (w.alloc (.cells #[.slice none 0 0, .slice none 0 0] 26)).cell? ⟨m, 1, none⟩ = some (.slice (some ⟨b1, o1, none⟩) d.length f) ∧ (w.alloc (.cells #[.slice none 0 0, .slice none 0 0] 26)).cell? ⟨b1, o1 + k, none⟩ = some (.int .i64 x)) := ⟨u0, u1, u2⟩
  clear HU
  go_region_with (go_at_call 66; refine (HE.out _ ((bAlloc (Below.refl w.heap.size w) (.cells #[.slice none 0 0, .slice none 0 0] 26)).drew)).mono ?_; rintro r w1 ⟨v1, rfl, ha, hb⟩; obtain ⟨s1, d1, rfl, p1, p2, p3⟩ := ha; obtain ⟨ta, tc, rfl, _⟩ := p1.ints; obtain ⟨da, dc, rfl, _⟩ := p2.ints; have HB1 : Hid (Below w.heap.size w w1) := bTrans ((bAlloc (Below.refl w.heap.size w) (.cells #[.slice none 0 0, .slice none 0 0] 26)).drew) hb; have R1 : Hid (Box w1 w.heap.size (.slice none 0 0) (.slice none 0 0) 26) := (((box_new w _ _ _).keep (Below.refl _ _).drew)).keep hb; have A1 : Hid (Arr (w.heap.size + 1) w1.heap.size w1 (.agg #[.slice ta S.length tc, .slice da D.length dc]) S D) := Arr.mono ⟨_, _, rfl, p1, p2, p3⟩ (by simp) (Nat.le_refl _); have LT : Hid (w.heap.size < w1.heap.size) := R1.out.lt; clear p1 p2 p3 hb; have y0 := R1.out.c0; have y1 := R1.out.c1; have f0 := free_at R1.out 0; have f1 := free_at R1.out 1; have HR : Hid (_ = _) := arr_stored (x' := .slice ta S.length tc) (y' := .slice da D.length dc) R1.out)
  all_goals
    go_wp2
    refine bodyPost_ret (results_arr_tmp Try.results38 _ _ w.heap.size _ _ rfl HR.out) rfl ?_
    refine ⟨_, rfl, ?_, below_setCell (below_setCell HB1.out (by omega) _ _) (by omega) _ _⟩
    have L1 := LT.out
    exact ((A1.out.setCell (by omega) _ _).setCell (by omega) _ _).mono (by omega) (by simp only [size_setCell]; omega)
end Go.Proofs.Ytbmkfmppcojcgaa
namespace Go.Proofs.Ytbmkfmppcojcgaa
set_option linter.unusedVariables false
/-- From the last row on, by those that were told. -/
def accR (g : Int) (t : List Int) (R : List (List Int)) (m : Nat) (pre : List (Fin m)) : Int × List Int :=
  pre.foldl (fun acc x => if acc.1 = 0 then (eachTwoC g t (R.getD (m - 1 - x.1) []) t acc.2, eachTwoD g t (R.getD (m - 1 - x.1) []) t acc.2) else acc) (0, R.getD m [])
theorem accR_nil (g : Int) (t : List Int) (R : List (List Int)) (m : Nat) : accR g t R m [] = (0, R.getD m []) := rfl
theorem accR_snoc {g : Int} {t : List Int} {R : List (List Int)} {m : Nat} {pre : List (Fin m)} {D : List Int} (x : Fin m) (h : accR g t R m pre = (0, D)) : accR g t R m (pre ++ [x]) = (eachTwoC g t (R.getD (m - 1 - x.1) []) t D, eachTwoD g t (R.getD (m - 1 - x.1) []) t D) := by
  have h' := h
  unfold accR at h' ⊢
  rw [List.foldl_append, h']
  rfl
theorem accR_stop {g : Int} {t : List Int} {R : List (List Int)} {m : Nat} {pre : List (Fin m)} (x : Fin m) (h : (accR g t R m pre).1 ≠ 0) : accR g t R m (pre ++ [x]) = accR g t R m pre := by
  have h' := h
  unfold accR at h' ⊢
  rw [List.foldl_append, List.foldl_cons, List.foldl_nil, if_neg h']
theorem accR_to {g : Int} {t : List Int} {R : List (List Int)} {m : Nat} (hR : R.length = m + 1) : ∀ k, k ≤ m → accR g t R m ((List.finRange m).take k) = redL g t (R.drop (m - k)) := by
  intro k
  induction k with
  | zero =>
    intro _
    rw [List.take_zero, accR_nil, Nat.sub_zero, drop_at (by omega), List.drop_eq_nil_of_le (by omega), redL_one]
  | succ k ih =>
    intro hk
    have q := ih (by omega)
    have e : (List.finRange m).take (k + 1) = (List.finRange m).take k ++ [⟨k, by omega⟩] := by
      rw [List.take_succ_eq_append_getElem (by rw [List.length_finRange]; omega)]
      simp
    rw [e, drop_at (R := R) (i := m - (k + 1)) (by omega), show m - (k + 1) + 1 = m - k by omega]
    by_cases h0 : (redL g t (R.drop (m - k))).1 = 0
    · have h1 : accR g t R m ((List.finRange m).take k) = (0, (redL g t (R.drop (m - k))).2) := by rw [q]; exact Prod.ext h0 rfl
      rw [accR_snoc _ h1, redL_cons (by intro e; have := congrArg List.length e; rw [List.length_drop, List.length_nil] at this; omega) h0]
      simp only []
      rw [show m - 1 - k = m - (k + 1) by omega]
    · rw [accR_stop _ (by rw [q]; exact h0), q, redL_stop h0]
      exact Prod.ext rfl (redL_none h0)
theorem accR_len {g : Int} {t : List Int} {R : List (List Int)} {m : Nat} (h : (R.getD m []).length ≤ 300) (pre : List (Fin m)) : (accR g t R m pre).2.length ≤ 300 := by
  unfold accR
  have key : ∀ (pre : List (Fin m)) (acc : Int × List Int), acc.2.length ≤ 300 → (pre.foldl (fun acc x => if acc.1 = 0 then (eachTwoC g t (R.getD (m - 1 - x.1) []) t acc.2, eachTwoD g t (R.getD (m - 1 - x.1) []) t acc.2) else acc) acc).2.length ≤ 300 := by
    intro pre
    induction pre with
    | nil => intro acc ha; exact ha
    | cons x xs ih =>
      intro acc ha
      rw [List.foldl_cons]
      apply ih
      split
      · exact eachTwoD_len _ _ _ _ _
      · exact ha
  exact key pre _ h
end Go.Proofs.Ytbmkfmppcojcgaa
namespace Go.Proofs.Ytbmkfmppcojcgaa
open Go.RowKit Go.Shelf
set_option linter.unusedVariables false
set_option linter.unusedSimpArgs false
attribute [local go_sem] Oper.semAt_some
theorem wrapJ {a : Int} (h0 : 0 ≤ a) (h1 : a ≤ 1099511627776) : IntKind.i64.wrap a = a := by rw [IntKind.wrap_i64]; omega
/-- The first k numbers. -/
def upto (cnt k : Nat) : List (Fin cnt) := (List.finRange cnt).take k
theorem upto_succ {cnt k : Nat} (h : k < cnt) : upto cnt (k + 1) = upto cnt k ++ [⟨k, h⟩] := by
  unfold upto
  rw [List.take_succ_eq_append_getElem (by simpa using h)]
  simp
theorem upto_length {cnt k : Nat} (h : k ≤ cnt) : (upto cnt k).length = k := by simp [upto, h]
theorem upto_all (cnt : Nat) : upto cnt cnt = List.finRange cnt := by unfold upto; exact List.take_of_length_le (by simp)
/-- What a round keeps: the box of the array that is cut. -/
def KeepsBox (q : Nat) (W W' : World) : Prop := W'.heap[q]? = W.heap[q]?
theorem keepsBox_t {q : Nat} {A B C : World} (h : KeepsBox q A B) (k : KeepsBox q B C) : KeepsBox q A C := Eq.trans k h
theorem keepsBox_b {q : Nat} {w : World} (hq : q < w.heap.size) (W : World) (l : Nat) (o o' : Obj) (hl : w.heap.size ≤ l) (_ : W.heap[l]? = some o) (_ : o.isCells = false) (_ : o.isWalk = false) : KeepsBox q W (W.putObj l o') :=
  World.putObj_heap_other (by omega)
set_option maxRecDepth 100000 in
set_option maxHeartbeats 4000000 in
theorem cut_in (n l q cnt N r b1 o1 c dl e ct : Nat) (tl b : Option Addr) (ad : Nat → Option Addr) (cd : Nat → Nat) (hn : 1 ≤ n) (hc : cnt ≤ 300) (hN : N ≤ 300) (hr : r ≤ 3)
    (hq : 0 < cnt → (dl : Int) / (cnt : Int) = N)
    (hs1 : ∀ W, (Instr.slice 24 (.slice (some ⟨b1, o1, none⟩) (r + 1) c) (some (.int .i64 1)) (some (.int .i64 ((r : Int) + 1))) (some (.int .i64 ((r : Int) + 1)))).run Try.prog W = .ok (.slice tl r ct) W)
    (hs2 : ∀ (k M R : Nat) W, k < cnt → k * N = M → (k + 1) * N = R → (Instr.slice 24 (.slice b dl e) (some (.int .i64 (M : Int))) (some (.int .i64 (R : Int))) (some (.int .i64 (R : Int)))).run Try.prog W = .ok (.slice (ad k) N (cd k)) W)
    (J Jx : List (Fin cnt) → World → Prop)
    (hY : ∀ pre x W, J pre W → pre.length < cnt → YieldAt Fence.wide (n - 1) Try.prog l #[.agg #[.slice tl r ct, .slice (ad x.1) N (cd x.1)]] W fun e W' =>
      (e = .returned (.bool true) ∧ J (pre ++ [x]) W' ∧ KeepsBox q W W') ∨ (e = .returned (.bool false) ∧ Jx (pre ++ [x]) W'))
    (W : World) (hJ : AbidesFrom W.heap.size J) (hB : Box W q (.slice (some ⟨b1, o1, none⟩) (r + 1) c) (.slice b dl e) 26) (h0 : W.cell? ⟨b1, o1, none⟩ = some (.int .i64 (cnt : Int))) (hj : J [] W) :
    CallsIn Fence.wide n Try.prog 88 #[.func (.yield l) #[] #[], .pointer (some ⟨q, 0, none⟩)] W fun e W' => (∃ v, e = .returned v) ∧
      ((∃ ys, ys = List.finRange cnt ∧ J ys W') ∨ (∃ pre, True ∧ Jx pre W')) := by
  have HB : Hid (Box W q (.slice (some ⟨b1, o1, none⟩) (r + 1) c) (.slice b dl e) 26) := hB
  have x0 := hB.c0
  have x1 := hB.c1
  clear hB
  refine callsIn_of_wp Try.func88 rfl trivial ?_ rfl
  simp only [Try.ntmps88, List.size_toArray, List.length_cons, List.length_nil, Nat.reduceAdd, Nat.reduceSub, Array.replicate_succ, Array.replicate_zero, List.push_toArray, List.append_toArray, List.nil_append, List.cons_append]
  gi_wp2
  gi_region
  gi_wp2
  have HQ : Hid (0 < cnt → (dl : Int) / (cnt : Int) = N) := hq
  have HS2 : Hid (∀ (k M R : Nat) W, k < cnt → k * N = M → (k + 1) * N = R → (Instr.slice 24 (.slice b dl e) (some (.int .i64 (M : Int))) (some (.int .i64 (R : Int))) (some (.int .i64 (R : Int)))).run Try.prog W = .ok (.slice (ad k) N (cd k)) W) := hs2
  have HJ : Hid (AbidesFrom W.heap.size J) := hJ
  clear hq hs2 x0 x1 hJ
  gi_loopw [18] (fun i wr => ∃ k : Nat, k ≤ cnt ∧ i = .int .i64 k ∧ J (upto cnt k) wr ∧ KeepsBox q W wr)
    (fun i _ => cnt - (intOf i).toNat)
  case atStart => exact ⟨0, by omega, rfl, HJ.out _ _ _ none hj ⟨rfl, rfl, rfl, Nat.le_refl _, fun _ _ _ => rfl⟩ (fun r e => by cases e), rfl⟩
  case round =>
    obtain ⟨k, hk, rfl, hJs, hnx⟩ := hrel
    have X : Hid (Box wr q (.slice (some ⟨b1, o1, none⟩) (r + 1) c) (.slice b dl e) 26) := by
      have := HB.out; unfold Box at this; show wr.heap[q]? = _; rw [show wr.heap[q]? = W.heap[q]? from hnx]; exact this
    by_cases hlt : (k : Int) < (cnt : Int)
    · obtain ⟨M, hM⟩ : ∃ M : Nat, k * N = M := ⟨_, rfl⟩
      obtain ⟨R, hR⟩ : ∃ R : Nat, (k + 1) * N = R := ⟨_, rfl⟩
      have hs2 := fun W => HS2.out k M R W (by omega) hM hR
      have hR1 : R ≤ 90000 := by
        have h1 : (k + 1) * N ≤ 300 * 300 := Nat.mul_le_mul (by omega) hN
        omega
      have hM1 : M ≤ 90000 := by
        have h1 : k * N ≤ 300 * 300 := Nat.mul_le_mul (by omega) hN
        omega
      have eM : (k : Int) * (N : Int) = (M : Int) := by rw [← hM]; simp
      have eR : ((k : Int) + 1) * (N : Int) = (R : Int) := by rw [← hR]; simp
      have hwM : IntKind.i64.wrap (M : Int) = (M : Int) := wrapJ (by omega) (by omega)
      have hwR : IntKind.i64.wrap (R : Int) = (R : Int) := wrapJ (by omega) (by omega)
      have hdv : (dl : Int) / (cnt : Int) = N := HQ.out (by omega)
      have hpos : (0 : Int) < (cnt : Int) := by omega
      have HL : Hid (k < cnt) := by show _ < _; omega
      have x0 := X.out.c0
      have x1 := X.out.c1
      have HJS : Hid (J (upto cnt k) wr) := hJs
      have HNX : Hid (KeepsBox q W wr) := hnx
      clear hM hR hJs hnx
      have d0 : ∀ O : Obj, (wr.alloc O).drew.cell? ⟨q, 0, none⟩ = some (.slice (some ⟨b1, o1, none⟩) (r + 1) c) := fun O => (X.out.keep (bAlloc (Below.refl _ _) O)).c0
      have d1 : ∀ O : Obj, (wr.alloc O).drew.cell? ⟨q, 1, none⟩ = some (.slice b dl e) := fun O => (X.out.keep (bAlloc (Below.refl _ _) O)).c1
      gi_wp2
      gi_region
      generalize hW3 : (wr.alloc (.cells #[.slice tl r ct, .slice (ad k) N (cd k)] 26)).drew = W3
      have hJ3 : J (upto cnt k) W3 := by
        rw [← hW3]
        exact HJ.out _ _ _ none HJS.out ⟨rfl, rfl, rfl, by show wr.heap.size ≤ (wr.alloc _).heap.size; simp, fun j hj _ => Below.heap_alloc _ _ _ hj⟩ (fun r e => by cases e)
      have y0 : W3.cell? ⟨wr.heap.size, 0, none⟩ = some (.slice tl r ct) := by rw [← hW3]; exact cell_newA _ _ _ rfl
      have y1 : W3.cell? ⟨wr.heap.size, 1, none⟩ = some (.slice (ad k) N (cd k)) := by rw [← hW3]; exact cell_newA _ _ _ rfl
      have HK3 : Hid (KeepsBox q W W3) := keepsBox_t HNX.out (by rw [← hW3]; exact Below.heap_alloc _ _ _ X.out.lt)
      clear hW3 d0 d1
      obtain ⟨fn, tmps, assign, body, hy, hRd⟩ := hY (upto cnt k) ⟨k, HL.out⟩ W3 hJ3 (by rw [upto_length hk]; exact HL.out)
      dsimp only at hy
      clear hY
      gi_wp2
      refine hRd.mono ?_
      rintro e' W4 (⟨rfl, hJ4, hk4⟩ | ⟨rfl, hJx4⟩)
      · have HJ4 : Hid (J (upto cnt (k + 1)) W4) := by show J _ _; rw [upto_succ HL.out]; exact hJ4
        have HK4 : Hid (KeepsBox q W W4) := keepsBox_t HK3.out hk4
        clear hJ4 hk4
        gi_wp2
        go_roundw
        case rel => exact ⟨k + 1, by have := HL.out; omega, by go_num, HJ4.out, HK4.out⟩
        case measure => simp [intOf]; omega
      · gi_wp2
        refine bodyPost_ret (results_none rfl _ _ _) rfl ?_
        exact ⟨⟨_, rfl⟩, .inr ⟨_, trivial, hJx4⟩⟩
    · obtain rfl : k = cnt := by omega
      rw [upto_all] at hJs
      gi_wp2
      go_end0
      first
        | exact ⟨⟨_, rfl⟩, .inl ⟨_, rfl, hJs⟩⟩
        | exact ⟨⟨_, rfl⟩, .inl hJs⟩
/-- cutRows: the array is boxed; the function value captures the box. -/
theorem cutRows_in (n : Nat) (x y : Value) (w : World) (hx : x.oneCell' = true) (hy : y.oneCell' = true) :
    CallsIn Fence.wide n Try.prog 73 #[.agg #[x, y]] w fun e w' => e = .returned (.func (.func 88) #[] #[.pointer (some ⟨w.heap.size, 0, none⟩)]) ∧ w' = w.alloc (.cells #[x, y] 26) := by
  refine callsIn_of_wp Try.func73 rfl trivial ?_ rfl
  simp only [Try.ntmps73, List.size_toArray, List.length_cons, List.length_nil, Nat.reduceAdd, Nat.reduceSub, Array.replicate_succ, Array.replicate_zero, List.push_toArray, List.append_toArray, List.nil_append, List.cons_append]
  gi_wp2
  go_ret
  exact ⟨rfl, rfl⟩
/-- The value that cutRows hands back tells the rows in order. -/
theorem cut_stops (n q cnt N r b1 o1 c dl e ct : Nat) (tl b : Option Addr) (ad : Nat → Option Addr) (cd : Nat → Nat) (hn : 1 ≤ n) (hc : cnt ≤ 300) (hN : N ≤ 300) (hr : r ≤ 3)
    (hq : 0 < cnt → (dl : Int) / (cnt : Int) = N)
    (hs1 : ∀ W, (Instr.slice 24 (.slice (some ⟨b1, o1, none⟩) (r + 1) c) (some (.int .i64 1)) (some (.int .i64 ((r : Int) + 1))) (some (.int .i64 ((r : Int) + 1)))).run Try.prog W = .ok (.slice tl r ct) W)
    (hs2 : ∀ (k M R : Nat) W, k < cnt → k * N = M → (k + 1) * N = R → (Instr.slice 24 (.slice b dl e) (some (.int .i64 (M : Int))) (some (.int .i64 (R : Int))) (some (.int .i64 (R : Int)))).run Try.prog W = .ok (.slice (ad k) N (cd k)) W)
    (w : World) (hb1 : b1 < w.heap.size) (hB : Box w q (.slice (some ⟨b1, o1, none⟩) (r + 1) c) (.slice b dl e) 26) (h0 : w.cell? ⟨b1, o1, none⟩ = some (.int .i64 (cnt : Int))) :
    SeqStopsK Fence.wide n Try.prog 88 #[.pointer (some ⟨q, 0, none⟩)] (fun x : Fin cnt => #[.agg #[.slice tl r ct, .slice (ad x.1) N (cd x.1)]]) (KeepsBox q) (fun ys => ys = List.finRange cnt) (fun _ => True) cnt w := fun l J Jx W hW hJ _ hY hj =>
  cut_in n l q cnt N r b1 o1 c dl e ct tl b ad cd hn hc hN hr hq hs1 hs2 J Jx hY W hJ (hB.keep hW) ((hW.cell (p := ⟨b1, o1, none⟩) hb1).trans h0) hj
end Go.Proofs.Ytbmkfmppcojcgaa
