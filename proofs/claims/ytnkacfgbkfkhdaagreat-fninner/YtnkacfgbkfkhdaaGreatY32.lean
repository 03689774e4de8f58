/-
  Several texts, one behind the other: ImplVecs, Pair5, ImplMake4.
-/
import Derived.Test.YtnkacfgbkfkhdaaGreatY24
import Derived.Test.YtnkacfgbkfkhdaaGreatY28
import Derived.Test.YtnkacfgbkfkhdaaGreatY31
import Derived.Test.YtnkacfgbkfkhdaaGreatY18
namespace Go.Proofs.YtnkacfgbkfkhdaaGreat
open Go.RowKit Go.Shelf
set_option linter.unusedVariables false
set_option linter.unusedSimpArgs false
set_option maxRecDepth 20000 in
set_option maxHeartbeats 8000000 in
/-- strung, for whatever closure of three variables. -/
theorem strung3_impl {S : List Int} {n B E : Nat} {C : Nat → Int} {T D : Nat → List Int} {w : World} {a : Option Addr} {c f : Nat} {p q p9 : Value} (hE : ∀ (args : Array Value) (w : World), (callFunc f args).run Tryz.prog w = .ok (.enter f args) w)
    (hS : Piece B E w (.slice a S.length c) S) (hB : B ≤ w.heap.size) (hEw : E ≤ w.heap.size) (hz : 0 ≤ sizeV S) (hn : n ≤ 90000) (hD : ∀ k, k ≤ n → ((List.range k).flatMap D).length ≤ 100000)
    (hV : ∀ (W : World) (k : Nat), k < n → Below w.heap.size w W → Calls Tryz.prog f #[.int .i64 (k : Int), p, q, p9] W fun r W' => ∃ v', r = .returned (.tuple #[v', .int .i64 (C k)]) ∧ Arr W.heap.size W'.heap.size W' v' (T k) (D k) ∧ Below W.heap.size W W') :
    Calls Tryz.prog 26 #[.slice a S.length c, .int .i64 (n : Int), .func (.func f) #[] #[p, q, p9]] w fun r w' => ∃ v', r = .returned (.tuple #[v', .int .i64 (firstC C n)]) ∧ Arr B w'.heap.size w' v' (mkR (firstC C n) S ((List.range n).flatMap D)).2.1 (mkR (firstC C n) S ((List.range n).flatMap D)).2.2 ∧ Below w.heap.size w w' := by
  have HV : Hid (∀ (W : World) (k : Nat), k < n → Below w.heap.size w W → Calls Tryz.prog f #[.int .i64 (k : Int), p, q, p9] W fun r W' => ∃ v', r = .returned (.tuple #[v', .int .i64 (C k)]) ∧ Arr W.heap.size W'.heap.size W' v' (T k) (D k) ∧ Below W.heap.size W W') := hV
  have HD : Hid (∀ k, k ≤ n → ((List.range k).flatMap D).length ≤ 100000) := hD
  have HS : Hid (Piece B E w (.slice a S.length c) S) := hS
  obtain ⟨m, hm⟩ : ∃ m : Nat, sizeV S = (m : Int) := ⟨(sizeV S).toNat, by omega⟩
  have hm3 : m ≤ 300 := by have := sizeV_bd S; omega
  have HSZ : Hid (∀ W, Below w.heap.size w W → Calls Tryz.prog 41 #[.slice a S.length c] W fun r w' => r = .returned (.int .i64 (m : Int)) ∧ Below W.heap.size W w') := fun W hb => by
    obtain ⟨q1, q2, q3, q4⟩ := (hS.keep hb).ints
    cases q3
    have qq := size_impl c q4
    rw [hm] at qq
    exact qq
  have HB0 : Hid (B ≤ w.heap.size) := hB
  have HE0 : Hid (E ≤ w.heap.size) := hEw
  clear hV hD hS hm hz hB hEw
  go_enter Tryz.func26, Tryz.ntmps26
  go_wp2_with fail
  refine (HSZ.out _ (bAlloc (Below.refl _ _) _)).mono ?_
  rintro r w2 ⟨rfl, hb⟩
  have HB2 : Hid (Below w.heap.size w w2) := bTrans (bAlloc (Below.refl _ _) _) hb
  have R2 : Hid (Box w2 w.heap.size (.slice none 0 0) (.slice none 0 0) 26) := (box_new w _ _ _).keep hb
  have LT : Hid (w.heap.size < w2.heap.size) := R2.out.lt
  clear hb HSZ
  obtain ⟨w3, r3, n3, b3⟩ := make0_ints m (by omega) w2
  have N3 : Hid (NewInts w2.heap.size w3 (.slice (some ⟨w2.heap.size, 0, none⟩) 0 m) []) := n3
  have B3 : Hid (Below w2.heap.size w2 w3) := b3
  clear n3 b3
  go_wp2
  clear r3
  go_loopw [8, 16] (fun v i w' => ∃ (k : Nat), k ≤ n ∧ i = .int .i64 (k : Int) ∧ NewInts w2.heap.size w' v ((List.range k).flatMap D) ∧ firstC C k = 0 ∧ Below w2.heap.size w2 w') (fun _ i _ => n - (intOf i).toNat)
  case atStart => exact ⟨0, by omega, rfl, N3.out, rfl, B3.out⟩
  case round =>
    obtain ⟨k, hk, rfl, hN, hF, hB⟩ := hrel
    have NK : Hid (NewInts w2.heap.size wr _ ((List.range k).flatMap D)) := hN
    have BK : Hid (Below w2.heap.size w2 wr) := hB
    have FK : Hid (firstC C k = 0) := hF
    obtain ⟨a5, c5, rfl, _⟩ := hN.ints
    clear hN hB hF N3 B3
    by_cases hlt : (k : Int) < (n : Int)
    · have L : k < n := by omega
      have HVK : Hid (Calls Tryz.prog f #[.int .i64 (k : Int), p, q, p9] wr fun r W' => ∃ v', r = .returned (.tuple #[v', .int .i64 (C k)]) ∧ Arr wr.heap.size W'.heap.size W' v' (T k) (D k) ∧ Below wr.heap.size wr W') := HV.out wr k L (bTrans HB2.out BK.out)
      have E1 : Hid (C k = 0 → firstC C (k + 1) = 0) := fun h => firstC_go FK.out h
      have E2 : Hid (C k ≠ 0 → firstC C n = C k) := fun h => firstC_stop FK.out h L
      have LD := HD.out (k + 1) (by omega)
      have EF : Hid ((List.range (k + 1)).flatMap D = (List.range k).flatMap D ++ D k) := flat_succ D k
      rw [EF.out, List.length_append] at LD
      obtain ⟨P, hP⟩ : ∃ P, P = (List.range k).flatMap D := ⟨_, rfl⟩
      rw [← hP] at NK LD EF ⊢
      clear hP
      obtain ⟨dk, hdk⟩ : ∃ dk, dk = D k := ⟨_, rfl⟩
      obtain ⟨tk, htk⟩ : ∃ tk, tk = T k := ⟨_, rfl⟩
      rw [← hdk] at EF LD HVK
      rw [← htk] at HVK
      clear hdk htk
      have LDK : Hid (P.length + dk.length ≤ 100000) := LD
      clear LD
      generalize C k = x at *
      by_cases hx : x = 0
      · subst hx
        have E1' : Hid (firstC C (k + 1) = 0) := E1.out rfl
        clear E1 E2
        go_wp2_with fail
        go_at_fn f
        refine HVK.out.mono ?_
        rintro r w4 ⟨v4, rfl, ha, hb⟩
        obtain ⟨ta, tc, da, dc, rfl, _, i4, _, _⟩ := ha.arrI
        have I4 : Hid (Ints w4 da dk) := i4
        have HB4 : Hid (Below wr.heap.size wr w4) := hb
        clear ha hb i4
        obtain ⟨a7, c7, w7, r7, n7, b7⟩ := growL (NewInts.keep (NewInts.keep NK.out HB4.out) (bAlloc (Below.refl _ _) (.cells #[.slice ta tk.length tc, .slice da dk.length dc] 26))) (I4.out.keep (bAlloc (Below.refl _ _) (.cells #[.slice ta tk.length tc, .slice da dk.length dc] 26))) (by have := BK.out.size; have := HB4.out.size; simp; omega) (by have := LDK.out; omega) dc
        have R7 : Hid (_ = _) := r7
        have N7 : Hid (NewInts w2.heap.size w7 (.slice a7 (P ++ dk).length c7) (P ++ dk)) := n7
        have B7 : Hid (Below w2.heap.size w2 w7) := (bAlloc (bTrans BK.out HB4.out) _).trans b7
        clear r7 n7 b7
        go_wp2_with (at_builtin; refine wpList_append_ty rfl _ _ 24 24 rfl _ _ _ rfl rfl R7.out ?_)
        go_roundw
        case rel => exact ⟨k + 1, by omega, by go_num, by rw [EF.out]; have := N7.out; rw [List.length_append] at this; exact this, E1'.out, B7.out⟩
        case measure => simp [intOf]; omega
      · have E2' : Hid (firstC C n = x) := E2.out hx
        clear E1 E2
        go_wp2_with fail
        go_at_fn f
        refine HVK.out.mono ?_
        rintro r w4 ⟨v4, rfl, ha, hb⟩
        obtain ⟨ta, tc, da, dc, rfl, _, _, _, _⟩ := ha.arrI
        have HB4 : Hid (Below w2.heap.size w2 w4) := bTrans BK.out hb
        have R4 : Hid (Box (w4.alloc (.cells #[.slice ta tk.length tc, .slice da dk.length dc] 26)) w.heap.size (.slice none 0 0) (.slice none 0 0) 26) := ((R2.out.keep HB4.out).keep (bAlloc (Below.refl _ _) _))
        have BW4 : Hid (Below w.heap.size w (w4.alloc (.cells #[.slice ta tk.length tc, .slice da dk.length dc] 26))) := bAlloc (bTrans HB2.out HB4.out) _
        clear ha hb
        have y0 := R4.out.c0
        have y1 := R4.out.c1
        have f0 := free_at R4.out 0
        have f1 := free_at R4.out 1
        have HR : Hid (_ = _) := arr_stored (x' := .slice none 0 0) (y' := .slice none 0 0) R4.out
        have hxx : (x != 0) = true := by simpa using hx
        go_wp2
        refine bodyPost_ret (results_arr_tmp Tryz.results26 _ _ w.heap.size _ _ rfl HR.out) rfl ?_
        rw [E2'.out, mkR_bad hx]
        exact ⟨_, rfl, arr_zero _ _ _, below_setCell (below_setCell BW4.out (by omega) _ _) (by omega) _ _⟩
    · obtain rfl : k = n := by omega
      have R4 : Hid (Box wr w.heap.size (.slice none 0 0) (.slice none 0 0) 26) := R2.out.keep BK.out
      have BW4 : Hid (Below w.heap.size w wr) := bTrans HB2.out BK.out
      have P4 : Hid (Piece B E wr (.slice a S.length c) S) := HS.out.keep BW4.out
      have N4 : Hid (Piece w2.heap.size wr.heap.size wr (.slice a5 ((List.range k).flatMap D).length c5) ((List.range k).flatMap D)) := NK.out.piece
      clear NK
      generalize ((List.range k).flatMap D).length = q9 at *
      have y0 := R4.out.c0
      have y1 := R4.out.c1
      have f0 := free_at R4.out 0
      have f1 := free_at R4.out 1
      have HR : Hid (_ = _) := arr_stored (x' := .slice a S.length c) (y' := .slice a5 q9 c5) R4.out
      go_wp2
      refine bodyPost_ret (results_arr_tmp Tryz.results26 _ _ w.heap.size _ _ rfl HR.out) rfl ?_
      rw [FK.out, mkR_good]
      refine ⟨_, rfl, ?_, below_setCell (below_setCell BW4.out (by omega) _ _) (by omega) _ _⟩
      have L1 := LT.out
      have L2 := HE0.out
      have L3 := HB0.out
      have p1' := (P4.out.win (win_setCell wr w.heap.size 0 (.slice a S.length c)) (.inl (by omega))).win (win_setCell _ w.heap.size 1 (.slice a5 q9 c5)) (.inl (by omega))
      have p2' := (N4.out.win (win_setCell wr w.heap.size 0 (.slice a S.length c)) (.inr (by omega))).win (win_setCell _ w.heap.size 1 (.slice a5 q9 c5)) (.inr (by omega))
      have L4 := BW4.out.size
      exact ⟨_, _, rfl, p1'.mono (by omega) (by simp only [size_setCell]; omega), p2'.mono (by omega) (by simp only [size_setCell]; omega), p1'.apart p2' (.inl (by omega))⟩
set_option maxHeartbeats 1000000 in
set_option maxRecDepth 20000 in
set_option maxHeartbeats 4000000 in
/-- ofVectors. -/
theorem ofVectors_impl {s d : List Int} {w : World} {v : Value} (h : ArrI w v s d) :
    Calls Tryz.prog 20 #[v] w fun e w' => e = .returned (.bool (decide (s.length = 1 ∨ s.length = 2))) ∧ Below w.heap.size w w' := by
  obtain ⟨a, c, b, f, rfl, _, _, _, _⟩ := h
  by_cases h1 : s.length = 1
  · have n1 : ((s.length : Int) == 1) = true := by rw [h1]; rfl
    rw [show decide (s.length = 1 ∨ s.length = 2) = true from decide_eq_true (.inl h1)]
    clear h1
    go_enter Tryz.func20, Tryz.ntmps20
    go_wp2
    go_ret
    exact ⟨rfl, bAlloc (Below.refl _ _) _⟩
  · have n1 : ((s.length : Int) == 1) = false := by simp; omega
    by_cases h2 : s.length = 2
    · have n2 : ((s.length : Int) == 2) = true := by rw [h2]; rfl
      rw [show decide (s.length = 1 ∨ s.length = 2) = true from decide_eq_true (.inr h2)]
      clear h1 h2
      go_enter Tryz.func20, Tryz.ntmps20
      go_wp2
      go_ret
      exact ⟨rfl, bAlloc (Below.refl _ _) _⟩
    · have n2 : ((s.length : Int) == 2) = false := by simp; omega
      rw [show decide (s.length = 1 ∨ s.length = 2) = false from decide_eq_false (by omega)]
      clear h1 h2
      go_enter Tryz.func20, Tryz.ntmps20
      go_wp2
      go_ret
      exact ⟨rfl, bAlloc (Below.refl _ _) _⟩
/-- The vectors that an array of rank 1 or 2 has. -/
def vecsF (s d : List Int) : List (List Int) := if s.length = 1 then [s, d] else flatR (s.drop 1) (rowsD s d)
set_option maxRecDepth 20000 in
set_option maxHeartbeats 4000000 in
/-- vectorsOf. -/
theorem vectorsOf_impl {s d : List Int} {w : World} {v : Value} (h : ArrI w v s d) (ho : arrOk s d = true) (hs : s ≠ []) :
    Calls Tryz.prog 24 #[v] w fun e w' => ∃ v', e = .returned v' ∧ ArrsI w' v' (vecsF s d) ∧ Below w.heap.size w w' := by
  have H : Hid (ArrI w v s d) := h
  obtain ⟨a, c, b, f, rfl, _, _, _, _⟩ := h
  by_cases h1 : s.length = 1
  · have n1 : ((s.length : Int) == 1) = true := by rw [h1]; rfl
    rw [show vecsF s d = [s, d] from if_pos h1]
    clear h1
    go_enter Tryz.func24, Tryz.ntmps24
    go_wp2
    go_ret
    have hb : Below w.heap.size w ((w.alloc (.cells #[.slice a s.length c, .slice b d.length f] 26)).alloc (.cells #[.slice a s.length c, .slice b d.length f] 26)) := bAlloc (bAlloc (Below.refl _ _) _) _
    refine ⟨_, rfl, ?_, hb⟩
    obtain ⟨_, _, _, _, ev, i1, i2, g1, g2⟩ := H.out.keep hb
    cases ev
    refine ⟨_, 1, _, rfl, rfl, .inr ⟨_, _, [.slice a s.length c, .slice b d.length f], rfl, ?_, rfl, fun j hj => ?_⟩⟩
    · simp
    · rcases j with _ | _ | j
      · exact ⟨by simp, ⟨_, _, rfl, g1, i1⟩⟩
      · exact ⟨by simp, ⟨_, _, rfl, g2, i2⟩⟩
      · simp at hj; omega
  · have n1 : ((s.length : Int) == 1) = false := by simp; omega
    rw [show vecsF s d = flatR (s.drop 1) (rowsD s d) from if_neg h1]
    clear h1
    cases s with
    | nil => exact absurd rfl hs
    | cons n0 t =>
      have HO : Hid (arrOk (n0 :: t) d = true) := ho
      have HCR : Hid (∀ W x y, x.oneCell' = true → y.oneCell' = true → Calls Tryz.prog 56 #[.agg #[x, y]] W fun e w' => e = .returned (.func (.func 76) #[] #[.pointer (some ⟨W.heap.size, 0, none⟩)]) ∧ w' = W.alloc (.cells #[x, y] 26)) := fun W x y hx hy => (callsIn_wide (n := 5)).1 (cutRows_in 5 x y W hx hy)
      simp only [List.drop_succ_cons, List.drop_zero]
      generalize hq : (n0 :: t).length = q at *
      clear hs ho
      go_enter Tryz.func24, Tryz.ntmps24
      go_wp2_with fail
      refine (HCR.out _ _ _ rfl rfl).mono ?_
      rintro r w2 ⟨rfl, hw⟩
      subst hw
      generalize hW1 : w.alloc (.cells #[.slice a q c, .slice b d.length f] 26) = W1
      have HB1 : Hid (Below w.heap.size w W1) := by rw [← hW1]; exact bAlloc (Below.refl _ _) _
      clear hW1
      generalize hW2 : W1.alloc (.cells #[.slice a q c, .slice b d.length f] 26) = W2
      have HB2 : Hid (Below w.heap.size w W2) := by rw [← hW2]; exact bAlloc HB1.out _
      have BX : Hid (Box W2 W1.heap.size (.slice a q c) (.slice b d.length f) 26) := by rw [← hW2]; exact box_new W1 _ _ _
      clear hW2
      go_wp2_with fail
      refine (collect_rows (H.out.keep HB2.out) HO.out BX.out).mono ?_
      rintro r w3 ⟨v3, xs, rfl, hl⟩
      have HL : Hid (ListAt W2 w3 v3 (rowsN (n0 :: t)) xs (flatR t (rowsD (n0 :: t) d))) := hl
      clear hl
      go_wp2
      go_ret
      exact ⟨_, rfl, HL.out.arrsI, bTrans HB2.out HL.out.below⟩
/-- meeting: the sign in a box, what reducing makes in another one. -/
structure MetAt (W : World) (f g : Int) (p q o : Nat) : Prop where
  g : W.cell? ⟨p, 0, none⟩ = some (.int .i64 g)
  r : W.cell? ⟨q, 0, none⟩ = some (.func (.func 68) #[] #[.pointer (some ⟨o, 0, none⟩)])
  f : W.cell? ⟨o, 0, none⟩ = some (.int .i64 f)
  lp : p < W.heap.size
  lq : q < W.heap.size
  lo : o < W.heap.size
theorem MetAt.keep {W W' : World} {f g : Int} {p q o : Nat} (h : MetAt W f g p q o) (hb : Below W.heap.size W W') : MetAt W' f g p q o :=
  ⟨(hb.cell (p := ⟨p, 0, none⟩) h.lp).trans h.g, (hb.cell (p := ⟨q, 0, none⟩) h.lq).trans h.r, (hb.cell (p := ⟨o, 0, none⟩) h.lo).trans h.f, Nat.lt_of_lt_of_le h.lp hb.size, Nat.lt_of_lt_of_le h.lq hb.size, Nat.lt_of_lt_of_le h.lo hb.size⟩
set_option maxRecDepth 20000 in
set_option maxHeartbeats 4000000 in
theorem meeting_impl (f g : Int) (w : World) :
    Calls Tryz.prog 25 #[.int .i64 f, .int .i64 g] w fun r w' => ∃ p q o, r = .returned (.func (.func 57) #[] #[.pointer (some ⟨p, 0, none⟩), .pointer (some ⟨q, 0, none⟩)]) ∧ MetAt w' f g p q o ∧ Below w.heap.size w w' := by
  go_enter Tryz.func25, Tryz.ntmps25
  go_wp2_with (go_at_call 40; refine (reducing_impl _ _).mono ?_; rintro r w1 ⟨rfl, hw1⟩; subst hw1)
  go_ret
  have e0 := heap_alloc_new w (.cells #[.int .i64 g] 3)
  have e1 := heap_alloc_new (w.alloc (.cells #[.int .i64 g] 3)) (.cells #[.int .i64 f] 3)
  simp only [World.size_alloc] at e1
  refine ⟨w.heap.size, w.heap.size + 1 + 1, w.heap.size + 1, rfl, ⟨?_, ?_, ?_, by simp only [World.size_alloc]; omega, by simp only [World.size_alloc]; omega, by simp only [World.size_alloc]; omega⟩, bAlloc (bAlloc (bAlloc (Below.refl _ _) _) _) _⟩
  · exact cell_at (cs := #[.int .i64 g]) (t := 3) (fr := (0, 0)) (by rw [heap_alloc_old _ _ (by simp only [World.size_alloc]; omega), heap_alloc_old _ _ (by simp only [World.size_alloc]; omega)]; exact e0) rfl
  · have e2 := heap_alloc_new ((w.alloc (.cells #[.int .i64 g] 3)).alloc (.cells #[.int .i64 f] 3))
    simp only [World.size_alloc] at e2
    exact cell_at (e2 _) rfl
  · exact cell_at (cs := #[.int .i64 f]) (t := 3) (fr := (0, 0)) (by rw [heap_alloc_old _ _ (by simp only [World.size_alloc]; omega)]; exact e1) rfl
end Go.Proofs.YtnkacfgbkfkhdaaGreat
namespace Go.Proofs.YtnkacfgbkfkhdaaGreat
open Go.RowKit
set_option linter.unusedVariables false
set_option linter.unusedSimpArgs false
theorem arrs_one5 {W : World} {o : Nat} {x y : Value} {t : TypeId} {s d : List Int} (hb : Box W o x y t) (h : ArrI W (.agg #[x, y]) s d) : ArrsI W (.slice (some ⟨o, 0, none⟩) 1 1) [s, d] := by
  obtain ⟨a, c, b, e, e', i1, i2, g1, g2⟩ := h
  obtain ⟨rfl, rfl⟩ : x = .slice a s.length c ∧ y = .slice b d.length e := by cases e'; exact ⟨rfl, rfl⟩
  refine ⟨_, 1, 1, rfl, rfl, .inr ⟨o, 0, [.slice a s.length c, .slice b d.length e], rfl, hb.lt, rfl, fun j hj => ?_⟩⟩
  match j, hj with
  | 0, _ => exact ⟨hb.c0, a, c, rfl, g1, i1⟩
  | 1, _ => exact ⟨hb.c1, b, e, rfl, g2, i2⟩
theorem arrs_two5 {W : World} {o : Nat} {x y x' y' : Value} {t : TypeId} {s d s' d' : List Int} (hb : W.heap[o]? = some (.cells #[x, y, x', y'] t (0, 0))) (h : ArrI W (.agg #[x, y]) s d) (k : ArrI W (.agg #[x', y']) s' d') : ArrsI W (.slice (some ⟨o, 0, none⟩) 2 2) [s, d, s', d'] := by
  obtain ⟨a, c, b, e, e', i1, i2, g1, g2⟩ := h
  obtain ⟨rfl, rfl⟩ : x = .slice a s.length c ∧ y = .slice b d.length e := by cases e'; exact ⟨rfl, rfl⟩
  obtain ⟨a', c', b', f', e', i3, i4, g3, g4⟩ := k
  obtain ⟨rfl, rfl⟩ : x' = .slice a' s'.length c' ∧ y' = .slice b' d'.length f' := by cases e'; exact ⟨rfl, rfl⟩
  refine ⟨_, 2, 2, rfl, rfl, .inr ⟨o, 0, [.slice a s.length c, .slice b d.length e, .slice a' s'.length c', .slice b' d'.length f'], rfl, lt_of_heapA hb, rfl, fun j hj => ?_⟩⟩
  match j, hj with
  | 0, _ => exact ⟨cell_at hb rfl, a, c, rfl, g1, i1⟩
  | 1, _ => exact ⟨cell_at hb rfl, b, e, rfl, g2, i2⟩
  | 2, _ => exact ⟨cell_at hb rfl, a', c', rfl, g3, i3⟩
  | 3, _ => exact ⟨cell_at hb rfl, b', f', rfl, g4, i4⟩
theorem four5 (w : World) (A B C D : Obj) :
    ((((w.alloc A).alloc B).alloc C).alloc D).heap[w.heap.size]? = some A ∧ ((((w.alloc A).alloc B).alloc C).alloc D).heap[w.heap.size + 1]? = some B ∧ ((((w.alloc A).alloc B).alloc C).alloc D).heap[w.heap.size + 1 + 1]? = some C ∧ ((((w.alloc A).alloc B).alloc C).alloc D).heap[w.heap.size + 1 + 1 + 1]? = some D := by
  have e1 := heap_alloc_new w A
  have e2 := heap_alloc_new (w.alloc A) B
  have e3 := heap_alloc_new ((w.alloc A).alloc B) C
  have e4 := heap_alloc_new (((w.alloc A).alloc B).alloc C) D
  simp only [World.size_alloc] at e2 e3 e4
  refine ⟨?_, ?_, ?_, e4⟩
  · rw [heap_alloc_old _ _ (by simp only [World.size_alloc]; omega), heap_alloc_old _ _ (by simp only [World.size_alloc]; omega), heap_alloc_old _ _ (by simp only [World.size_alloc]; omega)]; exact e1
  · rw [heap_alloc_old _ _ (by simp only [World.size_alloc]; omega), heap_alloc_old _ _ (by simp only [World.size_alloc]; omega)]; exact e2
  · rw [heap_alloc_old _ _ (by simp only [World.size_alloc]; omega)]; exact e3
theorem allOkV_two (s d t e : List Int) : allOkV [s, d, t, e] 2 = (arrOk s d && arrOk t e) := by simp [allOkV, List.range_succ]
theorem allOkV_one (t e : List Int) : allOkV [t, e] 1 = arrOk t e := by simp [allOkV, List.range_succ]
theorem allOk2_impl {s d t e : List Int} {W : World} {o : Nat} {x y x' y' : Value} (h : ArrI W (.agg #[x, y]) s d) (k : ArrI W (.agg #[x', y']) t e) (hs : s.length ≤ 1048576) (hd : d.length ≤ 1048576) (ht : t.length ≤ 1048576) (he : e.length ≤ 1048576) {T : TypeId} (ho : W.heap[o]? = some (.cells #[x, y, x', y'] T (0, 0))) :
    Calls Tryz.prog 19 #[.slice (some ⟨o, 0, none⟩) 2 2] W fun r w' => r = .returned (.bool (arrOk s d && arrOk t e)) ∧ Below W.heap.size W w' := by
  rw [← allOkV_two]
  refine allOk_impl (arrs_two5 ho h k) (by decide) (fun j => ?_)
  match j with
  | 0 => exact hs
  | 1 => exact hd
  | 2 => exact ht
  | 3 => exact he
  | j + 4 => simp
end Go.Proofs.YtnkacfgbkfkhdaaGreat
namespace Go.Proofs.YtnkacfgbkfkhdaaGreat
open Go.RowKit
set_option linter.unusedVariables false
set_option linter.unusedSimpArgs false
theorem againD_length (e : List Int) (n : Nat) : (againD e n).length = n := by simp [againD]
set_option maxRecDepth 20000 in
set_option maxHeartbeats 4000000 in
/-- Reshape. -/
theorem reshape_impl {s d t e : List Int} {w : World} {v u : Value} (h : ArrI w v s d) (k : ArrI w u t e) (hs : s.length ≤ 1048576) (hd : d.length ≤ 1048576) (ht : t.length ≤ 1048576) (he : e.length ≤ 1048576) :
    Calls Tryz.prog 98 #[v, u] w fun r w' => ∃ v', r = .returned (.tuple #[v', .int .i64 (reshapeR s d t e).1]) ∧ Arr w.heap.size w'.heap.size w' v' (reshapeR s d t e).2.1 (reshapeR s d t e).2.2 ∧ Below w.heap.size w w' := by
  have H : Hid (ArrI w v s d) := h
  have K : Hid (ArrI w u t e) := k
  obtain ⟨a, c, b, f, rfl, h1, h2, g1, g2⟩ := h
  obtain ⟨a', c', b', f', rfl, k1, k2, g3, g4⟩ := k
  have HOK : Hid (∀ (W : World) (o : Nat), Below w.heap.size w W → W.heap[o]? = some (.cells #[.slice a s.length c, .slice b d.length f, .slice a' t.length c', .slice b' e.length f'] 26 (0, 0)) → Calls Tryz.prog 19 #[.slice (some ⟨o, 0, none⟩) 2 2] W fun r w' => r = .returned (.bool (arrOk s d && arrOk t e)) ∧ Below W.heap.size W w') := fun W o hb ho => allOk2_impl (H.out.keep hb) (K.out.keep hb) hs hd ht he ho
  have HCF : Hid (∀ W, Below w.heap.size w W → Calls Tryz.prog 106 #[.slice b d.length f, .func (.func 107) #[] #[]] W fun r w' => r = .returned (.bool (d.any fun x => decide (x < 0))) ∧ w' = W) := fun W hb => containsBelow_impl (h2.keep hb) hd
  have HSO : Hid (∀ W, Below w.heap.size w W → Calls Tryz.prog 22 #[.slice b d.length f] W fun r w' => r = .returned (.bool (decide (0 ≤ sizeV d))) ∧ Below W.heap.size W w') := fun W hb => ok_impl f (h2.keep hb)
  have HCL : Hid (∀ W, Below w.heap.size w W → Calls Tryz.prog 51 #[.slice b d.length f] W fun r w' => ∃ a' c', r = .returned (.slice a' d.length c') ∧ Piece W.heap.size w'.heap.size w' (.slice a' d.length c') d ∧ Below W.heap.size W w') := fun W hb => copied_new (IntsI.keep ⟨b, f, rfl, g2, h2⟩ hb) hd
  have HSZ : Hid (∀ W, Below w.heap.size w W → Calls Tryz.prog 41 #[.slice b d.length f] W fun r w' => r = .returned (.int .i64 (sizeV d)) ∧ Below W.heap.size W w') := fun W hb => size_impl f (h2.keep hb)
  have HAG : Hid (0 ≤ sizeV d → ∀ W, Below w.heap.size w W → Calls Tryz.prog 108 #[.slice b' e.length f', .int .i64 (sizeV d)] W fun r w' => ∃ a' c', r = .returned (.slice a' (againD e (sizeV d).toNat).length c') ∧ Piece W.heap.size w'.heap.size w' (.slice a' (againD e (sizeV d).toNat).length c') (againD e (sizeV d).toNat) ∧ Below W.heap.size W w') := fun h0 W hb => by
    have hz := sizeV_bd d
    have q := again_impl (c := f') (n := (sizeV d).toNat) (k2.keep hb) he (by omega)
    rw [Int.toNat_of_nonneg h0] at q
    refine q.mono ?_
    rintro r w' ⟨rfl, ho, hb'⟩
    refine ⟨some ⟨W.heap.size, 0, none⟩, (sizeV d).toNat, by rw [againD_length], ?_, hb'⟩
    exact OwnInts.piece ho (Nat.le_refl _) (lt_of_heapA ho) _ (by rw [againD_length]; exact Nat.le_refl _)
  obtain ⟨x, hx⟩ : ∃ x, x = (reshapeR s d t e).1 := ⟨_, rfl⟩
  obtain ⟨S, hS⟩ : ∃ S, S = (reshapeR s d t e).2.1 := ⟨_, rfl⟩
  obtain ⟨D, hD⟩ : ∃ D, D = (reshapeR s d t e).2.2 := ⟨_, rfl⟩
  rw [← hx, ← hS, ← hD]
  have E1 : Hid ((arrOk s d && arrOk t e) = false → x = 1 ∧ S = [] ∧ D = []) := fun h => by
    rw [hx, hS, hD]; unfold reshapeR reshapeC; rw [if_neg (by intro q; rw [q.1, q.2] at h; cases h), mkR_bad (by decide)]; exact ⟨rfl, rfl, rfl⟩
  have E2 : Hid ((arrOk s d && arrOk t e) = true → 1 < s.length → x = 4 ∧ S = [] ∧ D = []) := fun h h1 => by
    rw [hx, hS, hD]; unfold reshapeR reshapeC; rw [if_pos (by simpa using h), if_pos h1, mkR_bad (by decide)]; exact ⟨rfl, rfl, rfl⟩
  have E3 : Hid ((arrOk s d && arrOk t e) = true → ¬ 1 < s.length → (d.any fun x => decide (x < 0)) = true → x = 2 ∧ S = [] ∧ D = []) := fun h h1 h2 => by
    rw [hx, hS, hD]; unfold reshapeR reshapeC; rw [if_pos (by simpa using h), if_neg h1, if_pos h2, mkR_bad (by decide)]; exact ⟨rfl, rfl, rfl⟩
  have E4 : Hid ((arrOk s d && arrOk t e) = true → ¬ 1 < s.length → (d.any fun x => decide (x < 0)) = false → sizeV d < 0 → x = 6 ∧ S = [] ∧ D = []) := fun h h1 h2 h3 => by
    rw [hx, hS, hD]; unfold reshapeR reshapeC; rw [if_pos (by simpa using h), if_neg h1, if_neg (by rw [h2]; simp), if_pos h3, mkR_bad (by decide)]; exact ⟨rfl, rfl, rfl⟩
  have E5 : Hid ((arrOk s d && arrOk t e) = true → ¬ 1 < s.length → (d.any fun x => decide (x < 0)) = false → 0 ≤ sizeV d → x = 0 ∧ S = d ∧ D = againD e (sizeV d).toNat) := fun h h1 h2 h3 => by
    rw [hx, hS, hD]; unfold reshapeR reshapeC; rw [if_pos (by simpa using h), if_neg h1, if_neg (by rw [h2]; simp), if_neg (by omega), mkR_good]; exact ⟨rfl, rfl, rfl⟩
  clear hx hS hD hs hd ht he h1 h2 k1 k2 g1 g2 g3 g4
  generalize (arrOk s d && arrOk t e) = q at *
  generalize (d.any fun x => decide (x < 0)) = m at *
  generalize againD e (sizeV d).toNat = A at *
  generalize sizeV d = z at *
  go_enter Tryz.func98, Tryz.ntmps98
  go_wp2_with fail
  refine (HOK.out _ _ (bAlloc (bAlloc (bAlloc (bAlloc (Below.refl _ _) _) _) _) _) (by exact (four5 w _ _ _ _).2.2.2)).mono ?_
  rintro r w1 ⟨rfl, hb⟩
  have q4 := four5 w (.cells #[.slice a s.length c, .slice b d.length f] 26) (.cells #[.slice a' t.length c', .slice b' e.length f'] 26) (.cells #[.slice none 0 0, .slice none 0 0] 26) (.cells #[.slice a s.length c, .slice b d.length f, .slice a' t.length c', .slice b' e.length f'] 26)
  have HB1 : Hid (Below w.heap.size w w1) := bTrans (bAlloc (bAlloc (bAlloc (bAlloc (Below.refl _ _) _) _) _) _) hb
  have X1 : Hid (Box w1 w.heap.size (.slice a s.length c) (.slice b d.length f) 26) := Box.keep q4.1 hb
  have Y1 : Hid (Box w1 (w.heap.size + 1) (.slice a' t.length c') (.slice b' e.length f') 26) := Box.keep q4.2.1 hb
  have R1 : Hid (Box w1 (w.heap.size + 1 + 1) (.slice none 0 0) (.slice none 0 0) 26) := Box.keep q4.2.2.1 hb
  clear hb q4
  cases q
  · obtain ⟨rfl, rfl, rfl⟩ := E1.out (by trivial)
    clear E1 E2 E3 E4 E5
    have y0 := R1.out.c0
    have y1 := R1.out.c1
    have f0 : w1.frozen? ⟨w.heap.size + 1 + 1, 0, none⟩ = false := free_at R1.out 0
    have f1 : w1.frozen? ⟨w.heap.size + 1 + 1, 1, none⟩ = false := free_at R1.out 1
    have HR : Hid (((w1.setCell ⟨w.heap.size + 1 + 1, 0, none⟩ (.slice none 0 0)).setCell ⟨w.heap.size + 1 + 1, 1, none⟩ (.slice none 0 0)).heap[w.heap.size + 1 + 1]? = some (.cells #[.slice none 0 0, .slice none 0 0] 26 (0, 0))) := arr_stored R1.out
    go_wp2
    refine bodyPost_ret (results_arr_tmp Tryz.results98 _ _ (w.heap.size + 1 + 1) _ _ rfl HR.out) rfl ?_
    exact ⟨_, rfl, arr_zero _ _ _, below_setCell (below_setCell HB1.out (by omega) _ _) (by omega) _ _⟩
  · have x0 := X1.out.c0
    by_cases hr : (1 : Int) < (s.length : Int)
    · obtain ⟨rfl, rfl, rfl⟩ := E2.out (by trivial) (by omega)
      clear E1 E2 E3 E4 E5
      have y0 := R1.out.c0
      have y1 := R1.out.c1
      have f0 : w1.frozen? ⟨w.heap.size + 1 + 1, 0, none⟩ = false := free_at R1.out 0
      have f1 : w1.frozen? ⟨w.heap.size + 1 + 1, 1, none⟩ = false := free_at R1.out 1
      have HR : Hid (((w1.setCell ⟨w.heap.size + 1 + 1, 0, none⟩ (.slice none 0 0)).setCell ⟨w.heap.size + 1 + 1, 1, none⟩ (.slice none 0 0)).heap[w.heap.size + 1 + 1]? = some (.cells #[.slice none 0 0, .slice none 0 0] 26 (0, 0))) := arr_stored R1.out
      go_wp2
      refine bodyPost_ret (results_arr_tmp Tryz.results98 _ _ (w.heap.size + 1 + 1) _ _ rfl HR.out) rfl ?_
      exact ⟨_, rfl, arr_zero _ _ _, below_setCell (below_setCell HB1.out (by omega) _ _) (by omega) _ _⟩
    · have x1 := X1.out.c1
      have E3' : Hid (m = true → x = 2 ∧ S = [] ∧ D = []) := E3.out (by trivial) (by omega)
      have E4' : Hid (m = false → z < 0 → x = 6 ∧ S = [] ∧ D = []) := E4.out (by trivial) (by omega)
      have E5' : Hid (m = false → 0 ≤ z → x = 0 ∧ S = d ∧ D = A) := E5.out (by trivial) (by omega)
      clear E1 E2 E3 E4 E5
      go_wp2_with fail
      refine (HCF.out _ HB1.out).mono ?_
      rintro r w2 ⟨rfl, hw⟩
      subst w2
      cases m
      · go_wp2_with fail
        refine (HSO.out _ HB1.out).mono ?_
        rintro r w2 ⟨rfl, hb⟩
        have HB2 : Hid (Below w.heap.size w w2) := bTrans HB1.out hb
        have X2 : Hid (Box w2 w.heap.size (.slice a s.length c) (.slice b d.length f) 26) := X1.out.keep hb
        have Y2 : Hid (Box w2 (w.heap.size + 1) (.slice a' t.length c') (.slice b' e.length f') 26) := Y1.out.keep hb
        have R2 : Hid (Box w2 (w.heap.size + 1 + 1) (.slice none 0 0) (.slice none 0 0) 26) := R1.out.keep hb
        clear hb x0 x1 hr
        by_cases hz : 0 ≤ z
        · obtain ⟨rfl, eS, eD⟩ := E5'.out (by trivial) hz
          have ES : Hid (S = d ∧ D = A) := ⟨eS, eD⟩
          have HAG' := HAG.out hz
          have HAH : Hid (∀ W, Below w.heap.size w W → Calls Tryz.prog 108 #[.slice b' e.length f', .int .i64 z] W fun r w' => ∃ a' c', r = .returned (.slice a' A.length c') ∧ Piece W.heap.size w'.heap.size w' (.slice a' A.length c') A ∧ Below W.heap.size W w') := HAG'
          have hdz : decide (0 ≤ z) = true := by simpa using hz
          clear E3' E4' E5' eS eD HAG' HAG HSO HCF HOK hz
          rw [hdz]
          have x1 := X2.out.c1
          have y1 := Y2.out.c1
          have LT : Hid (w.heap.size + 1 + 1 < w2.heap.size) := R2.out.lt
          go_wp2
          go_region_held3 (fun w' => w'.cell? ⟨w.heap.size, 1, none⟩ = some (.slice b d.length f) ∧ w'.cell? ⟨w.heap.size + 1, 1, none⟩ = some (.slice b' e.length f'))
            (first | exact ⟨z0 _ _, z1 _ _⟩ | exact ⟨q0, q1⟩ | exact ⟨p0, p1⟩ | exact ⟨v0, v1⟩ | exact ⟨x1, y1⟩)
            (first
              | (go_at_call_of 51 (Value.slice b d.length f); refine (HCL.out _ (bTrans HB2.out ((Below.refl w2.heap.size w2).drew))).mono ?_; rintro r w3 ⟨ax, cx, rfl, ha, hb⟩; have PX : Hid (Piece w2.heap.size w3.heap.size w3 (.slice ax d.length cx) d) := ha; have HB3 : Hid (Below w2.heap.size w2 w3) := bTrans ((Below.refl w2.heap.size w2).drew) hb; have v0 := (X2.out.keep HB3.out).c1; have v1 := (Y2.out.keep HB3.out).c1; clear ha hb)
              | (go_at_call_of 41 (Value.slice b d.length f); refine (HSZ.out _ (bTrans HB2.out HB3.out)).mono ?_; rintro r w4 ⟨rfl, hb⟩; have HB4 : Hid (Below w2.heap.size w2 w4) := bTrans HB3.out hb; have PX4 : Hid (Piece w2.heap.size w3.heap.size w4 (.slice ax d.length cx) d) := PX.out.keep hb; have S34 : Hid (w3.heap.size ≤ w4.heap.size) := hb.size; have p0 := (X2.out.keep HB4.out).c1; have p1 := (Y2.out.keep HB4.out).c1; clear hb)
              | (go_at_call_of 108 (Value.slice b' e.length f'); refine (HAH.out _ (bTrans HB2.out HB4.out)).mono ?_; rintro r w5 ⟨ay, cy, rfl, ha, hb⟩; have PY : Hid (Piece w4.heap.size w5.heap.size w5 (.slice ay A.length cy) A) := ha; have PX5 : Hid (Piece w2.heap.size w3.heap.size w5 (.slice ax d.length cx) d) := PX4.out.keep hb; have S45 : Hid (w4.heap.size ≤ w5.heap.size) := hb.size; have HB5 : Hid (Below w2.heap.size w2 w5) := bTrans HB4.out hb; have q0 := (X2.out.keep HB5.out).c1; have q1 := (Y2.out.keep HB5.out).c1; have r0 := (R2.out.keep HB5.out).c0; have r1 := (R2.out.keep HB5.out).c1; have f0 : w5.frozen? ⟨w.heap.size + 1 + 1, 0, none⟩ = false := free_at (R2.out.keep HB5.out) 0; have f1 : w5.frozen? ⟨w.heap.size + 1 + 1, 1, none⟩ = false := free_at (R2.out.keep HB5.out) 1; have zx : ∀ u v, Box ((w5.setCell ⟨w.heap.size + 1 + 1, 0, none⟩ u).setCell ⟨w.heap.size + 1 + 1, 1, none⟩ v) w.heap.size (.slice a s.length c) (.slice b d.length f) 26 := (fun u v => ((X2.out.keep HB5.out).win (win_setCell _ _ _ _) (.inl (by omega))).win (win_setCell _ _ _ _) (.inl (by omega))); have zy : ∀ u v, Box ((w5.setCell ⟨w.heap.size + 1 + 1, 0, none⟩ u).setCell ⟨w.heap.size + 1 + 1, 1, none⟩ v) (w.heap.size + 1) (.slice a' t.length c') (.slice b' e.length f') 26 := (fun u v => ((Y2.out.keep HB5.out).win (win_setCell _ _ _ _) (.inl (by omega))).win (win_setCell _ _ _ _) (.inl (by omega))); have z0 := (fun u v => (zx u v).c1); have z1 := (fun u v => (zy u v).c1); have HR : Hid (((w5.setCell ⟨w.heap.size + 1 + 1, 0, none⟩ (.slice ax d.length cx)).setCell ⟨w.heap.size + 1 + 1, 1, none⟩ (.slice ay A.length cy)).heap[w.heap.size + 1 + 1]? = some (.cells #[.slice ax d.length cx, .slice ay A.length cy] 26 (0, 0))) := arr_stored (R2.out.keep HB5.out); clear ha hb zx zy))
          go_wp2
          refine bodyPost_ret (results_arr_tmp Tryz.results98 _ _ (w.heap.size + 1 + 1) _ _ rfl HR.out) rfl ?_
          refine ⟨_, rfl, ?_, below_setCell (below_setCell (bTrans HB2.out HB5.out) (by omega) _ _) (by omega) _ _⟩
          have S1 := HB3.out.size
          have S2 := S34.out
          have S3 := S45.out
          have S4 := LT.out
          rw [ES.out.1, ES.out.2]
          have A2 : Arr w2.heap.size w5.heap.size w5 (.agg #[.slice ax d.length cx, .slice ay A.length cy]) d A := ⟨_, _, rfl, PX5.out.mono (Nat.le_refl _) (by omega), PY.out.mono (by omega) (Nat.le_refl _), PX5.out.apart PY.out (.inl (by omega))⟩
          exact ((A2.setCell S4 _ _).setCell S4 _ _).mono (by omega) (by simp [size_setCell])
        · obtain ⟨rfl, rfl, rfl⟩ := E4'.out (by trivial) (by omega)
          have hdz : decide (0 ≤ z) = false := by simpa using hz
          clear E3' E4' E5' hz
          rw [hdz]
          have y0 := R2.out.c0
          have y1 := R2.out.c1
          have f0 : w2.frozen? ⟨w.heap.size + 1 + 1, 0, none⟩ = false := free_at R2.out 0
          have f1 : w2.frozen? ⟨w.heap.size + 1 + 1, 1, none⟩ = false := free_at R2.out 1
          have HR : Hid (((w2.setCell ⟨w.heap.size + 1 + 1, 0, none⟩ (.slice none 0 0)).setCell ⟨w.heap.size + 1 + 1, 1, none⟩ (.slice none 0 0)).heap[w.heap.size + 1 + 1]? = some (.cells #[.slice none 0 0, .slice none 0 0] 26 (0, 0))) := arr_stored R2.out
          go_wp2
          refine bodyPost_ret (results_arr_tmp Tryz.results98 _ _ (w.heap.size + 1 + 1) _ _ rfl HR.out) rfl ?_
          exact ⟨_, rfl, arr_zero _ _ _, below_setCell (below_setCell HB2.out (by omega) _ _) (by omega) _ _⟩
      · obtain ⟨rfl, rfl, rfl⟩ := E3'.out (by trivial)
        clear E3' E4' E5' x0 x1 hr
        have y0 := R1.out.c0
        have y1 := R1.out.c1
        have f0 : w1.frozen? ⟨w.heap.size + 1 + 1, 0, none⟩ = false := free_at R1.out 0
        have f1 : w1.frozen? ⟨w.heap.size + 1 + 1, 1, none⟩ = false := free_at R1.out 1
        have HR : Hid (((w1.setCell ⟨w.heap.size + 1 + 1, 0, none⟩ (.slice none 0 0)).setCell ⟨w.heap.size + 1 + 1, 1, none⟩ (.slice none 0 0)).heap[w.heap.size + 1 + 1]? = some (.cells #[.slice none 0 0, .slice none 0 0] 26 (0, 0))) := arr_stored R1.out
        go_wp2
        refine bodyPost_ret (results_arr_tmp Tryz.results98 _ _ (w.heap.size + 1 + 1) _ _ rfl HR.out) rfl ?_
        exact ⟨_, rfl, arr_zero _ _ _, below_setCell (below_setCell HB1.out (by omega) _ _) (by omega) _ _⟩
end Go.Proofs.YtnkacfgbkfkhdaaGreat
