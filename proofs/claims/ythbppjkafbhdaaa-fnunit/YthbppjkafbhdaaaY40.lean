/-
  Several texts, one behind the other: ImplConcat, ImplOuter, ImplRev.
-/
import Derived.Test.YthbppjkafbhdaaaY39
import Derived.Test.YthbppjkafbhdaaaY20
import Derived.Lib.AppendZeros
import Derived.Test.YthbppjkafbhdaaaY28
import Derived.Test.YthbppjkafbhdaaaY13
import Derived.Test.YthbppjkafbhdaaaY36
import Derived.Test.YthbppjkafbhdaaaY6
import Derived.Test.YthbppjkafbhdaaaY3
namespace Go.Proofs.Ythbppjkafbhdaaa
open Go.RowKit
set_option linter.unusedVariables false
set_option linter.unusedSimpArgs false
theorem run_zeros (w : World) (ty : TypeId) {n : Nat} (h0 : 0 < n) (hn : n ≤ 1048576) :
    ∃ cap w', (Builtin.append_ #[24, 3] ty #[.slice none 0 0, .int .i64 (n : Int)]).run Try.prog w = .ok (.slice (some ⟨w.heap.size, 0, none⟩) n cap) w' ∧ NewInts w.heap.size w' (.slice (some ⟨w.heap.size, 0, none⟩) 0 cap) [] ∧ Below w.heap.size w w' := by
  obtain ⟨i, hq, z1, z2, z3⟩ : ∃ i, Try.prog.info? 3 = some i ∧ i.zero = some (.int .i64 0) ∧ i.size = 1 ∧ i.bytes = 8 := by
    have hi := info_int
    cases hq : Try.prog.info? 3 with
    | none => rw [hq] at hi; cases hi
    | some i => rw [hq] at hi; simp at hi; exact ⟨i, rfl, hi.1, hi.2.1, hi.2.2⟩
  refine ⟨_, _, Lib.run_append_nil_zeros w 24 3 ty 3 i (.int .i64 0) .i64 .i64 Try.underlying24 Try.underlying3 hq z1 n h0 (by omega) (by omega) (by rw [z3]; omega), ?_, bAlloc ((Below.refl w.heap.size w).drew) _⟩
  have hge := grownCap_ge w n 0 3
  have hcm := grownCap_le_maxLen w n 0 3 (by unfold maxLen; omega)
  refine ⟨rfl, .inr ⟨w.heap.size, _, _, rfl, Nat.le_refl _, heap_alloc_new w.drew _, Nat.zero_le _, hcm, ?_, by simp⟩⟩
  simp only [Array.size_append, size_zeroCells]
  rw [show (Value.int .i64 0).cells.size = 1 from rfl]
  omega
set_option maxRecDepth 20000 in
set_option maxHeartbeats 2000000 in
/-- slices.Grow of no list. -/
theorem grow0_impl {n : Nat} (w : World) (hn : n ≤ 1048576) :
    Calls Try.prog 50 #[.slice none 0 0, .int .i64 (n : Int)] w fun r w' => ∃ v, r = .returned v ∧ NewInts w.heap.size w' v [] ∧ Below w.heap.size w w' := by
  by_cases h0 : n = 0
  · subst h0
    go_enter Try.func50, Try.ntmps50
    go_wp2
    go_ret
    exact ⟨_, rfl, NewInts.nil _ _, Below.refl _ _⟩
  · obtain ⟨cap, w2, r2, n2, b2⟩ := run_zeros w 24 (n := n) (by omega) hn
    have R2 : Hid (_ = _) := r2
    have N2 : Hid (NewInts w.heap.size w2 (.slice (some ⟨w.heap.size, 0, none⟩) 0 cap) []) := n2
    have B2 : Hid (Below w.heap.size w w2) := b2
    have hp : (0 : Int) < (n : Int) := by omega
    clear r2 n2 b2 h0
    go_enter Try.func50, Try.ntmps50
    go_wp2_with (at_builtin; refine wpList_append_ty rfl _ _ 24 3 rfl _ _ _ rfl rfl R2.out ?_)
    go_ret
    exact ⟨_, rfl, N2.out, B2.out⟩
set_option maxRecDepth 20000 in
set_option maxHeartbeats 4000000 in
/-- slices.Concat of two lists: a list of one's own. -/
theorem concat_impl {l m : List Int} {a b : Option Addr} {c c' o : Nat} {w : World} {T : TypeId} (ha : Ints w a l) (hb : Ints w b m) (hl : l.length + m.length ≤ 1048576) (ho : w.heap[o]? = some (.cells #[.slice a l.length c, .slice b m.length c'] T (0, 0))) :
    Calls Try.prog 27 #[.slice (some ⟨o, 0, none⟩) 2 2] w fun r w' => ∃ a' k', r = .returned (.slice a' (l ++ m).length k') ∧ NewInts w.heap.size w' (.slice a' (l ++ m).length k') (l ++ m) ∧ Below w.heap.size w w' := by
  have c0 : w.cell? ⟨o, 0, none⟩ = some (.slice a l.length c) := cell_at ho rfl
  have c1 : w.cell? ⟨o, 1, none⟩ = some (.slice b m.length c') := cell_at ho rfl
  have hlt : o < w.heap.size := lt_of_heapA ho
  have CK : Hid (∀ W, Below w.heap.size w W → W.cell? ⟨o, 0, none⟩ = some (.slice a l.length c) ∧ W.cell? ⟨o, 1, none⟩ = some (.slice b m.length c')) := fun W h => ⟨(h.cell (p := ⟨o, 0, none⟩) hlt).trans c0, (h.cell (p := ⟨o, 1, none⟩) hlt).trans c1⟩
  have HA : Hid (∀ W, Below w.heap.size w W → Ints W a l) := fun W h => ha.keep h
  have HB : Hid (∀ W, Below w.heap.size w W → Ints W b m) := fun W h => hb.keep h
  have hG : Hid (∀ W, Calls Try.prog 50 #[.slice none 0 0, .int .i64 ((l.length : Int) + (m.length : Int))] W fun r w' => ∃ v, r = .returned v ∧ NewInts W.heap.size w' v [] ∧ Below W.heap.size W w') := fun W => by
    have := grow0_impl (n := l.length + m.length) W hl
    rw [Int.natCast_add] at this
    exact this
  have hw1 : IntKind.i64.wrap ((l.length : Int) + (m.length : Int)) = (l.length : Int) + (m.length : Int) := by rw [IntKind.wrap_i64]; omega
  clear ha hb ho
  go_enter Try.func27, Try.ntmps27
  go_wp2
  go_loopw [3, 11] (fun z i w' => w' = w ∧ ((i = .int .i64 0 ∧ z = .int .i64 0) ∨ (i = .int .i64 1 ∧ z = .int .i64 (l.length : Int)) ∨ (i = .int .i64 2 ∧ z = .int .i64 ((l.length : Int) + (m.length : Int))))) (fun _ i _ => 2 - (intOf i).toNat)
  case atStart => exact ⟨rfl, .inl ⟨rfl, rfl⟩⟩
  case round =>
    obtain ⟨hw, h⟩ := hrel
    have hw2 := hw.symm
    clear hw
    subst hw2
    rcases h with ⟨rfl, rfl⟩ | ⟨rfl, rfl⟩ | ⟨rfl, rfl⟩
    · go_wp2
      go_roundw
      case rel => exact ⟨by first | rfl | trivial, .inr (.inl ⟨rfl, by simp⟩)⟩
      case measure => simp [intOf]
    · go_wp2
      go_roundw
      case rel => exact ⟨by first | rfl | trivial, .inr (.inr ⟨rfl, by simp⟩)⟩
      case measure => simp [intOf]
    · go_wp2_with fail
      refine (hG.out _).mono ?_
      rintro r w2 ⟨v2, rfl, hn, hb⟩
      have N2 : Hid (NewInts w.heap.size w2 v2 []) := hn
      have B2 : Hid (Below w.heap.size w w2) := hb
      clear hn hb c0 c1
      go_wp2
      go_loopw [6, 27] (fun v i w' => Below w.heap.size w w' ∧ ((i = .int .i64 0 ∧ NewInts w.heap.size w' v []) ∨ (i = .int .i64 1 ∧ NewInts w.heap.size w' v l) ∨ (i = .int .i64 2 ∧ NewInts w.heap.size w' v (l ++ m)))) (fun _ i _ => 2 - (intOf i).toNat)
      case atStart => exact ⟨B2.out, .inl ⟨rfl, N2.out⟩⟩
      case round =>
        obtain ⟨hw, h⟩ := hrel
        have BR : Hid (Below w.heap.size w wr) := hw
        clear hw N2 B2
        obtain ⟨d0, d1⟩ := CK.out _ BR.out
        rcases h with ⟨rfl, hn⟩ | ⟨rfl, hn⟩ | ⟨rfl, hn⟩
        · obtain ⟨a3, k3, w3, r3, n3, b3⟩ := growL hn (HA.out _ BR.out) BR.out.size (by simp; omega) c
          rw [List.nil_append] at r3 n3
          have R3 : Hid (_ = _) := r3
          have N3 : Hid (NewInts w.heap.size w3 (.slice a3 l.length k3) l) := n3
          have B3 : Hid (Below w.heap.size w w3) := BR.out.trans b3
          clear hn r3 n3 b3
          go_wp2_with (at_builtin; refine wpList_append_ty rfl _ _ 24 24 rfl _ _ _ rfl rfl R3.out ?_)
          go_roundw
          case rel => exact ⟨B3.out, .inr (.inl ⟨rfl, N3.out⟩)⟩
          case measure => simp [intOf]
        · obtain ⟨a3, k3, w3, r3, n3, b3⟩ := growL hn (HB.out _ BR.out) BR.out.size hl c'
          have R3 : Hid (_ = _) := r3
          have N3 : Hid (NewInts w.heap.size w3 (.slice a3 (l ++ m).length k3) (l ++ m)) := n3
          have B3 : Hid (Below w.heap.size w w3) := BR.out.trans b3
          clear hn r3 n3 b3
          go_wp2_with (at_builtin; refine wpList_append_ty rfl _ _ 24 24 rfl _ _ _ rfl rfl R3.out ?_)
          go_roundw
          case rel => exact ⟨B3.out, .inr (.inr ⟨rfl, by have q := N3.out; rw [List.length_append] at q; exact q⟩)⟩
          case measure => simp [intOf]
        · have NN : Hid (NewInts w.heap.size wr _ (l ++ m)) := hn
          obtain ⟨a4, k4, rfl, _⟩ := hn.ints
          clear hn
          go_wp2
          go_ret
          exact ⟨_, _, rfl, NN.out, BR.out⟩
end Go.Proofs.Ythbppjkafbhdaaa
namespace Go.Proofs.Ythbppjkafbhdaaa
open Go.RowKit
set_option linter.unusedVariables false
set_option linter.unusedSimpArgs false
theorem box3o (w : World) (A B : Obj) (x y : Value) (T : TypeId) : Box (((w.alloc A).alloc B).alloc (.cells #[x, y] T)) (w.heap.size + 1 + 1) x y T := by
  have e := box_new ((w.alloc A).alloc B) x y T
  simp only [World.size_alloc] at e
  exact e
set_option maxRecDepth 20000 in
set_option maxHeartbeats 8000000 in
/-- Outer. -/
theorem outer_impl {g : Int} {s d t e : List Int} {w : World} {v u : Value} (h : ArrI w v s d) (k : ArrI w u t e) (hs : s.length ≤ 1048576) (hd : d.length ≤ 1048576) (ht : t.length ≤ 1048576) (he : e.length ≤ 1048576) :
    Calls Try.prog 10 #[.int .i64 g, v, u] w fun r w' => ∃ v', r = .returned (.tuple #[v', .int .i64 (outerR g s d t e).1]) ∧ Arr w.heap.size w'.heap.size w' v' (outerR g s d t e).2.1 (outerR g s d t e).2.2 ∧ Below w.heap.size w w' := by
  have H : Hid (ArrI w v s d) := h
  have K : Hid (ArrI w u t e) := k
  obtain ⟨a, c, b, f, rfl, h1, h2, g1, g2⟩ := h
  obtain ⟨a', c', b', f', rfl, k1, k2, g3, g4⟩ := k
  have HOK : Hid (∀ (W : World) (o : Nat), Below w.heap.size w W → W.heap[o]? = some (.cells #[.slice a s.length c, .slice b d.length f, .slice a' t.length c', .slice b' e.length f'] 26 (0, 0)) → Calls Try.prog 26 #[.slice (some ⟨o, 0, none⟩) 2 2] W fun r w' => r = .returned (.bool (arrOk s d && arrOk t e)) ∧ Below W.heap.size W w') := fun W o hb ho => allOk2_impl (H.out.keep hb) (K.out.keep hb) hs hd ht he ho
  have I2 : Hid (Ints w b d) := h2
  have I1 : Hid (Ints w a s) := h1
  have J1 : Hid (Ints w a' t) := k1
  clear h1 h2 k1 k2 g1 g2 g3 g4
  by_cases hg : sign2 g = true
  · have HG : Hid (sign2 g = true) := hg
    by_cases ho : arrOk s d = true ∧ arrOk t e = true
    · have hs3 : s.length ≤ 3 := (sizeV_ok (arrOk_shape ho.1)).1
      have ht3 : t.length ≤ 3 := (sizeV_ok (arrOk_shape ho.2)).1
      have hd3 : d.length ≤ 300 := by have := arrOk_len ho.1; omega
      have EP := outerR_told ho.1 ho.2 hg
      have hoo : (arrOk s d && arrOk t e) = true := by rw [ho.1, ho.2]; rfl
      rw [hoo] at HOK
      by_cases hr : 3 < s.length + t.length
      · rw [if_pos hr] at EP
        rw [EP]
        have hri : (3 : Int) < (s.length : Int) + (t.length : Int) := by omega
        clear EP ho hoo hr
        go_enter Try.func10, Try.ntmps10
        go_wp2_with fail
        refine (knownTwo_impl g _).mono ?_
        rintro r w0 ⟨rfl, hb⟩
        have HB0 : Hid (Below w.heap.size w w0) := bTrans (bAlloc (bAlloc (bAlloc (Below.refl _ _) _) _) _) hb
        have X0 : Hid (Box w0 w.heap.size (.slice a s.length c) (.slice b d.length f) 26) := (((box_new w _ _ _).keep (bAlloc (Below.refl _ _) _)).keep (bAlloc (Below.refl _ _) _)).keep hb
        have Y0 : Hid (Box w0 (w.heap.size + 1) (.slice a' t.length c') (.slice b' e.length f') 26) := ((box_new2 w _ _ _ _).keep (bAlloc (Below.refl _ _) _)).keep hb
        have R0 : Hid (Box w0 (w.heap.size + 1 + 1) (.slice none 0 0) (.slice none 0 0) 26) := (box3o w _ _ _ _ _).keep hb
        clear hb
        rw [HG.out]
        have x0 := X0.out.c0
        have x1 := X0.out.c1
        have y0 := Y0.out.c0
        have y1 := Y0.out.c1
        go_wp2_with fail
        refine (HOK.out _ _ (bAlloc HB0.out _) (by exact heap_alloc_new w0 _)).mono ?_
        rintro r w1 ⟨rfl, hb⟩
        have hb2 : Below w0.heap.size w0 w1 := bTrans (bAlloc (Below.refl _ _) _) hb
        have X1 : Hid (Box w1 w.heap.size (.slice a s.length c) (.slice b d.length f) 26) := X0.out.keep hb2
        have Y1 : Hid (Box w1 (w.heap.size + 1) (.slice a' t.length c') (.slice b' e.length f') 26) := Y0.out.keep hb2
        have R1 : Hid (Box w1 (w.heap.size + 1 + 1) (.slice none 0 0) (.slice none 0 0) 26) := R0.out.keep hb2
        have HB1 : Hid (Below w.heap.size w w1) := bTrans HB0.out hb2
        clear x0 x1 y0 y1
        clear hb hb2 X0 Y0 R0 HB0
        have LT : Hid (w.heap.size + 1 + 1 < w1.heap.size) := R1.out.lt
        have x0 := X1.out.c0
        have x1 := X1.out.c1
        have y0 := Y1.out.c0
        have y1 := Y1.out.c1
        have r0 := R1.out.c0
        have r1 := R1.out.c1
        have f0 : w1.frozen? ⟨w.heap.size + 1 + 1, 0, none⟩ = false := free_at R1.out 0
        have f1 : w1.frozen? ⟨w.heap.size + 1 + 1, 1, none⟩ = false := free_at R1.out 1
        have HR : Hid (((w1.setCell ⟨w.heap.size + 1 + 1, 0, none⟩ (.slice none 0 0)).setCell ⟨w.heap.size + 1 + 1, 1, none⟩ (.slice none 0 0)).heap[w.heap.size + 1 + 1]? = some (.cells #[.slice none 0 0, .slice none 0 0] 26 (0, 0))) := arr_stored R1.out
        go_wp2
        refine bodyPost_ret (results_arr_tmp Try.results10 _ _ (w.heap.size + 1 + 1) _ _ rfl HR.out) rfl ?_
        exact ⟨_, rfl, arr_zero _ _ _, below_setCell (below_setCell HB1.out (by omega) _ _) (by omega) _ _⟩
      · rw [if_neg hr] at EP
        have hri : ¬ (3 : Int) < (s.length : Int) + (t.length : Int) := by omega
        have HOS := outer_strung (s ++ t) ho.1 ho.2 hg
        obtain ⟨SH, hSH⟩ : ∃ SH, SH = s ++ t := ⟨_, rfl⟩
        have hSL : SH.length ≤ 6 := by rw [hSH, List.length_append]; omega
        rw [← hSH] at EP HOS
        rw [EP, ← HOS]
        have HO1 : Hid (arrOk s d = true ∧ arrOk t e = true) := ho
        have HCC : Hid (∀ (W : World) (o : Nat), Below w.heap.size w W → W.heap[o]? = some (.cells #[.slice a s.length c, .slice a' t.length c'] 24 (0, 0)) → Calls Try.prog 27 #[.slice (some ⟨o, 0, none⟩) 2 2] W fun r w' => ∃ a' k', r = .returned (.slice a' SH.length k') ∧ NewInts W.heap.size w' (.slice a' SH.length k') SH ∧ Below W.heap.size W w') := fun W o hb ho => by
          rw [hSH]
          exact concat_impl (I1.out.keep hb) (J1.out.keep hb) (by omega) ho
        have HST : Hid (∀ (W : World) (o q p B E : Nat) (a3 : Option Addr) (c3 : Nat), 0 ≤ sizeV SH → Below w.heap.size w W → W.cell? ⟨p, 0, none⟩ = some (.func (.func 51) #[] #[.pointer (some ⟨o, 0, none⟩), .pointer (some ⟨q, 0, none⟩)]) → p < W.heap.size → Box W w.heap.size (.slice a s.length c) (.slice b d.length f) 26 → W.cell? ⟨o, 0, none⟩ = some (.int .i64 g) → o < W.heap.size → Box W q (.slice a' t.length c') (.slice b' e.length f') 26 → Piece B E W (.slice a3 SH.length c3) SH → B ≤ W.heap.size → E ≤ W.heap.size →
            Calls Try.prog 30 #[.slice a3 SH.length c3, .int .i64 (d.length : Int), .func (.func 31) #[] #[.pointer (some ⟨p, 0, none⟩), .pointer (some ⟨w.heap.size, 0, none⟩)]] W fun r w' => ∃ v', r = .returned (.tuple #[v', .int .i64 (firstC (fun k => eachTwoC g [] [d.getD k 0] t e) d.length)]) ∧ Arr B w'.heap.size w' v' (mkR (firstC (fun k => eachTwoC g [] [d.getD k 0] t e) d.length) SH ((List.range d.length).flatMap (fun k => eachTwoD g [] [d.getD k 0] t e))).2.1 (mkR (firstC (fun k => eachTwoC g [] [d.getD k 0] t e) d.length) SH ((List.range d.length).flatMap (fun k => eachTwoD g [] [d.getD k 0] t e))).2.2 ∧ Below W.heap.size W w') := fun W o q p B E a3 c3 hz hb hp lp hm hg ho hq hS hB hE => by
          refine strung_impl (T := fun k => eachTwoS g [] [d.getD k 0] t e) (enters_of Try.func31 (by kernel_rfl) rfl) hS hB hE hz (by omega) (fun k hk => ?_) (fun W' k hk hb' => ?_)
          · have q1 := spread_bound g d t e k
            have q2 : k * 300 ≤ 300 * 300 := Nat.mul_le_mul_right _ (by omega)
            omega
          · exact outer1_impl ((hb'.cell (p := ⟨p, 0, none⟩) lp).trans hp) (hm.keep hb') (I2.out.keep (bTrans hb hb')) (Nat.lt_of_lt_of_le lp hb'.size) hk hd3 ((hb'.cell (p := ⟨o, 0, none⟩) ho).trans hg) (Nat.lt_of_lt_of_le ho hb'.size) (hq.keep hb') (K.out.keep (bTrans hb hb')) ht he
        have ECODE : Hid ((mkR (firstC (fun k => eachTwoC g [] [d.getD k 0] t e) d.length) SH ((List.range d.length).flatMap (fun k => eachTwoD g [] [d.getD k 0] t e))).1 = firstC (fun k => eachTwoC g [] [d.getD k 0] t e) d.length) := mkR_code _ _ _
        generalize firstC (fun k => eachTwoC g [] [d.getD k 0] t e) d.length = FC at *
        generalize (List.range d.length).flatMap (fun k => eachTwoD g [] [d.getD k 0] t e) = FD at *
        obtain ⟨x, hx⟩ : ∃ x, x = (if sizeV SH < 0 then ((6 : Int), ([] : List Int), ([] : List Int)) else mkR FC SH FD).1 := ⟨_, rfl⟩
        obtain ⟨S, hS⟩ : ∃ S, S = (if sizeV SH < 0 then ((6 : Int), ([] : List Int), ([] : List Int)) else mkR FC SH FD).2.1 := ⟨_, rfl⟩
        obtain ⟨D, hD⟩ : ∃ D, D = (if sizeV SH < 0 then ((6 : Int), ([] : List Int), ([] : List Int)) else mkR FC SH FD).2.2 := ⟨_, rfl⟩
        rw [← hx, ← hS, ← hD]
        have E6 : Hid (sizeV SH < 0 → x = 6 ∧ S = [] ∧ D = []) := fun q => by
          rw [if_pos q] at hx hS hD; exact ⟨hx, hS, hD⟩
        have E0 : Hid (0 ≤ sizeV SH → x = FC ∧ (mkR FC SH FD).2.1 = S ∧ (mkR FC SH FD).2.2 = D) := fun q => by
          rw [if_neg (by omega)] at hx hS hD; rw [ECODE.out] at hx; exact ⟨hx, hS.symm, hD.symm⟩
        clear EP HOS ho hoo hr hSH hs hd ht he hx hS hD ECODE
        go_enter Try.func10, Try.ntmps10
        go_wp2_with fail
        refine (knownTwo_impl g _).mono ?_
        rintro r w0 ⟨rfl, hb⟩
        have HB0 : Hid (Below w.heap.size w w0) := bTrans (bAlloc (bAlloc (bAlloc (Below.refl _ _) _) _) _) hb
        have X0 : Hid (Box w0 w.heap.size (.slice a s.length c) (.slice b d.length f) 26) := (((box_new w _ _ _).keep (bAlloc (Below.refl _ _) _)).keep (bAlloc (Below.refl _ _) _)).keep hb
        have Y0 : Hid (Box w0 (w.heap.size + 1) (.slice a' t.length c') (.slice b' e.length f') 26) := ((box_new2 w _ _ _ _).keep (bAlloc (Below.refl _ _) _)).keep hb
        have R0 : Hid (Box w0 (w.heap.size + 1 + 1) (.slice none 0 0) (.slice none 0 0) 26) := (box3o w _ _ _ _ _).keep hb
        clear hb
        rw [HG.out]
        have x0 := X0.out.c0
        have x1 := X0.out.c1
        have y0 := Y0.out.c0
        have y1 := Y0.out.c1
        go_wp2_with fail
        refine (HOK.out _ _ (bAlloc HB0.out _) (by exact heap_alloc_new w0 _)).mono ?_
        rintro r w1 ⟨rfl, hb⟩
        have hb2 : Below w0.heap.size w0 w1 := bTrans (bAlloc (Below.refl _ _) _) hb
        have X1 : Hid (Box w1 w.heap.size (.slice a s.length c) (.slice b d.length f) 26) := X0.out.keep hb2
        have Y1 : Hid (Box w1 (w.heap.size + 1) (.slice a' t.length c') (.slice b' e.length f') 26) := Y0.out.keep hb2
        have R1 : Hid (Box w1 (w.heap.size + 1 + 1) (.slice none 0 0) (.slice none 0 0) 26) := R0.out.keep hb2
        have HB1 : Hid (Below w.heap.size w w1) := bTrans HB0.out hb2
        clear x0 x1 y0 y1
        clear hb hb2 X0 Y0 R0 HB0
        have LT : Hid (w.heap.size + 1 + 1 < w1.heap.size) := R1.out.lt
        have x0 := X1.out.c0
        have x1 := X1.out.c1
        have y0 := Y1.out.c0
        have y1 := Y1.out.c1
        go_wp2_with fail
        refine (HCC.out _ _ (bAlloc HB1.out _) (by exact heap_alloc_new w1 _)).mono ?_
        rintro r w3 ⟨a3, c3, rfl, hn, hbb⟩
        have hb : Below w1.heap.size w1 w3 := bTrans (bAlloc (Below.refl _ _) _) hbb
        have N3 : Hid (NewInts w1.heap.size w3 (.slice a3 SH.length c3) SH) := hn.mono (by simp)
        have X3 : Hid (Box w3 w.heap.size (.slice a s.length c) (.slice b d.length f) 26) := X1.out.keep hb
        have Y3 : Hid (Box w3 (w.heap.size + 1) (.slice a' t.length c') (.slice b' e.length f') 26) := Y1.out.keep hb
        have R3 : Hid (Box w3 (w.heap.size + 1 + 1) (.slice none 0 0) (.slice none 0 0) 26) := R1.out.keep hb
        have HB3 : Hid (Below w.heap.size w w3) := bTrans HB1.out hb
        have L13 : Hid (w1.heap.size ≤ w3.heap.size) := hb.size
        clear hn hbb hb HCC X1 Y1 R1 HB1
        clear x0 x1 y0 y1
        obtain ⟨_, _, ev, i3⟩ := N3.out.ints
        cases ev
        have HSO : Hid (Calls Try.prog 28 #[.slice a3 SH.length c3] w3 fun r w' => r = .returned (.bool (decide (0 ≤ sizeV SH))) ∧ Below w3.heap.size w3 w') := ok_impl c3 i3
        clear i3
        go_wp2_with fail
        refine (HSO.out).mono ?_
        rintro r w4 ⟨rfl, hb⟩
        have X4 : Hid (Box w4 w.heap.size (.slice a s.length c) (.slice b d.length f) 26) := X3.out.keep hb
        have Y4 : Hid (Box w4 (w.heap.size + 1) (.slice a' t.length c') (.slice b' e.length f') 26) := Y3.out.keep hb
        have R4 : Hid (Box w4 (w.heap.size + 1 + 1) (.slice none 0 0) (.slice none 0 0) 26) := R3.out.keep hb
        have HB4 : Hid (Below w.heap.size w w4) := bTrans HB3.out hb
        have P4 : Hid (Piece w1.heap.size w3.heap.size w4 (.slice a3 SH.length c3) SH) := N3.out.piece.keep hb
        have L34 : Hid (w3.heap.size ≤ w4.heap.size) := hb.size
        clear hb HSO N3 X3 Y3 R3 HB3
        by_cases hz : 0 ≤ sizeV SH
        · have hdz : decide (0 ≤ sizeV SH) = true := by simpa using hz
          rw [hdz]
          have HZ : Hid (0 ≤ sizeV SH) := hz
          obtain ⟨rfl, eS, eD⟩ := E0.out hz
          rw [eS, eD] at HST
          clear hdz hz E0 E6 eS eD
          have x0 := X4.out.c0
          have x1 := X4.out.c1
          have y0 := Y4.out.c0
          have y1 := Y4.out.c1
          go_wp2_with fail
          refine (spreading_impl g _ _ _).mono ?_
          rintro r w5 ⟨rfl, hc, hx, hb, hsz⟩
          have C5 : Hid (w5.cell? ⟨w4.heap.size, 0, none⟩ = some (.int .i64 g)) := hc
          have Z5 : Hid (Box w5 (w4.heap.size + 1) (.slice a' t.length c') (.slice b' e.length f') 26) := hx
          have L45 : Hid (w4.heap.size + 2 ≤ w5.heap.size) := hsz
          have X5 : Hid (Box w5 w.heap.size (.slice a s.length c) (.slice b d.length f) 26) := X4.out.keep hb
          have Y5 : Hid (Box w5 (w.heap.size + 1) (.slice a' t.length c') (.slice b' e.length f') 26) := Y4.out.keep hb
          have R5 : Hid (Box w5 (w.heap.size + 1 + 1) (.slice none 0 0) (.slice none 0 0) 26) := R4.out.keep hb
          have HB5 : Hid (Below w.heap.size w w5) := bTrans HB4.out hb
          have P5 : Hid (Piece w1.heap.size w3.heap.size w5 (.slice a3 SH.length c3) SH) := P4.out.keep hb
          clear hc hx hb hsz X4 Y4 R4 HB4 P4
          clear x0 x1 y0 y1
          obtain ⟨FN, hFN⟩ : ∃ FN, FN = Value.func (.func 51) #[] #[.pointer (some ⟨w4.heap.size, 0, none⟩), .pointer (some ⟨w4.heap.size + 1, 0, none⟩)] := ⟨_, rfl⟩
          have BA : Hid (∀ O, Below w5.heap.size w5 (w5.alloc O)) := fun O => bAlloc (Below.refl _ _) O
          have X6 : Hid (∀ O, Box (w5.alloc O) w.heap.size (.slice a s.length c) (.slice b d.length f) 26) := fun O => X5.out.keep (BA.out O)
          have x1 : ∀ O, (w5.alloc O).cell? ⟨w.heap.size, 1, none⟩ = some (.slice b d.length f) := fun O => (X6.out O).c1
          clear hFN
          go_wp2_with fail
          refine (HST.out _ w4.heap.size (w4.heap.size + 1) w5.heap.size w1.heap.size w3.heap.size a3 c3 HZ.out (bTrans HB5.out (BA.out _)) (by exact cell_at (heap_alloc_new w5 _) rfl) (by simp) (X6.out _) (((BA.out _).cell (p := ⟨w4.heap.size, 0, none⟩) (by have := L45.out; show w4.heap.size < w5.heap.size; omega)).trans C5.out) (by have := L45.out; simp; omega) (Z5.out.keep (BA.out _)) (P5.out.keep (BA.out _)) (by have := L45.out; have := L34.out; have := L13.out; simp; omega) (by have := L45.out; have := L34.out; simp; omega)).mono ?_
          rintro r w7 ⟨v7, rfl, ha, hbb⟩
          obtain ⟨a7, k7, b7, f7, rfl, _, _, _, _⟩ := ha.arrI
          have hb : Below w5.heap.size w5 w7 := bTrans (BA.out _) hbb
          have HA7 : Hid (Arr w1.heap.size w7.heap.size w7 (.agg #[.slice a7 S.length k7, .slice b7 D.length f7]) S D) := ha
          have R7 : Hid (Box w7 (w.heap.size + 1 + 1) (.slice none 0 0) (.slice none 0 0) 26) := R5.out.keep hb
          have HB7 : Hid (Below w.heap.size w w7) := bTrans HB5.out hb
          clear ha hb hbb HST X5 Y5 R5 HB5 P5 C5 Z5 X6 x1 BA
          have r0 := R7.out.c0
          have r1 := R7.out.c1
          have f0 : w7.frozen? ⟨w.heap.size + 1 + 1, 0, none⟩ = false := free_at R7.out 0
          have f1 : w7.frozen? ⟨w.heap.size + 1 + 1, 1, none⟩ = false := free_at R7.out 1
          have HR : Hid (((w7.setCell ⟨w.heap.size + 1 + 1, 0, none⟩ (.slice a7 S.length k7)).setCell ⟨w.heap.size + 1 + 1, 1, none⟩ (.slice b7 D.length f7)).heap[w.heap.size + 1 + 1]? = some (.cells #[.slice a7 S.length k7, .slice b7 D.length f7] 26 (0, 0))) := arr_stored R7.out
          go_wp2
          refine bodyPost_ret (results_arr_tmp Try.results10 _ _ (w.heap.size + 1 + 1) _ _ rfl HR.out) rfl ?_
          refine ⟨_, rfl, ?_, below_setCell (below_setCell HB7.out (by omega) _ _) (by omega) _ _⟩
          have L := LT.out
          exact ((HA7.out.setCell L _ _).setCell L _ _).mono (by omega) (by simp [size_setCell])
        · have hdz : decide (0 ≤ sizeV SH) = false := by simpa using hz
          rw [hdz]
          obtain ⟨rfl, rfl, rfl⟩ := E6.out (by omega)
          clear hdz E0 E6 HST
          have r0 := R4.out.c0
          have r1 := R4.out.c1
          have f0 : w4.frozen? ⟨w.heap.size + 1 + 1, 0, none⟩ = false := free_at R4.out 0
          have f1 : w4.frozen? ⟨w.heap.size + 1 + 1, 1, none⟩ = false := free_at R4.out 1
          have HR : Hid (((w4.setCell ⟨w.heap.size + 1 + 1, 0, none⟩ (.slice none 0 0)).setCell ⟨w.heap.size + 1 + 1, 1, none⟩ (.slice none 0 0)).heap[w.heap.size + 1 + 1]? = some (.cells #[.slice none 0 0, .slice none 0 0] 26 (0, 0))) := arr_stored R4.out
          go_wp2
          refine bodyPost_ret (results_arr_tmp Try.results10 _ _ (w.heap.size + 1 + 1) _ _ rfl HR.out) rfl ?_
          exact ⟨_, rfl, arr_zero _ _ _, below_setCell (below_setCell HB4.out (by omega) _ _) (by omega) _ _⟩
    · have hoo : (arrOk s d && arrOk t e) = false := by
        cases h1 : arrOk s d <;> cases h2 : arrOk t e <;> simp_all
      rw [outerR_bad (fun q => ho ⟨q.1, q.2.1⟩)]
      rw [hoo] at HOK
      clear ho hoo
      go_enter Try.func10, Try.ntmps10
      go_wp2_with fail
      refine (knownTwo_impl g _).mono ?_
      rintro r w0 ⟨rfl, hb⟩
      have HB0 : Hid (Below w.heap.size w w0) := bTrans (bAlloc (bAlloc (bAlloc (Below.refl _ _) _) _) _) hb
      have X0 : Hid (Box w0 w.heap.size (.slice a s.length c) (.slice b d.length f) 26) := (((box_new w _ _ _).keep (bAlloc (Below.refl _ _) _)).keep (bAlloc (Below.refl _ _) _)).keep hb
      have Y0 : Hid (Box w0 (w.heap.size + 1) (.slice a' t.length c') (.slice b' e.length f') 26) := ((box_new2 w _ _ _ _).keep (bAlloc (Below.refl _ _) _)).keep hb
      have R0 : Hid (Box w0 (w.heap.size + 1 + 1) (.slice none 0 0) (.slice none 0 0) 26) := (box3o w _ _ _ _ _).keep hb
      clear hb
      rw [HG.out]
      have x0 := X0.out.c0
      have x1 := X0.out.c1
      have y0 := Y0.out.c0
      have y1 := Y0.out.c1
      go_wp2_with fail
      refine (HOK.out _ _ (bAlloc HB0.out _) (by exact heap_alloc_new w0 _)).mono ?_
      rintro r w1 ⟨rfl, hb⟩
      have hb2 : Below w0.heap.size w0 w1 := bTrans (bAlloc (Below.refl _ _) _) hb
      have X1 : Hid (Box w1 w.heap.size (.slice a s.length c) (.slice b d.length f) 26) := X0.out.keep hb2
      have Y1 : Hid (Box w1 (w.heap.size + 1) (.slice a' t.length c') (.slice b' e.length f') 26) := Y0.out.keep hb2
      have R1 : Hid (Box w1 (w.heap.size + 1 + 1) (.slice none 0 0) (.slice none 0 0) 26) := R0.out.keep hb2
      have HB1 : Hid (Below w.heap.size w w1) := bTrans HB0.out hb2
      clear x0 x1 y0 y1
      clear hb hb2 X0 Y0 R0 HB0
      have LT : Hid (w.heap.size + 1 + 1 < w1.heap.size) := R1.out.lt
      have r0 := R1.out.c0
      have r1 := R1.out.c1
      have f0 : w1.frozen? ⟨w.heap.size + 1 + 1, 0, none⟩ = false := free_at R1.out 0
      have f1 : w1.frozen? ⟨w.heap.size + 1 + 1, 1, none⟩ = false := free_at R1.out 1
      have HR : Hid (((w1.setCell ⟨w.heap.size + 1 + 1, 0, none⟩ (.slice none 0 0)).setCell ⟨w.heap.size + 1 + 1, 1, none⟩ (.slice none 0 0)).heap[w.heap.size + 1 + 1]? = some (.cells #[.slice none 0 0, .slice none 0 0] 26 (0, 0))) := arr_stored R1.out
      go_wp2
      refine bodyPost_ret (results_arr_tmp Try.results10 _ _ (w.heap.size + 1 + 1) _ _ rfl HR.out) rfl ?_
      exact ⟨_, rfl, arr_zero _ _ _, below_setCell (below_setCell HB1.out (by omega) _ _) (by omega) _ _⟩
  · have HG : Hid (sign2 g = false) := by show _ = _; simpa using hg
    rw [outerR_bad (fun q => hg q.2.2)]
    clear hg
    go_enter Try.func10, Try.ntmps10
    go_wp2_with fail
    refine (knownTwo_impl g _).mono ?_
    rintro r w0 ⟨rfl, hb⟩
    have HB0 : Hid (Below w.heap.size w w0) := bTrans (bAlloc (bAlloc (bAlloc (Below.refl _ _) _) _) _) hb
    have X0 : Hid (Box w0 w.heap.size (.slice a s.length c) (.slice b d.length f) 26) := (((box_new w _ _ _).keep (bAlloc (Below.refl _ _) _)).keep (bAlloc (Below.refl _ _) _)).keep hb
    have Y0 : Hid (Box w0 (w.heap.size + 1) (.slice a' t.length c') (.slice b' e.length f') 26) := ((box_new2 w _ _ _ _).keep (bAlloc (Below.refl _ _) _)).keep hb
    have R0 : Hid (Box w0 (w.heap.size + 1 + 1) (.slice none 0 0) (.slice none 0 0) 26) := (box3o w _ _ _ _ _).keep hb
    clear hb
    rw [HG.out]
    have r0 := R0.out.c0
    have r1 := R0.out.c1
    have f0 : w0.frozen? ⟨w.heap.size + 1 + 1, 0, none⟩ = false := free_at R0.out 0
    have f1 : w0.frozen? ⟨w.heap.size + 1 + 1, 1, none⟩ = false := free_at R0.out 1
    have HR : Hid (((w0.setCell ⟨w.heap.size + 1 + 1, 0, none⟩ (.slice none 0 0)).setCell ⟨w.heap.size + 1 + 1, 1, none⟩ (.slice none 0 0)).heap[w.heap.size + 1 + 1]? = some (.cells #[.slice none 0 0, .slice none 0 0] 26 (0, 0))) := arr_stored R0.out
    go_wp2
    refine bodyPost_ret (results_arr_tmp Try.results10 _ _ (w.heap.size + 1 + 1) _ _ rfl HR.out) rfl ?_
    exact ⟨_, rfl, arr_zero _ _ _, below_setCell (below_setCell HB0.out (by omega) _ _) (by omega) _ _⟩
end Go.Proofs.Ythbppjkafbhdaaa
namespace Go.Proofs.Ythbppjkafbhdaaa
open Go.RowKit
set_option linter.unusedVariables false
set_option linter.unusedSimpArgs false
set_option maxHeartbeats 1000000 in
theorem rev_none {l : List Int} {a : Option Addr} {c : Nat} {w : World} (hl : l.length = 0 ∨ l.length = 1) :
    Calls Try.prog 54 #[.slice a l.length c] w fun r w' => (∃ v, r = .returned v) ∧ w' = w := by
  rcases hl with hl | hl
  all_goals
    rw [hl]
    go_enter Try.func54, Try.ntmps54
    go_wp2
    refine wp_loop_rounds 1 ?_
    rw [rounds_succ]
    go_wp2
    go_end0
    exact ⟨⟨_, rfl⟩, rfl⟩
set_option maxHeartbeats 1000000 in
theorem rev_two {B C g off c : Nat} {x y z : Int} {w : World} (h : Piece B C w (.slice (some ⟨g, off, none⟩) 2 c) [x, y]) :
    Calls Try.prog 54 #[.slice (some ⟨g, off, none⟩) 2 c] w fun r w' => (∃ v, r = .returned v) ∧ w' = (w.drew.setCell ⟨g, off, none⟩ (.int .i64 y)).setCell ⟨g, off + 1, none⟩ (.int .i64 x) := by
  obtain ⟨t0, t1, _, _, _⟩ := h.cellAt (k := 0) (by simp)
  obtain ⟨u0, u1, _, _, _⟩ := h.cellAt (k := 1) (by simp)
  rw [Nat.add_zero] at t0 t1
  have t0 : w.cell? ⟨g, off, none⟩ = some (.int .i64 x) := t0
  have u0 : w.cell? ⟨g, off + 1, none⟩ = some (.int .i64 y) := u0
  clear h
  go_enter Try.func54, Try.ntmps54
  go_wp2
  refine wp_loop_rounds 2 ?_
  rw [rounds_succ]
  go_wp2
  go_region
  go_wp2
  rw [rounds_succ]
  go_wp2
  go_end0
  exact ⟨⟨_, rfl⟩, rfl⟩
set_option maxHeartbeats 1000000 in
theorem rev_three {B C g off c : Nat} {x y z : Int} {w : World} (h : Piece B C w (.slice (some ⟨g, off, none⟩) 3 c) [x, z, y]) :
    Calls Try.prog 54 #[.slice (some ⟨g, off, none⟩) 3 c] w fun r w' => (∃ v, r = .returned v) ∧ w' = (w.drew.setCell ⟨g, off, none⟩ (.int .i64 y)).setCell ⟨g, off + 2, none⟩ (.int .i64 x) := by
  obtain ⟨t0, t1, _, _, _⟩ := h.cellAt (k := 0) (by simp)
  obtain ⟨u0, u1, _, _, _⟩ := h.cellAt (k := 2) (by simp)
  rw [Nat.add_zero] at t0 t1
  have t0 : w.cell? ⟨g, off, none⟩ = some (.int .i64 x) := t0
  have u0 : w.cell? ⟨g, off + 2, none⟩ = some (.int .i64 y) := u0
  clear h
  go_enter Try.func54, Try.ntmps54
  go_wp2
  refine wp_loop_rounds 2 ?_
  rw [rounds_succ]
  go_wp2
  go_region
  go_wp2
  rw [rounds_succ]
  go_wp2
  go_end0
  exact ⟨⟨_, rfl⟩, rfl⟩
/-- slices.Reverse, on a list of one's own of up to three numbers. -/
theorem reverse_impl {B C g off c : Nat} {l : List Int} {w : World} (h : Piece B C w (.slice (some ⟨g, off, none⟩) l.length c) l) (hl : l.length ≤ 3) (hg : l ≠ [] → B ≤ g ∧ g < C) :
    Calls Try.prog 54 #[.slice (some ⟨g, off, none⟩) l.length c] w fun r w' => (∃ v, r = .returned v) ∧ Piece B C w' (.slice (some ⟨g, off, none⟩) l.length c) l.reverse ∧ (w' = w ∨ l ≠ [] ∧ ∃ k y x, w' = (w.drew.setCell ⟨g, off, none⟩ y).setCell ⟨g, off + k, none⟩ x) := by
  match l, hl, h with
  | [], _, h =>
    refine (rev_none (l := []) (.inl rfl)).mono ?_
    rintro r w' ⟨hr, rfl⟩
    exact ⟨hr, h, .inl rfl⟩
  | [x], _, h =>
    refine (rev_none (l := [x]) (.inr rfl)).mono ?_
    rintro r w' ⟨hr, rfl⟩
    exact ⟨hr, h, .inl rfl⟩
  | [x, y], _, h =>
    refine (rev_two (z := 0) h).mono ?_
    rintro r w' ⟨hr, rfl⟩
    refine ⟨hr, ?_, .inr ⟨by simp, 1, _, _, rfl⟩⟩
    have h1 : Piece B C w.drew (.slice (some ⟨g, off, none⟩) 2 c) [x, y] := h.keep (Below.refl w.heap.size w).drew
    have h2 := Piece.set (l := [x, y]) h1 (k := 0) (by simp) y
    have h3 := Piece.set (l := [y, y]) h2 (k := 1) (by simp) x
    exact h3
  | [x, z, y], _, h =>
    refine (rev_three h).mono ?_
    rintro r w' ⟨hr, rfl⟩
    refine ⟨hr, ?_, .inr ⟨by simp, 2, _, _, rfl⟩⟩
    have h1 : Piece B C w.drew (.slice (some ⟨g, off, none⟩) 3 c) [x, z, y] := h.keep (Below.refl w.heap.size w).drew
    have h2 := Piece.set (l := [x, z, y]) h1 (k := 0) (by simp) y
    have h3 := Piece.set (l := [y, z, y]) h2 (k := 2) (by simp) x
    exact h3
  | _ :: _ :: _ :: _ :: _, hl, _ => simp at hl
end Go.Proofs.Ythbppjkafbhdaaa
