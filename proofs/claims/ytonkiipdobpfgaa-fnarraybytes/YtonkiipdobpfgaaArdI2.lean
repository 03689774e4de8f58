/-
  Walks: the program's ArrayRead.
-/
import Derived.Test.YtonkiipdobpfgaaArdI
import Derived.Test.YtonkiipdobpfgaaImplArr3
namespace Go.Proofs.Ytonkiipdobpfgaa
open Go.RowKit
set_option linter.unusedVariables false
set_option linter.unusedSimpArgs false
/-- What ArrayRead answers. -/
def ArdPost (w : World) (b : List Int) (r : Ending) (w' : World) : Prop :=
  ∃ v', r = .returned (.tuple #[v', .bool (ardB b)]) ∧ Arr w.heap.size w'.heap.size w' v' (if ardB b = true then shB b else []) (if ardB b = true then dtB b else []) ∧ Below w.heap.size w w'
theorem ardPost_no {w w' : World} {b : List Int} {r : Ending} (e : ardB b = false) (h : ∃ v', r = .returned (.tuple #[v', .bool false]) ∧ Arr w.heap.size w'.heap.size w' v' [] [] ∧ Below w.heap.size w w') : ArdPost w b r w' := by
  unfold ArdPost
  rw [e, if_neg (by decide), if_neg (by decide)]
  exact h
set_option maxRecDepth 20000 in
set_option maxHeartbeats 8000000 in
/-- The program's ArrayRead. -/
theorem arrayRead_impl {b : List Int} {a : Option Addr} {n c : Nat} {w : World} (h : Bys w a b) (hb : isB b) (hn : b.length = n) (hc : n ≤ c) (hm : n ≤ 1048576) (hcm : c ≤ 9223372036854775807) :
    Calls Try.prog 17 #[.slice a n c] w fun r w' => ArdPost w b r w' := by
  by_cases hq : n < offB b
  · have SA : Hid (∀ W, Below w.heap.size w W → Calls Try.prog 32 #[.slice a n c] W fun r w' => r = .returned (.tuple #[.slice none 0 0, .slice none 0 0, .bool false]) ∧ Below W.heap.size W w') := fun W hW => shapeAhead_bad (h.keep hW) hb hn hc hm hcm hq
    have NO : Hid (ardB b = false) := ardB_short (by omega)
    clear h hb hn hq hc hm hcm
    go_enter Try.func17, Try.ntmps17
    go_wp2_with fail
    refine (SA.out _ (bAlloc (Below.refl _ _) _)).mono ?_
    rintro r w1 ⟨rfl, hb⟩
    have HB : Hid (Below w.heap.size w w1) := bTrans (bAlloc (Below.refl _ _) _) hb
    have Y : Hid (Box w1 w.heap.size (.slice none 0 0) (.slice none 0 0) 29) := (box_new w _ _ _).keep hb
    clear hb SA
    have y0 := Y.out.c0
    have y1 := Y.out.c1
    have f0 : w1.frozen? ⟨w.heap.size, 0, none⟩ = false := free_at Y.out 0
    have f1 : w1.frozen? ⟨w.heap.size, 1, none⟩ = false := free_at Y.out 1
    have HR : Hid (((w1.setCell ⟨w.heap.size, 0, none⟩ (.slice none 0 0)).setCell ⟨w.heap.size, 1, none⟩ (.slice none 0 0)).heap[w.heap.size]? = some (.cells #[.slice none 0 0, .slice none 0 0] 29 (0, 0))) := arr_stored Y.out
    go_wp2
    refine bodyPost_ret (results_arr_tmp Try.results17 _ _ w.heap.size _ _ rfl HR.out) rfl (ardPost_no NO.out ?_)
    exact ⟨_, rfl, arr_zero _ _ _, below_setCell (below_setCell HB.out (Nat.le_refl _) _ _) (Nat.le_refl _) _ _⟩
  · obtain ⟨g, off, rfl, hg, _⟩ := h.at (k := 0) (by unfold offB at hq; omega)
    have SA : Hid (∀ W, Below w.heap.size w W → Calls Try.prog 32 #[.slice (some ⟨g, off, none⟩) n c] W fun r w' => ShPost W g n c b r w') := fun W hW => shapeAhead_good (h.keep hW) hb hn hc hm hcm (by omega)
    have HB : Hid (isB b) := hb
    have HN : Hid (b.length = n ∧ offB b ≤ n ∧ n ≤ 1048576 ∧ c ≤ 9223372036854775807) := ⟨hn, by omega, hm, hcm⟩
    have SZ : Hid (∀ (W : World) (x : Option Addr) (y : Nat), Ints W x (shB b) → Calls Try.prog 33 #[.slice x (rkB b) y] W fun e w' => e = .returned (.int .i64 (sizeV (shB b))) ∧ Below W.heap.size W w') := fun W x y hx => by
      have := size_impl y hx
      rw [shB_len] at this
      exact this
    have zb := sizeV_bd (shB b)
    by_cases hz : sizeV (shB b) * 8 = ((b.length - offB b : Nat) : Int)
    · have E8 := numB_size hz
      have m300 : numB b ≤ 300 := by omega
      have OKV : Hid (ardB b = arrOk (shB b) (dtB b)) := ardB_ok (by omega) hz
      rw [hn] at E8 hz
      have hz2 : (((8 * numB b : Nat) : Int) != sizeV (shB b) * 8) = false := by simp; omega
      have NU : Hid (∀ (W : World) (o c' : Nat), Bys W (some ⟨g, o, none⟩) (b.drop (offB b)) → 8 * numB b ≤ c' → c' ≤ 9223372036854775807 → Calls Try.prog 35 #[.slice (some ⟨g, o, none⟩) (8 * numB b) c'] W fun e w' => e = .returned (.slice (some ⟨W.heap.size, 0, none⟩) (numB b) (numB b)) ∧ Piece W.heap.size w'.heap.size w' (.slice (some ⟨W.heap.size, 0, none⟩) (numB b) (numB b)) (dtB b) ∧ Below W.heap.size W w') := fun W o c' hB h1 h2 =>
        numsOf_impl hB (isB_drop HB.out _) (by rw [List.length_drop, HN.out.1]; omega) h1 (by omega) h2
      have CI : Hid (∀ (W : World) (x y : Nat), Piece 0 W.heap.size W (.slice (some ⟨x, 0, none⟩) (rkB b) (rkB b)) (shB b) → Piece 0 W.heap.size W (.slice (some ⟨y, 0, none⟩) (numB b) (numB b)) (dtB b) → Calls Try.prog 34 #[.agg #[.slice (some ⟨x, 0, none⟩) (rkB b) (rkB b), .slice (some ⟨y, 0, none⟩) (numB b) (numB b)]] W fun r w' => ArdPost W b r w') := fun W x y h1 h2 => by
        have l1 : (shB b).length ≤ 1048576 := by rw [shB_len]; exact Nat.le_trans (rkB_le HB.out) (by decide)
        have l2 : (dtB b).length ≤ 1048576 := by rw [dtB_len]; omega
        obtain ⟨a1, c1, e1, i1⟩ := h1.ints
        obtain ⟨a2, c2, e2, i2⟩ := h2.ints
        rw [← (Value.slice.inj e1).1] at i1
        rw [← (Value.slice.inj e2).1] at i2
        have := copyIfOk_impl (v := .agg #[.slice (some ⟨x, 0, none⟩) (rkB b) (rkB b), .slice (some ⟨y, 0, none⟩) (numB b) (numB b)]) ⟨_, _, _, _, by rw [shB_len, dtB_len], i1, i2, by rw [shB_len]; exact Nat.le_refl _, by rw [dtB_len]; exact Nat.le_refl _⟩ l1 l2
        unfold ArdPost
        rw [OKV.out]
        exact this
      generalize sizeV (shB b) = z at *
      have RK : Hid (rkB b ≤ 255) := rkB_le HB.out
      unfold ShPost at SA
      rw [E8] at SA
      generalize numB b = m at *
      generalize rkB b = q at *
      clear h hb hn hq hc hg OKV
      go_enter Try.func17, Try.ntmps17
      go_wp2_with fail
      refine (SA.out _ (bAlloc (Below.refl _ _) _)).mono ?_
      rintro r w1 ⟨o1, c1, rfl, hc1, hc2, hBy, hP, hb⟩
      have B1 : Hid (Below w.heap.size w w1) := bTrans (bAlloc (Below.refl _ _) _) hb
      have Y1 : Hid (Box w1 w.heap.size (.slice none 0 0) (.slice none 0 0) 29) := (box_new w _ _ _).keep hb
      have BY1 : Hid (Bys w1 (some ⟨g, o1, none⟩) (b.drop (offB b))) := hBy.keep hb
      obtain ⟨s1, hs1⟩ : ∃ s1, s1 = (w.alloc (.cells #[.slice none 0 0, .slice none 0 0] 29)).heap.size := ⟨_, rfl⟩
      rw [← hs1] at hP ⊢
      have P1 : Hid (Piece s1 w1.heap.size w1 (.slice (some ⟨s1, 0, none⟩) q q) (shB b)) := hP
      have C1 : Hid (8 * m ≤ c1 ∧ c1 ≤ 9223372036854775807) := ⟨hc1, by have := HN.out; omega⟩
      have SZ1 : Hid (Calls Try.prog 33 #[.slice (some ⟨s1, 0, none⟩) q q] w1 fun e w' => e = .returned (.int .i64 z) ∧ Below w1.heap.size w1 w') := by
        obtain ⟨_, _, e, i⟩ := hP.ints
        rw [← (Value.slice.inj e).1] at i
        exact SZ.out _ _ _ i
      clear hb hBy hP SA hc1 hc2 SZ hs1
      go_wp2_with fail
      refine SZ1.out.mono ?_
      rintro r w2 ⟨rfl, hb⟩
      have B2 : Hid (Below w.heap.size w w2) := bTrans B1.out hb
      have Y2 : Hid (Box w2 w.heap.size (.slice none 0 0) (.slice none 0 0) 29) := Y1.out.keep hb
      have BY2 : Hid (Bys w2 (some ⟨g, o1, none⟩) (b.drop (offB b))) := BY1.out.keep hb
      have P2 : Hid (Piece s1 w1.heap.size w2 (.slice (some ⟨s1, 0, none⟩) q q) (shB b)) := P1.out.keep hb
      have L12 : Hid (w1.heap.size ≤ w2.heap.size) := hb.size
      clear hb SZ1 B1 Y1 BY1 P1
      go_wp2_with fail
      refine (NU.out _ _ _ BY2.out C1.out.1 C1.out.2).mono ?_
      rintro r w3 ⟨rfl, hP, hb⟩
      have B3 : Hid (Below w.heap.size w w3) := bTrans B2.out hb
      have Y3 : Hid (Box w3 w.heap.size (.slice none 0 0) (.slice none 0 0) 29) := Y2.out.keep hb
      have P3 : Hid (Piece s1 w1.heap.size w3 (.slice (some ⟨s1, 0, none⟩) q q) (shB b)) := P2.out.keep hb
      have Q3 : Hid (Piece w2.heap.size w3.heap.size w3 (.slice (some ⟨w2.heap.size, 0, none⟩) m m) (dtB b)) := hP
      have L23 : Hid (w2.heap.size ≤ w3.heap.size) := hb.size
      clear hb hP NU B2 Y2 P2 BY2
      go_wp2_with fail
      refine (CI.out _ _ _ (P3.out.mono (Nat.zero_le _) (by have := L12.out; have := L23.out; omega)) (Q3.out.mono (Nat.zero_le _) (Nat.le_refl _))).mono ?_
      rintro r w4 ⟨v', rfl, ha, hb⟩
      obtain ⟨S, hS⟩ : ∃ S, S = (if ardB b = true then shB b else []) := ⟨_, rfl⟩
      obtain ⟨D, hD⟩ : ∃ D, D = (if ardB b = true then dtB b else []) := ⟨_, rfl⟩
      rw [← hS, ← hD] at ha
      have HSD : Hid (S = (if ardB b = true then shB b else []) ∧ D = (if ardB b = true then dtB b else [])) := ⟨hS, hD⟩
      clear hS hD
      obtain ⟨a', c', b', e', rfl, _, _, _, _⟩ := ha.arrI
      have HA : Hid (Arr w3.heap.size w4.heap.size w4 (.agg #[.slice a' S.length c', .slice b' D.length e']) S D) := ha
      have B4 : Hid (Below w.heap.size w w4) := bTrans B3.out hb
      have Y4 : Hid (Box w4 w.heap.size (.slice none 0 0) (.slice none 0 0) 29) := Y3.out.keep hb
      have L3 : Hid (w.heap.size < w3.heap.size) := Y3.out.lt
      clear ha hb CI B3 Y3 P3 Q3
      have y0 := Y4.out.c0
      have y1 := Y4.out.c1
      have f0 : w4.frozen? ⟨w.heap.size, 0, none⟩ = false := free_at Y4.out 0
      have f1 : w4.frozen? ⟨w.heap.size, 1, none⟩ = false := free_at Y4.out 1
      have HR : Hid (((w4.setCell ⟨w.heap.size, 0, none⟩ (.slice a' S.length c')).setCell ⟨w.heap.size, 1, none⟩ (.slice b' D.length e')).heap[w.heap.size]? = some (.cells #[.slice a' S.length c', .slice b' D.length e'] 29 (0, 0))) := arr_stored Y4.out
      generalize hV : ardB b = V at *
      go_wp2
      refine bodyPost_ret (results_arr_tmp Try.results17 _ _ w.heap.size _ _ rfl HR.out) rfl ?_
      unfold ArdPost
      rw [hV, ← HSD.out.1, ← HSD.out.2]
      refine ⟨_, rfl, ?_, below_setCell (below_setCell B4.out (Nat.le_refl _) _ _) (Nat.le_refl _) _ _⟩
      have L := L3.out
      exact ((HA.out.setCell L _ _).setCell L _ _).mono (Nat.le_of_lt L) (by simp [size_setCell])
    · have NO : Hid (ardB b = false) := ardB_size hz
      rw [hn] at hz
      have hz2 : (((n - offB b : Nat) : Int) != sizeV (shB b) * 8) = true := by simp; omega
      generalize sizeV (shB b) = z at *
      unfold ShPost at SA
      have RK : Hid (rkB b ≤ 255) := rkB_le HB.out
      generalize rkB b = q at *
      generalize n - offB b = m at *
      clear h hb hn hq hc hg hz
      go_enter Try.func17, Try.ntmps17
      go_wp2_with fail
      refine (SA.out _ (bAlloc (Below.refl _ _) _)).mono ?_
      rintro r w1 ⟨o1, c1, rfl, hc1, hc2, hBy, hP, hb⟩
      have B1 : Hid (Below w.heap.size w w1) := bTrans (bAlloc (Below.refl _ _) _) hb
      have Y1 : Hid (Box w1 w.heap.size (.slice none 0 0) (.slice none 0 0) 29) := (box_new w _ _ _).keep hb
      obtain ⟨s1, hs1⟩ : ∃ s1, s1 = (w.alloc (.cells #[.slice none 0 0, .slice none 0 0] 29)).heap.size := ⟨_, rfl⟩
      rw [← hs1] at hP ⊢
      have SZ1 : Hid (Calls Try.prog 33 #[.slice (some ⟨s1, 0, none⟩) q q] w1 fun e w' => e = .returned (.int .i64 z) ∧ Below w1.heap.size w1 w') := by
        obtain ⟨_, _, e, i⟩ := hP.ints
        rw [← (Value.slice.inj e).1] at i
        exact SZ.out _ _ _ i
      clear hb hBy hP SA hc1 hc2 SZ hs1
      go_wp2_with fail
      refine SZ1.out.mono ?_
      rintro r w2 ⟨rfl, hb⟩
      have B2 : Hid (Below w.heap.size w w2) := bTrans B1.out hb
      have Y2 : Hid (Box w2 w.heap.size (.slice none 0 0) (.slice none 0 0) 29) := Y1.out.keep hb
      clear hb SZ1 B1 Y1
      have y0 := Y2.out.c0
      have y1 := Y2.out.c1
      have f0 : w2.frozen? ⟨w.heap.size, 0, none⟩ = false := free_at Y2.out 0
      have f1 : w2.frozen? ⟨w.heap.size, 1, none⟩ = false := free_at Y2.out 1
      have HR : Hid (((w2.setCell ⟨w.heap.size, 0, none⟩ (.slice none 0 0)).setCell ⟨w.heap.size, 1, none⟩ (.slice none 0 0)).heap[w.heap.size]? = some (.cells #[.slice none 0 0, .slice none 0 0] 29 (0, 0))) := arr_stored Y2.out
      go_wp2
      refine bodyPost_ret (results_arr_tmp Try.results17 _ _ w.heap.size _ _ rfl HR.out) rfl (ardPost_no NO.out ?_)
      exact ⟨_, rfl, arr_zero _ _ _, below_setCell (below_setCell B2.out (Nat.le_refl _) _ _) (Nat.le_refl _) _ _⟩
end Go.Proofs.Ytonkiipdobpfgaa
