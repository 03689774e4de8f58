/-
  Walks: the program's Spans.
-/
import Derived.Test.YtpommfkbkknjaaaSpanI2
import Derived.Test.YtpommfkbkknjaaaSpanS3
import Derived.Test.YtpommfkbkknjaaaCodeI4
namespace Go.Proofs.Ytpommfkbkknjaaa
open Go.RowKit
set_option linter.unusedVariables false
set_option linter.unusedSimpArgs false
set_option maxRecDepth 20000 in
set_option maxHeartbeats 4000000 in
theorem long_impl (f t : Int) (w : World) (h : IntKind.i64.wrap (t - f) = t - f) : Calls Try.prog 19 #[.agg #[.int .i64 f, .int .i64 t]] w fun e w' => e = .returned (.int .i64 (t - f)) ∧ Below w.heap.size w w' := by
  go_enter Try.func19, Try.ntmps19
  go_wp2
  go_ret
  exact ⟨rfl, one_below⟩
set_option maxRecDepth 20000 in
set_option maxHeartbeats 8000000 in
/-- The program's Spans. -/
theorem spans_impl {w : World} {a : Option Addr} {c n : Nat} {E : Nat → Nat → Int} {N : Nat → List Int} (h : InsI w (.slice a n c) n E N) (hc : n ≤ c) (hl : ∀ i, (N i).length ≤ 1048576) (hn : n ≤ 1048576) :
    Calls Try.prog 7 #[.slice a n c] w fun r w' => ∃ a' c', r = .returned (.slice a' (spnL n E N).length c') ∧ NewSp w.heap.size w' (.slice a' (spnL n E N).length c') (spnL n E N) ∧ Below w.heap.size w w' := by
  have H : Hid (InsI w (.slice a n c) n E N) := h
  have CO : Hid (Calls Try.prog 17 #[.slice a n c] w fun r w' => r = .returned (.bool (codeB n E N)) ∧ Below w.heap.size w w') := codeOk_impl h hl hn
  clear hl h
  cases hq : codeB n E N
  · have QV : Hid (spnL n E N = []) := by show _ = _; simp [spnL, spansL, hq]
    rw [hq] at CO
    generalize spnL n E N = Q at *
    clear hq
    go_enter Try.func7, Try.ntmps7
    go_wp2_with fail
    refine CO.out.mono ?_
    rintro r w2 ⟨rfl, hb⟩
    have B2 : Hid (Below w.heap.size w w2) := hb
    clear hb
    go_wp2
    go_ret
    rw [QV.out]
    exact ⟨_, _, rfl, NewSp.nil _ _, B2.out⟩
  · have QV : Hid (spnL n E N = (spF n E n 0).map spn) := by show _ = _; simp [spnL, spansL, hq]
    have hn60 : n ≤ 60 := (codeB_iff.1 hq).2.1
    have IN : Hid (∀ i, i < n → insB (E i) (N i) = true) := (codeB_iff.1 hq).2.2.1
    rw [hq] at CO
    generalize spnL n E N = Q at *
    clear hq
    go_enter Try.func7, Try.ntmps7
    go_wp2_with fail
    refine CO.out.mono ?_
    rintro r w2 ⟨rfl, hb⟩
    have B2 : Hid (Below w.heap.size w w2) := hb
    clear hb CO
    go_wp2_with fail
    go_loopw [3, 4] (fun u i w' => ∃ (p k j : Nat) (ad : Option Addr) (cd : Nat) (l : List Spn), p ≤ n ∧ n - p ≤ k ∧ i = .int .i64 (p : Int) ∧ u = .slice ad j cd ∧ Hid (l.length = j ∧ j ≤ p ∧ Q = l ++ (spF n E k p).map spn ∧ NewSp w.heap.size w' (.slice ad j cd) l) ∧ Below w.heap.size w w') (fun _ i _ => n - (intOf i).toNat)
    case atStart => exact ⟨0, n, 0, _, _, [], by omega, by omega, rfl, rfl, ⟨rfl, by omega, by rw [QV.out]; rfl, NewSp.nil _ _⟩, B2.out⟩
    case round =>
      obtain ⟨p, k, j, ad, cd, l, hp, hk, rfl, rfl, hL, hb⟩ := hrel
      have HB : Hid (Below w.heap.size w wr) := hb
      clear hb B2 QV
      by_cases hlt : (p : Int) < (n : Int)
      · have L : p < n := by omega
        obtain ⟨k, rfl⟩ : ∃ k', k = k' + 1 := ⟨k - 1, by omega⟩
        have CE : Hid (Calls Try.prog 18 #[.slice a n c, .int .i64 (p : Int)] wr fun r w' => r = .returned (.agg #[.int .i64 (p : Int), .int .i64 (toF p (endF n E p) : Int)]) ∧ Below wr.heap.size wr w') := run_impl (H.out.keep HB.out) hc hn60 IN.out p L
        have hbd := endF_bd E hp
        have S0 : Hid (endF n E p = 0 → spF n E (k + 1) p = spF n E k (p + 1)) := fun h => spF_none L h
        have S1 : Hid (endF n E p ≠ 0 → spF n E (k + 1) p = (p, endF n E p) :: spF n E k (endF n E p)) := fun h => spF_some L h
        generalize endF n E p = e at *
        by_cases h0 : e = 0
        · subst h0
          have LL : Hid (l.length = j ∧ j ≤ p + 1 ∧ Q = l ++ (spF n E k (p + 1)).map spn) := ⟨hL.out.1, by have := hL.out.2.1; omega, by rw [← S0.out rfl]; exact hL.out.2.2.1⟩
          have e0 : toF p 0 = p := rfl
          rw [e0] at CE
          have hlw : Hid (IntKind.i64.wrap ((p : Int) - (p : Int)) = (p : Int) - (p : Int)) := by show _ = _; rw [IntKind.wrap_i64]; omega
          have hz : (((p : Int) - (p : Int)) == 0) = true := by simp
          clear S0 S1 e0
          go_wp2_with fail
          refine CE.out.mono ?_
          rintro r w3 ⟨rfl, hb⟩
          have B3 : Hid (Below w.heap.size w w3) := bTrans HB.out hb
          have N3 : Hid (NewSp w.heap.size w3 (.slice ad j cd) l) := hL.out.2.2.2.keep hb
          clear hb
          go_wp2_with fail
          have hb1 : Below w3.heap.size w3 (w3.alloc (.cells #[.int .i64 (p : Int), .int .i64 (p : Int)] 41)) := one_below
          refine (long_impl _ _ _ hlw.out).mono ?_
          rintro r w4 ⟨rfl, hb⟩
          have B4 : Hid (Below w.heap.size w w4) := bTrans (bTrans B3.out hb1) hb
          have N4 : Hid (NewSp w.heap.size w4 (.slice ad j cd) l) := (N3.out.keep hb1).keep hb
          clear hb hb1
          go_wp2
          go_roundw
          case rel => exact ⟨p + 1, k, j, ad, cd, l, by omega, by omega, by go_num, rfl, ⟨LL.out.1, LL.out.2.1, LL.out.2.2, N4.out⟩, B4.out⟩
          case measure => simp [intOf]; omega
        · have he : p < e ∧ e ≤ n := by omega
          have LL : Hid ((l ++ [spn (p, e)]).length = j + 1 ∧ j + 1 ≤ e ∧ Q = (l ++ [spn (p, e)]) ++ (spF n E k e).map spn) := ⟨by simp [hL.out.1], by have := hL.out.2.1; omega, by rw [hL.out.2.2.1, S1.out h0]; simp⟩
          have J60 : Hid (l.length = j ∧ j ≤ 60) := ⟨hL.out.1, by have := hL.out.2.1; omega⟩
          have e0 : toF p e = e := by unfold toF; rw [if_neg h0]
          rw [e0] at CE
          have hlw : Hid (IntKind.i64.wrap ((e : Int) - (p : Int)) = (e : Int) - (p : Int)) := by show _ = _; rw [IntKind.wrap_i64]; omega
          have hz : (((e : Int) - (p : Int)) == 0) = false := by simp; omega
          clear S0 S1 e0
          go_wp2_with fail
          refine CE.out.mono ?_
          rintro r w3 ⟨rfl, hb⟩
          have B3 : Hid (Below w.heap.size w w3) := bTrans HB.out hb
          have N3 : Hid (NewSp w.heap.size w3 (.slice ad l.length cd) l) := by show NewSp _ _ _ _; rw [J60.out.1]; exact hL.out.2.2.2.keep hb
          clear hb
          go_wp2_with fail
          have hb1 : Below w3.heap.size w3 (w3.alloc (.cells #[.int .i64 (p : Int), .int .i64 (e : Int)] 41)) := one_below
          have X1 := box_new w3 (.int .i64 (p : Int)) (.int .i64 (e : Int)) 41
          refine (long_impl _ _ _ hlw.out).mono ?_
          rintro r w4 ⟨rfl, hb⟩
          have B4 : Hid (Below w.heap.size w w4) := bTrans (bTrans B3.out hb1) hb
          have N4 : NewSp w.heap.size w4 (.slice ad l.length cd) l := (N3.out.keep hb1).keep hb
          have OL : ∀ g0, ad = some ⟨g0, 0, none⟩ → g0 ≠ w3.heap.size := fun g0 e => by have := N3.out.old g0 e; omega
          have X4 : Hid (Box w4 w3.heap.size (.int .i64 (p : Int)) (.int .i64 (e : Int)) 41) := X1.keep hb
          obtain ⟨a5, c5, w5, r5, n5, b5, k5⟩ := growS2 (spn (p, e)) N4 B4.out.size (by have := J60.out; omega)
          rw [J60.out.1] at r5 n5
          have R5 : Hid (∀ ty, (Builtin.append_ #[24, 24] ty #[.slice ad j cd, .slice (some ⟨w4.heap.size, 0, none⟩) 1 1]).run Try.prog (w4.alloc (.cells #[.int .i64 (p : Int), .int .i64 (e : Int)] 41)) = .ok (.slice a5 (j + 1) c5) w5) := r5
          have N5 : Hid (NewSp w.heap.size w5 (.slice a5 (j + 1) c5) (l ++ [spn (p, e)])) := n5
          have B5 : Hid (Below w.heap.size w w5) := B4.out.trans b5
          have X5 : Hid (Box w5 w3.heap.size (.int .i64 (p : Int)) (.int .i64 (e : Int)) 41) := by show Box _ _ _ _ _; unfold Box; rw [k5 _ X4.out.lt OL]; exact X4.out
          have x0 := X4.out.c0
          have x1 := X4.out.c1
          have x2 := X5.out.c1
          clear hb hb1 X1 N4 r5 n5 b5 k5 OL
          go_wp2_with (at_builtin; refine wpList_append_ty rfl _ _ 24 24 rfl _ _ _ rfl rfl (R5.out _) ?_)
          go_roundw
          case rel => exact ⟨e, k, j + 1, a5, c5, l ++ [spn (p, e)], by omega, by omega, rfl, rfl, ⟨LL.out.1, LL.out.2.1, LL.out.2.2, N5.out⟩, B5.out⟩
          case measure => simp [intOf]; omega
      · obtain rfl : p = n := by omega
        have QE : Hid (Q.length = j ∧ NewSp w.heap.size wr (.slice ad j cd) Q) := by
          have q := hL.out.2.2.1
          rw [spF_end (Nat.le_refl _)] at q
          simp at q
          rw [q]
          exact ⟨hL.out.1, hL.out.2.2.2⟩
        go_wp2
        go_ret
        rw [QE.out.1]
        exact ⟨_, _, rfl, QE.out.2, HB.out⟩
end Go.Proofs.Ytpommfkbkknjaaa
