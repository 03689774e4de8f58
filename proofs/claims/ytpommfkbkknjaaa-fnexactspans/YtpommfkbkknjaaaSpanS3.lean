/-
  Walks: the specification's Spans.
-/
import Derived.Test.YtpommfkbkknjaaaSpanS2
import Derived.Test.YtpommfkbkknjaaaCodeS3
namespace Go.Proofs.Ytpommfkbkknjaaa
open Go.RowKit
set_option linter.unusedVariables false
set_option linter.unusedSimpArgs false
/-- A span of two places. -/
def spn (p : Nat × Nat) : Spn := ⟨(p.1 : Int), (p.2 : Int)⟩
/-- The spans of code. -/
def spnL (n : Nat) (E : Nat → Nat → Int) (N : Nat → List Int) : List Spn := (spansL n E N).map spn
theorem spnL_len {n : Nat} {E : Nat → Nat → Int} {N : Nat → List Int} : (spnL n E N).length ≤ 60 := by
  unfold spnL spansL
  split
  · rename_i h
    have h1 := spF_len (n := n) (E := E) n 0
    have h2 := (codeB_iff.1 h).2.1
    simp; omega
  · simp
set_option maxRecDepth 20000 in
set_option maxHeartbeats 8000000 in
/-- The specification's Spans. -/
theorem spans_spec {w : World} {v : Value} {n : Nat} {E : Nat → Nat → Int} {N : Nat → List Int} (h : InsI w v n E N) (hl : ∀ i, (N i).length ≤ 1048576) (hn : n ≤ 1048576) :
    Calls Try.prog 5 #[v] w fun r w' => ∃ a c, r = .returned (.slice a (spnL n E N).length c) ∧ NewSp w.heap.size w' (.slice a (spnL n E N).length c) (spnL n E N) ∧ Below w.heap.size w w' := by
  have H : Hid (InsI w v n E N) := h
  have CO : Hid (∀ W, Below w.heap.size w W → Calls Try.prog 14 #[v] W fun r w' => r = .returned (.bool (codeB n E N)) ∧ Below W.heap.size W w') := fun W hb => codeOk_spec (h.keep hb) hl hn
  clear hl
  obtain ⟨a, c, rfl, _⟩ := h
  cases hc : codeB n E N
  · have QV : Hid (spnL n E N = []) := by show _ = _; simp [spnL, spansL, hc]
    rw [hc] at CO
    generalize spnL n E N = Q at *
    clear hc
    go_enter Try.func5, Try.ntmps5
    go_wp2_with fail
    have N0 : Hid (NewSp w.heap.size (w.alloc (.cells #[] 41)) (.slice (some ⟨w.heap.size, 0, none⟩) 0 0) []) := NewSp.start w (Nat.le_refl _)
    have hb0 : Below w.heap.size w (w.alloc (.cells #[] 41)) := bAlloc (Below.refl _ _) _
    generalize w.alloc (.cells #[] 41) = w1 at *
    refine (CO.out _ hb0).mono ?_
    rintro r w2 ⟨rfl, hb⟩
    have B2 : Hid (Below w.heap.size w w2) := bTrans hb0 hb
    have N2 : Hid (NewSp w.heap.size w2 (.slice (some ⟨w.heap.size, 0, none⟩) 0 0) []) := N0.out.keep hb
    clear hb hb0 N0
    go_wp2
    go_ret
    rw [QV.out]
    exact ⟨_, _, rfl, N2.out, B2.out⟩
  · have QV : Hid (spnL n E N = (spF n E n 0).map spn) := by show _ = _; simp [spnL, spansL, hc]
    have hn60 : n ≤ 60 := (codeB_iff.1 hc).2.1
    rw [hc] at CO
    generalize spnL n E N = Q at *
    clear hc
    go_enter Try.func5, Try.ntmps5
    go_wp2_with fail
    have N0 : Hid (NewSp w.heap.size (w.alloc (.cells #[] 41)) (.slice (some ⟨w.heap.size, 0, none⟩) 0 0) []) := NewSp.start w (Nat.le_refl _)
    have hb0 : Below w.heap.size w (w.alloc (.cells #[] 41)) := bAlloc (Below.refl _ _) _
    generalize w.alloc (.cells #[] 41) = w1 at *
    refine (CO.out _ hb0).mono ?_
    rintro r w2 ⟨rfl, hb⟩
    have B2 : Hid (Below w.heap.size w w2) := bTrans hb0 hb
    have N2 : Hid (NewSp w.heap.size w2 (.slice (some ⟨w.heap.size, 0, none⟩) 0 0) []) := N0.out.keep hb
    clear hb hb0 N0
    go_wp2_with fail
    go_loopw [3, 4] (fun u i w' => ∃ (p k j : Nat) (ad : Option Addr) (cd : Nat) (l : List Spn), p ≤ n ∧ n - p ≤ k ∧ i = .int .i64 (p : Int) ∧ u = .slice ad j cd ∧ Hid (l.length = j ∧ j ≤ p ∧ Q = l ++ (spF n E k p).map spn ∧ NewSp w.heap.size w' (.slice ad j cd) l) ∧ Below w.heap.size w w') (fun _ i _ => n - (intOf i).toNat)
    case atStart => exact ⟨0, n, 0, _, _, [], by omega, by omega, rfl, rfl, ⟨rfl, by omega, by rw [QV.out]; rfl, N2.out⟩, B2.out⟩
    case round =>
      obtain ⟨p, k, j, ad, cd, l, hp, hk, rfl, rfl, hL, hb⟩ := hrel
      have HB : Hid (Below w.heap.size w wr) := hb
      clear hb N2 B2 QV
      by_cases hlt : (p : Int) < (n : Int)
      · have L : p < n := by omega
        obtain ⟨k, rfl⟩ : ∃ k', k = k' + 1 := ⟨k - 1, by omega⟩
        have CE : Hid (Calls Try.prog 15 #[.slice a n c, .int .i64 (p : Int)] wr fun r w' => r = .returned (.int .i64 (endF n E p)) ∧ Below wr.heap.size wr w') := end_spec (H.out.keep HB.out) hn60 p hp
        have hbd := endF_bd E hp
        have S0 : Hid (endF n E p = 0 → spF n E (k + 1) p = spF n E k (p + 1)) := fun h => spF_none L h
        have S1 : Hid (endF n E p ≠ 0 → spF n E (k + 1) p = (p, endF n E p) :: spF n E k (endF n E p)) := fun h => spF_some L h
        generalize endF n E p = e at *
        by_cases h0 : e = 0
        · subst h0
          have LL : Hid (l.length = j ∧ j ≤ p + 1 ∧ Q = l ++ (spF n E k (p + 1)).map spn) := ⟨hL.out.1, by have := hL.out.2.1; omega, by rw [← S0.out rfl]; exact hL.out.2.2.1⟩
          clear S0 S1
          go_wp2_with fail
          refine CE.out.mono ?_
          rintro r w3 ⟨rfl, hb⟩
          have B3 : Hid (Below w.heap.size w w3) := bTrans HB.out hb
          have N3 : Hid (NewSp w.heap.size w3 (.slice ad j cd) l) := hL.out.2.2.2.keep hb
          clear hb
          go_wp2
          go_roundw
          case rel => exact ⟨p + 1, k, j, ad, cd, l, by omega, by omega, by go_num, rfl, ⟨LL.out.1, LL.out.2.1, LL.out.2.2, N3.out⟩, B3.out⟩
          case measure => simp [intOf]; omega
        · have he : p < e ∧ e ≤ n := by omega
          have LL : Hid ((l ++ [spn (p, e)]).length = j + 1 ∧ j + 1 ≤ e ∧ Q = (l ++ [spn (p, e)]) ++ (spF n E k e).map spn) := ⟨by simp [hL.out.1], by have := hL.out.2.1; omega, by rw [hL.out.2.2.1, S1.out h0]; simp⟩
          have b0 : ((e : Int) == 0) = false := by simp; omega
          have J60 : Hid (l.length = j ∧ j ≤ 60) := ⟨hL.out.1, by have := hL.out.2.1; omega⟩
          clear S0 S1
          go_wp2_with fail
          refine CE.out.mono ?_
          rintro r w3 ⟨rfl, hb⟩
          have B3 : Hid (Below w.heap.size w w3) := bTrans HB.out hb
          have N3 : NewSp w.heap.size w3 (.slice ad l.length cd) l := by rw [J60.out.1]; exact hL.out.2.2.2.keep hb
          obtain ⟨a4, c4, w4, r4, n4, b4⟩ := growS (spn (p, e)) N3 B3.out.size (by have := J60.out; omega)
          rw [J60.out.1] at r4 n4
          have R4 : Hid (∀ ty, (Builtin.append_ #[24, 24] ty #[.slice ad j cd, .slice (some ⟨w3.heap.size, 0, none⟩) 1 1]).run Try.prog (w3.alloc (.cells #[.int .i64 (p : Int), .int .i64 (e : Int)] 41)) = .ok (.slice a4 (j + 1) c4) w4) := r4
          have N4 : Hid (NewSp w.heap.size w4 (.slice a4 (j + 1) c4) (l ++ [spn (p, e)])) := n4
          have B4 : Hid (Below w.heap.size w w4) := B3.out.trans b4
          clear hb r4 n4 b4 N3
          go_wp2_with (at_builtin; refine wpList_append_ty rfl _ _ 24 24 rfl _ _ _ rfl rfl (R4.out _) ?_)
          go_roundw
          case rel => exact ⟨e, k, j + 1, a4, c4, l ++ [spn (p, e)], by omega, by omega, rfl, rfl, ⟨LL.out.1, LL.out.2.1, LL.out.2.2, N4.out⟩, B4.out⟩
          case measure => simp [intOf]; omega
      · obtain rfl : p = n := by omega
        have QE : Hid (Q.length = j ∧ NewSp w.heap.size wr (.slice ad j cd) Q) := by
          have q := hL.out.2.2.1
          rw [spF_end (Nat.le_refl _)] at q
          simp at q
          rw [q]
          exact ⟨hL.out.1, hL.out.2.2.2⟩
        go_wp2
        go_ret
        rw [QE.out.1]
        exact ⟨_, _, rfl, QE.out.2, HB.out⟩
end Go.Proofs.Ytpommfkbkknjaaa
