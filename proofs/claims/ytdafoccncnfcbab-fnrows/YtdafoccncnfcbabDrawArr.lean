/-
  Walks: the specification's draws of lists and numbers for arrays (l1Size, DrawScalarOf, DrawVectorOf).
-/
import Derived.Test.YtdafoccncnfcbabDraws
import Derived.Test.YtdafoccncnfcbabDrawShape
namespace Go.Proofs.Ytdafoccncnfcbab
open Go.RowKit
set_option linter.unusedVariables false
set_option linter.unusedSimpArgs false
set_option maxRecDepth 20000 in
set_option maxHeartbeats 1000000 in
theorem size_draw (a : Option Addr) (len cap : Nat) (m : Int) (w : World) (hl : len ≤ 1048576) (m0 : 2 ≤ m) (m1 : m ≤ 100) :
    Calls Try.prog 68 #[.slice a len cap, .int .i64 m] w fun e w' => ∃ x : Int, e = .returned (.int .i64 x) ∧ 2 ≤ x ∧ x ≤ m ∧ w' = w := by
  have hl' : (len : Int) ≤ 1048576 := by omega
  by_cases h : m < 2 + (len : Int) / 20
  · go_enter Try.func68, Try.ntmps68
    go_wp2
    go_ret
    exact ⟨_, rfl, by omega, by omega, rfl⟩
  · have h' : 2 + (len : Int) / 20 ≤ m := by omega
    have h2 : 0 ≤ (len : Int) / 20 := by omega
    go_enter Try.func68, Try.ntmps68
    go_wp2
    go_ret
    exact ⟨_, rfl, by omega, by omega, rfl⟩
set_option maxRecDepth 20000 in
set_option maxHeartbeats 1000000 in
theorem drawScalar_spec {w : World} {a : Option Addr} {len cap : Nat} (hs : Src w.heap.size w a len) (hb20 : len ≤ 1048576) :
    Calls Try.prog 37 #[.slice a len cap] w fun e w' => ∃ x : Int, e = .returned (.int .i64 x) ∧ Below w.heap.size w w' := by
  have HS : Hid (Src w.heap.size w a len) := hs
  clear hs
  go_enter Try.func37, Try.ntmps37
  go_wp2_with fail
  refine (new_spec HS.out hb20).mono ?_
  rintro e w1 ⟨g, rfl, hb, hd⟩
  have HB1 : Hid (Below w.heap.size w w1) := hb
  have HD1 : Hid (DrawOk w.heap.size g w1) := hd
  clear hb hd
  go_wp2_with fail
  refine (raw_spec HD1.out).mono ?_
  rintro e w2 ⟨x, rfl, hb, hd⟩
  have HB2 : Hid (Below w.heap.size w w2) := HB1.out.trans (hb.below HD1.out.1 HB1.out.size)
  clear hb hd
  go_wp2
  go_ret
  exact ⟨_, rfl, HB2.out⟩
set_option maxRecDepth 20000 in
set_option maxHeartbeats 2000000 in
theorem drawVector_spec {w : World} {a : Option Addr} {len cap : Nat} (hs : Src w.heap.size w a len) (hb20 : len ≤ 1048576) :
    Calls Try.prog 34 #[.slice a len cap] w fun e w' => ∃ (v : Value) (l : List Int), e = .returned v ∧ l.length ≤ 400 ∧ NewInts w.heap.size w' v l ∧ Below w.heap.size w w' := by
  have HS : Hid (Src w.heap.size w a len) := hs
  clear hs
  have hi := info_int
  obtain ⟨i0, hq, z1, z2, z3⟩ : ∃ i0, Try.prog.info? 3 = some i0 ∧ i0.zero = some (.int .i64 0) ∧ i0.size = 1 ∧ i0.bytes = 8 := by
    cases hq : Try.prog.info? 3 with
    | none => rw [hq] at hi; cases hi
    | some i => rw [hq] at hi; simp at hi; exact ⟨i, rfl, hi.1, hi.2.1, hi.2.2⟩
  clear hi
  have hmk0 : ∀ w, (Instr.makeSlice 32 (.int .i64 300) (.int .i64 300)).run Try.prog w = .ok (.slice (some ⟨w.heap.size, 0, none⟩) 300 300) (w.alloc (.cells (vals (List.replicate 300 0)) 3)) := make_ints 300 (by omega)
  have hmk1 : ∀ w, (Instr.makeSlice 32 (.int .i64 301) (.int .i64 301)).run Try.prog w = .ok (.slice (some ⟨w.heap.size, 0, none⟩) 301 301) (w.alloc (.cells (vals (List.replicate 301 0)) 3)) := make_ints 301 (by omega)
  generalize hR0 : List.replicate 300 (0 : Int) = R0 at hmk0
  generalize hR1 : List.replicate 301 (0 : Int) = R1 at hmk1
  have LR0 : Hid (R0.length = 300) := by show _ = _; rw [← hR0]; simp
  have LR1 : Hid (R1.length = 301) := by show _ = _; rw [← hR1]; simp
  clear hR0 hR1
  go_enter Try.func34, Try.ntmps34
  go_wp2_with fail
  refine (new_spec HS.out hb20).mono ?_
  rintro e w1 ⟨g, rfl, hb, hd⟩
  have HB1 : Hid (Below w.heap.size w w1) := hb
  have HD1 : Hid (DrawOk w.heap.size g w1) := hd
  have hg1 := hd.lt
  have hw1 := hb.size
  clear hb hd
  go_wp2_with fail
  refine (size_draw a len cap 12 _ hb20 (by decide) (by decide)).mono ?_
  rintro e w' ⟨x, rfl, x1, x2, hw⟩
  subst w'
  go_wp2_with fail
  refine (below_small (HD1.out.alloc _) (x + 1) (by omega) (by omega)).mono ?_
  rintro e w2 ⟨y, y1, y2, rfl, hb, hd⟩
  obtain ⟨n, rfl⟩ : ∃ n : Nat, y = n := ⟨y.toNat, by omega⟩
  have HB2 : Hid (But g w1 w2) := ((But.refl g w1).alloc _).trans hb
  have HD2 : Hid (DrawOk w.heap.size g w2) := hd
  have HN2 : Hid (NewInts w1.heap.size w2 (.slice (some ⟨w1.heap.size, 0, none⟩) 0 0) []) := (newInts_alloc w1 [] (Nat.le_refl _) (by simp)).but hb hg1
  have hn : n ≤ 12 := by omega
  clear hb hd
  go_wp2
  go_loopw [4, 6] (fun v q w' => ∃ (k : Nat) (m : List Int), k ≤ n ∧ q = .int .i64 k ∧ m.length = k ∧ NewInts w1.heap.size w' v m ∧ But g w1 w' ∧ DrawOk w.heap.size g w') (fun _ q _ => n - (intOf q).toNat)
  case atStart => exact ⟨0, [], by omega, rfl, rfl, HN2.out, HB2.out, HD2.out⟩
  case round =>
    obtain ⟨k, m, hk, rfl, hm, hn', hb, hd⟩ := hrel
    have HM : Hid (m.length = k) := hm
    have HNr : Hid (NewInts w1.heap.size wr u4 m) := hn'
    have HBr : Hid (But g w1 wr) := hb
    have HDr : Hid (DrawOk w.heap.size g wr) := hd
    have hsr := hb.size
    clear hm hn' hb hd
    by_cases hc : (k : Int) < (n : Int)
    · go_wp2_with fail
      refine (num_spec HDr.out).mono ?_
      rintro e w3 ⟨z, rfl, hb, hd⟩
      have HB3 : Hid (But g w1 w3) := HBr.out.trans hb
      have HD3 : Hid (DrawOk w.heap.size g w3) := hd
      have HN3 : Hid (NewInts w1.heap.size w3 u4 m) := HNr.out.but hb hg1
      have hs3 := HB3.out.size
      have hml := HM.out
      clear hb hd
      go_wp2_with (at_builtin; refine wpList_append_own _ rfl _ _ 32 rfl w1.heap.size 3 i0 (.int .i64 0) 1 8 Try.underlying32 hq z1 z2 z3 rfl (by decide) _ _ _ rfl (World.ownsRow.alloc HN3.out _) ⟨w3.heap.size, 0, none⟩ 1 1 [.int .i64 z] rfl rfl ?c1 ?c2 ?c3 ?c4 ?c5 ?_)
      case c1 =>
        intro j u hj
        match j, hj with
        | 0, hj => simp at hj; subst hj; simp [Addr.add]
      case c2 => intro u hu; simp at hu; subst hu; rfl
      case c3 => unfold maxLen; omega
      case c4 => omega
      case c5 => simp; omega
      intro v' w4 hown hgrow _
      have hrow := HN3.out.row
      have HN4 : Hid (NewInts w1.heap.size w4 v' (m ++ [z])) := by
        show World.ownsRow _ _ _ _ _ _ _
        simpa [hml] using hown
      have HB4 : Hid (But g w1 w4) := (HB3.out.alloc _).grown hgrow hrow
      have HD4 : Hid (DrawOk w.heap.size g w4) := (HD3.out.alloc _).grown hgrow (fun k e => by have := hrow k e; omega)
      clear hown hgrow hrow hml
      go_wp2
      go_roundw
      case rel => exact ⟨k + 1, m ++ [z], by omega, by go_num, by have := HM.out; simp; omega, HN4.out, HB4.out, HD4.out⟩
      case measure => simp [intOf]; omega
    · have ML : Hid (m.length ≤ 12) := by have := HM.out; show _ ≤ _; omega
      go_wp2_with fail
      refine (once_spec HDr.out 15 (by decide) (by decide)).mono ?_
      rintro e w3 ⟨b, rfl, hb, hd⟩
      have HB3 : Hid (But g w1 w3) := HBr.out.trans hb
      have HD3 : Hid (DrawOk w.heap.size g w3) := hd
      have HN3 : Hid (NewInts w1.heap.size w3 u4 m) := HNr.out.but hb hg1
      clear hb hd HNr HBr HDr
      have hs3 := HB3.out.size
      cases b
      case' false =>
        have HNX : Hid (NewInts w1.heap.size w3 u4 m) := HN3.out
        have HBX : Hid (But g w1 w3) := HB3.out
        have HDX : Hid (DrawOk w.heap.size g w3) := HD3.out
        have LX : Hid (m.length ≤ 13) := by have := ML.out; show _ ≤ _; omega
        clear HN3 HB3 HD3
      case' true =>
        go_wp2_with fail
        refine (raw_spec HD3.out).mono ?_
        rintro e w4 ⟨z, rfl, hb, hd⟩
        have HB4 : Hid (But g w1 w4) := HB3.out.trans hb
        have HD4 : Hid (DrawOk w.heap.size g w4) := hd
        have HN4 : Hid (NewInts w1.heap.size w4 u4 m) := HN3.out.but hb hg1
        have hs4 := HB4.out.size
        have hml := ML.out
        clear hb hd HN3 HB3 HD3
        go_wp2_with (at_builtin; refine wpList_append_own _ rfl _ _ 32 rfl w1.heap.size 3 i0 (.int .i64 0) 1 8 Try.underlying32 hq z1 z2 z3 rfl (by decide) _ _ _ rfl (World.ownsRow.alloc HN4.out _) ⟨w4.heap.size, 0, none⟩ 1 1 [.int .i64 z] rfl rfl ?c1 ?c2 ?c3 ?c4 ?c5 ?_)
        case c1 =>
          intro j u hj
          match j, hj with
          | 0, hj => simp at hj; subst hj; simp [Addr.add]
        case c2 => intro u hu; simp at hu; subst hu; rfl
        case c3 => unfold maxLen; omega
        case c4 => omega
        case c5 => simp; omega
        intro v' w5 hown hgrow _
        have hrow := HN4.out.row
        have HNX : Hid (NewInts w1.heap.size w5 v' (m ++ [z])) := by
          show World.ownsRow _ _ _ _ _ _ _
          simpa using hown
        have HBX : Hid (But g w1 w5) := (HB4.out.alloc _).grown hgrow hrow
        have HDX : Hid (DrawOk w.heap.size g w5) := (HD4.out.alloc _).grown hgrow (fun k e => by have := hrow k e; omega)
        have LX : Hid ((m ++ [z]).length ≤ 13) := by have := ML.out; show _ ≤ _; simp; omega
        clear hown hgrow hrow hml HN4 HB4 HD4
      all_goals
        go_wp2_with fail
        refine (once_spec HDX.out 40 (by decide) (by decide)).mono ?_
        rintro e w6 ⟨b2, rfl, hb, hd⟩
        have HB6 : Hid (But g w1 w6) := HBX.out.trans hb
        have HD6 : Hid (DrawOk w.heap.size g w6) := hd
        have HN6 := HNX.out.but hb hg1
        have HN7 : Hid (NewInts w1.heap.size w6 _ _) := HN6
        have HT6 : Hid (Below w.heap.size w w6) := HB1.out.trans (HB6.out.below HD1.out.1 HB1.out.size)
        clear hb hd HN6
        cases b2
        · go_wp2
          go_ret
          exact ⟨_, _, rfl, by have := LX.out; omega, HN7.out.mono hw1, HT6.out⟩
        · go_wp2_with fail
          refine (below_small HD6.out 2 (by decide) (by decide)).mono ?_
          rintro e w8 ⟨y, y3, y4, rfl, hb, hd⟩
          have HT8 : Hid (Below w.heap.size w w8) := HT6.out.trans (hb.below HD1.out.1 HT6.out.size)
          clear hb hd
          by_cases y5 : y = 0
          · subst y5
            go_wp2
            go_ret
            refine ⟨_, R0, rfl, by have := LR0.out; omega, ?_, bAlloc HT8.out _⟩
            have q := newInts_alloc w8 R0 (B := w.heap.size) HT8.out.size (by have := LR0.out; omega)
            rw [LR0.out] at q
            exact q
          · obtain rfl : y = 1 := by omega
            go_wp2
            go_ret
            refine ⟨_, R1, rfl, by have := LR1.out; omega, ?_, bAlloc HT8.out _⟩
            have q := newInts_alloc w8 R1 (B := w.heap.size) HT8.out.size (by have := LR1.out; omega)
            rw [LR1.out] at q
            exact q
theorem srcKeep {w w' : World} {a : Option Addr} {len : Nat} (h : Src w.heap.size w a len) (hb : Below w.heap.size w w') : Src w'.heap.size w' a len := by
  obtain ⟨h1, h2⟩ := h.keep hb
  refine ⟨h1, ?_⟩
  rcases h2 with h2 | ⟨b, off, e, hB, hc⟩
  · exact .inl h2
  · exact .inr ⟨b, off, e, Nat.lt_of_lt_of_le hB hb.size, hc⟩
end Go.Proofs.Ytdafoccncnfcbab
