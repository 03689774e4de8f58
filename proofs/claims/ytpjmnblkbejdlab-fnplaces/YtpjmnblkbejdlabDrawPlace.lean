/-
  Walks: numbers drawn below any bound; the specification's DrawIndexOf and DrawPlaceOf.
-/
import Derived.Test.YtpjmnblkbejdlabDrawShape
import Derived.Test.YtpjmnblkbejdlabSpecIndex
import Derived.Test.YtpjmnblkbejdlabDraws
namespace Go.Proofs.Ytpjmnblkbejdlab
open Go.RowKit
set_option linter.unusedVariables false
set_option maxRecDepth 20000 in
set_option maxHeartbeats 1000000 in
theorem below_big {B g : Nat} {w : World} (hd : DrawOk B g w) (n : Int) (n0 : 256 < n) (n1 : n ≤ 1073741824) :
    Calls Try.prog 41 #[.pointer (some ⟨g, 0, none⟩), .int .i64 n] w fun e w' => ∃ x : Int, 0 ≤ x ∧ x < n ∧ e = .returned (.int .i64 x) ∧ But g w w' ∧ DrawOk B g w' := by
  have HD0 : Hid (DrawOk B g w) := hd
  clear hd
  have hn : ¬ n ≤ 0 := by omega
  have hn2 : ¬ n ≤ 256 := by omega
  go_enter Try.func41, Try.ntmps41
  go_wp2_with fail
  refine (byte_spec HD0.out).mono ?_
  rintro e w1 ⟨x1, a1, b1, rfl, hb, hd⟩
  have HB1 : Hid (But g _ w1) := hb
  have HD1 : Hid (DrawOk B g w1) := hd
  clear hb hd
  go_wp2_with fail
  refine (byte_spec HD1.out).mono ?_
  rintro e w2 ⟨x2, a2, b2, rfl, hb, hd⟩
  have HB2 : Hid (But g _ w2) := hb
  have HD2 : Hid (DrawOk B g w2) := hd
  clear hb hd
  go_wp2_with fail
  refine (byte_spec HD2.out).mono ?_
  rintro e w3 ⟨x3, a3, b3, rfl, hb, hd⟩
  have HB3 : Hid (But g _ w3) := hb
  have HD3 : Hid (DrawOk B g w3) := hd
  clear hb hd
  go_wp2_with fail
  refine (byte_spec HD3.out).mono ?_
  rintro e w4 ⟨x4, a4, b4, rfl, hb, hd⟩
  have HB4 : Hid (But g _ w4) := hb
  have HD4 : Hid (DrawOk B g w4) := hd
  clear hb hd
  go_wp2
  go_ret
  exact ⟨_, Int.emod_nonneg _ (by omega), Int.emod_lt_of_pos _ (by omega), rfl, ((HB1.out.trans HB2.out).trans HB3.out).trans HB4.out, HD4.out⟩
set_option maxHeartbeats 1000000 in
theorem below_none {B g : Nat} {w : World} (hd : DrawOk B g w) (n : Int) (n0 : n ≤ 0) :
    Calls Try.prog 41 #[.pointer (some ⟨g, 0, none⟩), .int .i64 n] w fun e w' => ∃ x : Int, 0 ≤ x ∧ x < 1 ∧ e = .returned (.int .i64 x) ∧ But g w w' ∧ DrawOk B g w' := by
  have HD0 : Hid (DrawOk B g w) := hd
  clear hd
  go_enter Try.func41, Try.ntmps41
  go_wp2
  go_ret
  exact ⟨0, by decide, by decide, rfl, But.refl _ _, HD0.out⟩
/-- A number from 0 up to below n (0, where n is none above nought). -/
theorem below_any {B g : Nat} {w : World} (hd : DrawOk B g w) (n : Int) (n1 : n ≤ 1073741824) :
    Calls Try.prog 41 #[.pointer (some ⟨g, 0, none⟩), .int .i64 n] w fun e w' => ∃ x : Int, 0 ≤ x ∧ (x < n ∨ x = 0) ∧ e = .returned (.int .i64 x) ∧ But g w w' ∧ DrawOk B g w' := by
  by_cases h0 : n ≤ 0
  · refine (below_none hd n h0).mono ?_
    rintro e w' ⟨x, h1, h2, r⟩
    exact ⟨x, h1, .inr (by omega), r⟩
  · by_cases h1 : n ≤ 256
    · refine (below_small hd n (by omega) h1).mono ?_
      rintro e w' ⟨x, h1, h2, r⟩
      exact ⟨x, h1, .inl h2, r⟩
    · refine (below_big hd n (by omega) n1).mono ?_
      rintro e w' ⟨x, h1, h2, r⟩
      exact ⟨x, h1, .inl h2, r⟩
set_option maxRecDepth 20000 in
set_option maxHeartbeats 2000000 in
/-- A shape and a place are drawn. -/
theorem drawIndexOf_spec {w : World} {a : Option Addr} {len cap : Nat} (hs : Src w.heap.size w a len) (hb20 : len ≤ 1048576) :
    Calls Try.prog 14 #[.slice a len cap] w fun e w' => ∃ (v : Value) (l : List Int) (p : Int), e = .returned (.tuple #[v, .int .i64 p]) ∧ (l.length ≤ 4 ∧ Near l) ∧ -1 ≤ p ∧ p ≤ 1000 ∧ NewInts w.heap.size w' v l ∧ Below w.heap.size w w' := by
  have HS : Hid (Src w.heap.size w a len) := hs
  clear hs
  go_enter Try.func14, Try.ntmps14
  go_wp2_with fail
  refine (new_spec HS.out hb20).mono ?_
  rintro e w1 ⟨g, rfl, hb, hd⟩
  have HB1 : Hid (Below w.heap.size w w1) := hb
  have HD1 : Hid (DrawOk w.heap.size g w1) := hd
  have hg1 := hd.lt
  clear hb hd
  go_wp2_with fail
  refine (shape_draw HD1.out).mono ?_
  rintro e w2 ⟨v, l, rfl, ⟨hl, hnear⟩, hn, hb, hd⟩
  have NR : Hid (Near l) := hnear
  clear hnear
  have HN2 : Hid (NewInts w1.heap.size w2 v l) := hn
  have HB2 : Hid (But g w1 w2) := hb
  have HD2 : Hid (DrawOk w.heap.size g w2) := hd
  obtain ⟨ad, c, rfl, hi⟩ := hn.ints
  have HI : Hid (Ints w2 ad l) := hi
  clear hn hb hd hi
  go_wp2_with fail
  refine (size_spec c HI.out).mono ?_
  rintro e w' ⟨rfl, hw⟩
  subst w'
  obtain ⟨z1, z2⟩ := sizeV_bd l
  generalize sizeV l = sz at *
  go_wp2_with fail
  refine (below_any HD2.out (sz + 1) (by omega)).mono ?_
  rintro e w3 ⟨x, x1, x2, rfl, hb, hd⟩
  have HB3 : Hid (But g w2 w3) := hb
  have HD3 : Hid (DrawOk w.heap.size g w3) := hd
  have x3 : x ≤ 301 := by omega
  clear hb hd x2
  go_wp2_with fail
  refine (below_small HD3.out 20 (by decide) (by decide)).mono ?_
  rintro e w4 ⟨y, y1, y2, rfl, hb, hd⟩
  have HB4 : Hid (But g w3 w4) := hb
  clear hb hd
  go_wp2
  go_ret2
  have hB := HD1.out.1
  have hS := HD1.out.2.1
  refine ⟨_, l, _, rfl, ⟨hl, NR.out⟩, ?_, ?_, ((HN2.out.but HB3.out hg1).but HB4.out hg1).mono hS, HB1.out.trans (((HB2.out.trans HB3.out).trans HB4.out).below hB hS)⟩
  · omega
  · omega
set_option maxRecDepth 20000 in
set_option maxHeartbeats 8000000 in
/-- A shape and an index, right or not, are drawn. -/
theorem drawPlaceOf_spec {w : World} {a : Option Addr} {len cap : Nat} (hs : Src w.heap.size w a len) (hb20 : len ≤ 1048576) :
    Calls Try.prog 20 #[.slice a len cap] w fun e w' => ∃ (v x : Value) (l m : List Int), e = .returned (.tuple #[v, x]) ∧ l.length ≤ 4 ∧ m.length ≤ 5 ∧ NewInts w.heap.size w' v l ∧ NewInts w.heap.size w' x m ∧ Below w.heap.size w w' := by
  have HS : Hid (Src w.heap.size w a len) := hs
  clear hs
  have hi := info_int
  obtain ⟨i0, hq, z1, z2, z3⟩ : ∃ i0, Try.prog.info? 3 = some i0 ∧ i0.zero = some (.int .i64 0) ∧ i0.size = 1 ∧ i0.bytes = 8 := by
    cases hq : Try.prog.info? 3 with
    | none => rw [hq] at hi; cases hi
    | some i => rw [hq] at hi; simp at hi; exact ⟨i, rfl, hi.1, hi.2.1, hi.2.2⟩
  clear hi
  go_enter Try.func20, Try.ntmps20
  go_wp2_with fail
  refine (new_spec HS.out hb20).mono ?_
  rintro e w1 ⟨g, rfl, hb, hd⟩
  have HB1 : Hid (Below w.heap.size w w1) := hb
  have HD1 : Hid (DrawOk w.heap.size g w1) := hd
  have hg1 := hd.lt
  clear hb hd
  go_wp2_with fail
  refine (shape_draw HD1.out).mono ?_
  rintro e w2 ⟨vs, l, rfl, ⟨hl, hnear⟩, hn, hb, hd⟩
  have NR : Hid (Near l) := hnear
  have HN2 : Hid (NewInts w1.heap.size w2 vs l) := hn
  have HB2 : Hid (But g w1 w2) := hb
  have HD2 : Hid (DrawOk w.heap.size g w2) := hd
  have hs2 := hb.size
  obtain ⟨ad, c, rfl, hi⟩ := hn.ints
  clear hn hb hd hi hnear
  go_wp2
  have hg2 : g < w2.heap.size := by omega
  have HI2 : Hid (Ints w2 ad l) := by
    obtain ⟨a', c', e', h'⟩ := HN2.out.ints
    cases e'
    exact h'
  go_loopw [6, 7] (fun v q w' => ∃ (k : Nat) (m : List Int), k ≤ l.length + 1 ∧ q = .int .i64 k ∧ m.length = k ∧ NewInts w2.heap.size w' v m ∧ But g w2 w' ∧ DrawOk w.heap.size g w') (fun _ q _ => l.length + 1 - (intOf q).toNat)
  case atStart => exact ⟨0, [], by omega, rfl, rfl, newInts_alloc w2 [] (Nat.le_refl _) (by simp), (But.refl _ _).alloc _, HD2.out.alloc _⟩
  case round =>
    obtain ⟨k, m, hk, rfl, hm, hn, hb, hd⟩ := hrel
    have HM : Hid (m.length = k) := hm
    have HNr : Hid (NewInts w2.heap.size wr u6 m) := hn
    have HBr : Hid (But g w2 wr) := hb
    have HDr : Hid (DrawOk w.heap.size g wr) := hd
    clear hm hn hb hd
    go_wp2_with fail
    refine (below_small HDr.out 20 (by decide) (by decide)).mono ?_
    rintro e w4 ⟨x, x1, x2, rfl, hb, hd⟩
    have HB4 : Hid (But g wr w4) := hb
    have HD4 : Hid (DrawOk w.heap.size g w4) := hd
    clear hb hd
    have HN4 : Hid (NewInts w1.heap.size w4 (.slice ad l.length c) l) := (HN2.out.but HBr.out hg1).but HB4.out hg1
    by_cases hc : (k : Int) < (l.length : Int) + x / 19
    · by_cases hk2 : (k : Int) < (l.length : Int)
      · obtain ⟨a', c', e', h'⟩ := HN4.out.ints
        cases e'
        obtain ⟨b1, o1, rfl, _, c1⟩ := h'.at (k := k) (by omega)
        have nr := NR.out (l.getD k 0) (by have : k < l.length := by omega
                                           simp [this])
        generalize l.getD k 0 = sk at c1 nr
        have hmx : mx sk 1 ≤ 301 := by unfold mx; split <;> omega
        clear h' nr
        generalize hM1 : mx sk 1 = M1 at hmx
        have HM1 : Hid (mx sk 1 = M1) := hM1
        clear hM1
        go_wp2_with (go_at_call 35; refine (max_spec _ _ _).mono ?_; rintro e w' ⟨rfl, hw⟩; subst w'; rw [HM1.out])
        refine (below_any HD4.out M1 (by omega)).mono ?_
        rintro e w5 ⟨y, y1, y2, rfl, hb, hd⟩
        have HB5 : Hid (But g w4 w5) := hb
        have HD5 : Hid (DrawOk w.heap.size g w5) := hd
        have y3 : y ≤ 301 := by omega
        clear hb hd y2
        go_wp2_with fail
        refine (below_small HD5.out 25 (by decide) (by decide)).mono ?_
        rintro e w6 ⟨u, u1, u2, rfl, hb, hd⟩
        have HB6 : Hid (But g w5 w6) := hb
        have HD6 : Hid (DrawOk w.heap.size g w6) := hd
        clear hb hd
        have HN6 : Hid (NewInts w2.heap.size w6 u6 m) := ((HNr.out.but HB4.out hg2).but HB5.out hg2).but HB6.out hg2
        have HBs : Hid (But g w2 w6) := ((HBr.out.trans HB4.out).trans HB5.out).trans HB6.out
        have hsz := HBs.out.size
        have hml := HM.out
        go_wp2_with (at_builtin; refine wpList_append_own _ rfl _ _ 32 rfl w2.heap.size 3 i0 (.int .i64 0) 1 8 Try.underlying32 hq z1 z2 z3 rfl (by decide) _ _ _ rfl (World.ownsRow.alloc HN6.out _) ⟨w6.heap.size, 0, none⟩ 1 1 [.int .i64 (y - u / 24)] rfl rfl ?c1 ?c2 ?c3 ?c4 ?c5 ?_)
        case c1 =>
          intro j z hj
          match j, hj with
          | 0, hj => simp at hj; subst hj; simp [Addr.add]
        case c2 => intro z hz; simp at hz; subst hz; rfl
        case c3 => unfold maxLen; omega
        case c4 => omega
        case c5 => simp; omega
        intro v' w7 hown hgrow _
        have hrow := HN6.out.row
        have HN7 : Hid (NewInts w2.heap.size w7 v' (m ++ [y - u / 24])) := by
          show World.ownsRow _ _ _ _ _ _ _
          simpa [hml] using hown
        have HB7 : Hid (But g w2 w7) := (HBs.out.alloc _).grown hgrow hrow
        have HD7 : Hid (DrawOk w.heap.size g w7) := (HD6.out.alloc _).grown hgrow (fun k e => by have := hrow k e; omega)
        clear hown hgrow hrow hml
        go_wp2
        go_roundw
        case rel => exact ⟨k + 1, m ++ [y - u / 24], by omega, by go_num, by have := HM.out; simp; omega, HN7.out, HB7.out, HD7.out⟩
        case measure => simp [intOf]; omega
      · have x19 : 0 < x / 19 := by omega
        go_wp2_with (go_at_call 35; refine (max_spec _ _ _).mono ?_; rintro e w' ⟨rfl, hw⟩; subst w')
        refine (below_any HD4.out 1 (by decide)).mono ?_
        rintro e w5 ⟨y, y1, y2, rfl, hb, hd⟩
        have HB5 : Hid (But g w4 w5) := hb
        have HD5 : Hid (DrawOk w.heap.size g w5) := hd
        have y3 : y ≤ 301 := by omega
        clear hb hd y2
        go_wp2_with fail
        refine (below_small HD5.out 25 (by decide) (by decide)).mono ?_
        rintro e w6 ⟨u, u1, u2, rfl, hb, hd⟩
        have HB6 : Hid (But g w5 w6) := hb
        have HD6 : Hid (DrawOk w.heap.size g w6) := hd
        clear hb hd
        have HN6 : Hid (NewInts w2.heap.size w6 u6 m) := ((HNr.out.but HB4.out hg2).but HB5.out hg2).but HB6.out hg2
        have HBs : Hid (But g w2 w6) := ((HBr.out.trans HB4.out).trans HB5.out).trans HB6.out
        have hsz := HBs.out.size
        have hml := HM.out
        go_wp2_with (at_builtin; refine wpList_append_own _ rfl _ _ 32 rfl w2.heap.size 3 i0 (.int .i64 0) 1 8 Try.underlying32 hq z1 z2 z3 rfl (by decide) _ _ _ rfl (World.ownsRow.alloc HN6.out _) ⟨w6.heap.size, 0, none⟩ 1 1 [.int .i64 (y - u / 24)] rfl rfl ?c1 ?c2 ?c3 ?c4 ?c5 ?_)
        case c1 =>
          intro j z hj
          match j, hj with
          | 0, hj => simp at hj; subst hj; simp [Addr.add]
        case c2 => intro z hz; simp at hz; subst hz; rfl
        case c3 => unfold maxLen; omega
        case c4 => omega
        case c5 => simp; omega
        intro v' w7 hown hgrow _
        have hrow := HN6.out.row
        have HN7 : Hid (NewInts w2.heap.size w7 v' (m ++ [y - u / 24])) := by
          show World.ownsRow _ _ _ _ _ _ _
          simpa [hml] using hown
        have HB7 : Hid (But g w2 w7) := (HBs.out.alloc _).grown hgrow hrow
        have HD7 : Hid (DrawOk w.heap.size g w7) := (HD6.out.alloc _).grown hgrow (fun k e => by have := hrow k e; omega)
        clear hown hgrow hrow hml
        go_wp2
        go_roundw
        case rel => exact ⟨k + 1, m ++ [y - u / 24], by omega, by go_num, by have := HM.out; simp; omega, HN7.out, HB7.out, HD7.out⟩
        case measure => simp [intOf]; omega
    · go_wp2
      go_ret2
      have hB := HD1.out.1
      have hS := HD1.out.2.1
      exact ⟨_, _, l, m, rfl, hl, by have := HM.out; omega, HN4.out.mono hS, (HNr.out.but HB4.out hg2).mono (by omega), HB1.out.trans (((HB2.out.trans HBr.out).trans HB4.out).below hB hS)⟩
theorem Src.mono {B B' : Nat} {w : World} {a : Option Addr} {len : Nat} (h : Src B w a len) (hB : B ≤ B') : Src B' w a len := by
  refine ⟨h.1, ?_⟩
  rcases h.2 with h | ⟨b, off, e, hb, hc⟩
  · exact .inl h
  · exact .inr ⟨b, off, e, by omega, hc⟩
end Go.Proofs.Ytpjmnblkbejdlab
