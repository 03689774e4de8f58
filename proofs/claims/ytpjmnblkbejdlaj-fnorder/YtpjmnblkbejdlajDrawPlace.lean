
/-
  Walks: numbers drawn below any bound; the specification's DrawIndexOf and DrawPlaceOf.
-/
import Derived.Test.YtpjmnblkbejdlajDrawShape
import Derived.Test.YtpjmnblkbejdlajSpecIndex
import Derived.Test.YtpjmnblkbejdlajDraws
namespace Go.Proofs.Ytpjmnblkbejdlaj
open Go.RowKit
set_option linter.unusedVariables false
set_option maxRecDepth 20000 in
set_option maxHeartbeats 1000000 in
theorem below_big {B g : Nat} {w : World} (hd : DrawOk B g w) (n : Int) (n0 : 256 < n) (n1 : n ≤ 1073741824) :
    Calls Try.prog 13 #[.pointer (some ⟨g, 0, none⟩), .int .i64 n] w fun e w' => ∃ x : Int, 0 ≤ x ∧ x < n ∧ e = .returned (.int .i64 x) ∧ But g w w' ∧ DrawOk B g w' := by
  have HD0 : Hid (DrawOk B g w) := hd
  clear hd
  have hn : ¬ n ≤ 0 := by omega
  have hn2 : ¬ n ≤ 256 := by omega
  go_enter Try.func13, Try.ntmps13
  go_wp2_with fail
  refine (byte_spec HD0.out).mono ?_
  rintro e w1 ⟨x1, a1, b1, rfl, hb, hd⟩
  have HB1 : Hid (But g _ w1) := hb
  have HD1 : Hid (DrawOk B g w1) := hd
  clear hb hd
  go_wp2_with fail
  refine (byte_spec HD1.out).mono ?_
  rintro e w2 ⟨x2, a2, b2, rfl, hb, hd⟩
  have HB2 : Hid (But g _ w2) := hb
  have HD2 : Hid (DrawOk B g w2) := hd
  clear hb hd
  go_wp2_with fail
  refine (byte_spec HD2.out).mono ?_
  rintro e w3 ⟨x3, a3, b3, rfl, hb, hd⟩
  have HB3 : Hid (But g _ w3) := hb
  have HD3 : Hid (DrawOk B g w3) := hd
  clear hb hd
  go_wp2_with fail
  refine (byte_spec HD3.out).mono ?_
  rintro e w4 ⟨x4, a4, b4, rfl, hb, hd⟩
  have HB4 : Hid (But g _ w4) := hb
  have HD4 : Hid (DrawOk B g w4) := hd
  clear hb hd
  go_wp2
  go_ret
  exact ⟨_, Int.emod_nonneg _ (by omega), Int.emod_lt_of_pos _ (by omega), rfl, ((HB1.out.trans HB2.out).trans HB3.out).trans HB4.out, HD4.out⟩
set_option maxHeartbeats 1000000 in
theorem below_none {B g : Nat} {w : World} (hd : DrawOk B g w) (n : Int) (n0 : n ≤ 0) :
    Calls Try.prog 13 #[.pointer (some ⟨g, 0, none⟩), .int .i64 n] w fun e w' => ∃ x : Int, 0 ≤ x ∧ x < 1 ∧ e = .returned (.int .i64 x) ∧ But g w w' ∧ DrawOk B g w' := by
  have HD0 : Hid (DrawOk B g w) := hd
  clear hd
  go_enter Try.func13, Try.ntmps13
  go_wp2
  go_ret
  exact ⟨0, by decide, by decide, rfl, But.refl _ _, HD0.out⟩
/-- A number from 0 up to below n (0, where n is none above nought). -/
theorem below_any {B g : Nat} {w : World} (hd : DrawOk B g w) (n : Int) (n1 : n ≤ 1073741824) :
    Calls Try.prog 13 #[.pointer (some ⟨g, 0, none⟩), .int .i64 n] w fun e w' => ∃ x : Int, 0 ≤ x ∧ (x < n ∨ x = 0) ∧ e = .returned (.int .i64 x) ∧ But g w w' ∧ DrawOk B g w' := by
  by_cases h0 : n ≤ 0
  · refine (below_none hd n h0).mono ?_
    rintro e w' ⟨x, h1, h2, r⟩
    exact ⟨x, h1, .inr (by omega), r⟩
  · by_cases h1 : n ≤ 256
    · refine (below_small hd n (by omega) h1).mono ?_
      rintro e w' ⟨x, h1, h2, r⟩
      exact ⟨x, h1, .inl h2, r⟩
    · refine (below_big hd n (by omega) n1).mono ?_
      rintro e w' ⟨x, h1, h2, r⟩
      exact ⟨x, h1, .inl h2, r⟩
set_option maxRecDepth 20000 in
set_option maxHeartbeats 2000000 in
/-- A shape and a place are drawn. -/
theorem drawIndexOf_spec {w : World} {a : Option Addr} {len cap : Nat} (hs : Src w.heap.size w a len) (hb20 : len ≤ 1048576) :
    Calls Try.prog 5 #[.slice a len cap] w fun e w' => ∃ (v : Value) (l : List Int) (p : Int), e = .returned (.tuple #[v, .int .i64 p]) ∧ (l.length ≤ 4 ∧ Near l) ∧ -1 ≤ p ∧ p ≤ 1000 ∧ NewInts w.heap.size w' v l ∧ Below w.heap.size w w' := by
  have HS : Hid (Src w.heap.size w a len) := hs
  clear hs
  go_enter Try.func5, Try.ntmps5
  go_wp2_with fail
  refine (new_spec HS.out hb20).mono ?_
  rintro e w1 ⟨g, rfl, hb, hd⟩
  have HB1 : Hid (Below w.heap.size w w1) := hb
  have HD1 : Hid (DrawOk w.heap.size g w1) := hd
  have hg1 := hd.lt
  clear hb hd
  go_wp2_with fail
  refine (shape_draw HD1.out).mono ?_
  rintro e w2 ⟨v, l, rfl, ⟨hl, hnear⟩, hn, hb, hd⟩
  have NR : Hid (Near l) := hnear
  clear hnear
  have HN2 : Hid (NewInts w1.heap.size w2 v l) := hn
  have HB2 : Hid (But g w1 w2) := hb
  have HD2 : Hid (DrawOk w.heap.size g w2) := hd
  obtain ⟨ad, c, rfl, hi⟩ := hn.ints
  have HI : Hid (Ints w2 ad l) := hi
  clear hn hb hd hi
  go_wp2_with fail
  refine (size_spec c HI.out).mono ?_
  rintro e w' ⟨rfl, hw⟩
  subst w'
  obtain ⟨z1, z2⟩ := sizeV_bd l
  generalize sizeV l = sz at *
  go_wp2_with fail
  refine (below_any HD2.out (sz + 1) (by omega)).mono ?_
  rintro e w3 ⟨x, x1, x2, rfl, hb, hd⟩
  have HB3 : Hid (But g w2 w3) := hb
  have HD3 : Hid (DrawOk w.heap.size g w3) := hd
  have x3 : x ≤ 301 := by omega
  clear hb hd x2
  go_wp2_with fail
  refine (below_small HD3.out 20 (by decide) (by decide)).mono ?_
  rintro e w4 ⟨y, y1, y2, rfl, hb, hd⟩
  have HB4 : Hid (But g w3 w4) := hb
  clear hb hd
  go_wp2
  go_ret2
  have hB := HD1.out.1
  have hS := HD1.out.2.1
  refine ⟨_, l, _, rfl, ⟨hl, NR.out⟩, ?_, ?_, ((HN2.out.but HB3.out hg1).but HB4.out hg1).mono hS, HB1.out.trans (((HB2.out.trans HB3.out).trans HB4.out).below hB hS)⟩
  · omega
  · omega
theorem Src.mono {B B' : Nat} {w : World} {a : Option Addr} {len : Nat} (h : Src B w a len) (hB : B ≤ B') : Src B' w a len := by
  refine ⟨h.1, ?_⟩
  rcases h.2 with h | ⟨b, off, e, hb, hc⟩
  · exact .inl h
  · exact .inr ⟨b, off, e, by omega, hc⟩
end Go.Proofs.Ytpjmnblkbejdlaj
