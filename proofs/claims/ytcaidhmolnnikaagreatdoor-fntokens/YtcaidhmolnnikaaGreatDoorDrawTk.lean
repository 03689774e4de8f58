/-
  Walks: the specification's draw of a list of tokens (DrawTokenText); the laws' sameTokens.
-/
import Derived.Test.YtcaidhmolnnikaaGreatDoorLexY
import Derived.Test.YtcaidhmolnnikaaGreatDoorDrawTy
import Derived.Test.YtcaidhmolnnikaaGreatDoorTokV
namespace Go.Proofs.YtcaidhmolnnikaaGreatDoor
open Go.RowKit
set_option linter.unusedVariables false
set_option linter.unusedSimpArgs false
theorem NewSp.but {B g : Nat} {w w' : World} {v : Value} {l : List Spn} (h : NewSp B w v l) (hb : But g w w') (hg : g < B) : NewSp B w' v l := by
  obtain ⟨h1, h2⟩ := h
  refine ⟨h1, ?_⟩
  rcases h2 with h2 | ⟨k, cap, cur, e', hk, hh, r⟩
  · exact .inl h2
  · exact .inr ⟨k, cap, cur, e', hk, by rw [hb.block k (lt_of_heapA hh) (by omega)]; exact hh, r⟩
theorem SBlk.but {g n q : Nat} {E : Nat → Spn} {w w' : World} (h : SBlk w q n E) (hb : But g w w') (hq : q ≠ g) : SBlk w' q n E := by
  obtain ⟨cur, t, hg, h⟩ := h
  exact ⟨cur, t, by rw [hb.block q (lt_of_heapA hg) hq]; exact hg, h⟩
/-- Its first number alone is set. -/
theorem SBlk.set1 {g n k : Nat} {E : Nat → Spn} {w : World} (h : SBlk w g n E) (hk : k < n) (x : Int) : SBlk (w.setCell ⟨g, k * 2, none⟩ (.int .i64 x)) g n (upS E k ⟨x, (E k).t⟩) := by
  obtain ⟨cur, t, hg, h⟩ := h
  have s1 := heap_setCell_same w g (k * 2) _ _ (.int .i64 x) hg
  obtain ⟨k1, k2⟩ := h k hk
  have l1 := (Array.getElem?_eq_some_iff.1 k1).1
  refine ⟨_, t, s1, fun i hi => ?_⟩
  obtain ⟨q1, q2⟩ := h i hi
  by_cases e : i = k
  · subst e
    rw [upS_at]
    exact ⟨by rw [Array.getElem?_setIfInBounds, if_pos rfl, if_pos l1], by rw [Array.getElem?_setIfInBounds, if_neg (by omega)]; exact q2⟩
  · rw [upS_ne E _ e]
    exact ⟨by rw [Array.getElem?_setIfInBounds, if_neg (by omega)]; exact q1, by rw [Array.getElem?_setIfInBounds, if_neg (by omega)]; exact q2⟩
theorem lexF_place (s : ByteArray) : ∀ (f p : Nat) (acc : List Spn), (lexF s f p acc).2.2 ≤ s.size
  | 0, p, acc => Nat.le_refl _
  | f + 1, p, acc => by
    simp only [lexF]
    split
    · split
      · exact lexF_place s f _ _
      · split
        · exact lexF_place s f _ _
        · show p ≤ s.size; omega
    · exact Nat.le_refl _
theorem lexV_place (s : ByteArray) : (lexV s).2.2 ≤ s.size := by
  unfold lexV
  split
  · exact Nat.zero_le _
  · exact lexF_place s _ _ _
theorem lexV_short (s : ByteArray) (h : (lexV s).2.1 = 0) : s.size ≤ 300 := by
  unfold lexV at h
  by_cases e : 300 < s.size
  · rw [if_pos e] at h; exact absurd (show (6 : Int) = 0 from h) (by decide)
  · omega
set_option maxRecDepth 20000 in
set_option maxHeartbeats 8000000 in
/-- DrawTokenText. -/
theorem drawTok_spec {w : World} {a : Option Addr} {len cap : Nat} (hs : Src w.heap.size w a len) (hb20 : len ≤ 1048576) :
    Calls Tryz.prog 5 #[.slice a len cap] w fun e w' => ∃ (x : Option Addr) (n c : Nat) (E : Nat → Spn), e = .returned (.slice x n c) ∧ n ≤ 30000 ∧ SsA w' x n E ∧ Below w.heap.size w w' := by
  have HS : Hid (Src w.heap.size w a len) := hs
  clear hs
  go_enter Tryz.func5, Tryz.ntmps5
  go_wp2_with fail
  refine (new_spec HS.out hb20).mono ?_
  rintro e w1 ⟨g, rfl, hb, hd⟩
  have HW : Hid (Below w.heap.size w w1) := hb
  have HD1 : Hid (DrawOk w.heap.size g w1) := hd
  have EN : Hid (∀ W, But g w1 W → Below w.heap.size w W) := fun W h => HW.out.trans (h.below HD1.out.1 HW.out.size)
  clear hb hd
  go_wp2_with fail
  refine (text_draw HD1.out).mono ?_
  rintro e w2 ⟨s, rfl, hs0, hb, hd⟩
  have HB2 : Hid (But g w1 w2) := hb
  have HD2 : Hid (DrawOk w.heap.size g w2) := hd
  clear hb hd
  go_wp2_with fail
  refine (lex_spec s (by omega) w2).mono ?_
  rintro e w3 ⟨v, rfl, hn, hb⟩
  have HLn := lexV_len s
  obtain ⟨x3, c3, hv⟩ := hn.piece.slice
  subst hv
  have N3 : Hid (NewSp w2.heap.size w3 (.slice x3 (lexV s).1.length c3) (lexV s).1) := hn
  have HB3 : Hid (But g w1 w3) := HB2.out.trans (But.ofB hb)
  have HD3 : Hid (DrawOk w.heap.size g w3) := HD2.out.keep (hb.mono HD2.out.2.1) (hb.block g HD2.out.lt)
  have G2 : Hid (g < w2.heap.size) := HD2.out.lt
  have S23 : Hid (w2.heap.size ≤ w3.heap.size) := hb.size
  generalize (lexV s).1 = l at *
  generalize (lexV s).2.1 = cc at *
  generalize ((lexV s).2.2 : Int) = pl at *
  clear hb hn
  go_wp2_with fail
  refine (below_small HD3.out 15 (by decide) (by decide)).mono ?_
  rintro e w4 ⟨y, y1, y2, rfl, hb, hd⟩
  have HB4 : Hid (But g w1 w4) := HB3.out.trans hb
  have HD4 : Hid (DrawOk w.heap.size g w4) := hd
  have N4 : Hid (NewSp w2.heap.size w4 (.slice x3 l.length c3) l) := N3.out.but hb G2.out
  have S24 : Hid (w2.heap.size ≤ w4.heap.size) := Nat.le_trans S23.out hb.size
  clear hb hd N3
  by_cases q0 : y = 0
  · subst q0
    go_wp2_with fail
    refine (below_small HD4.out 8 (by decide) (by decide)).mono ?_
    rintro e w5 ⟨k, k1, k2, rfl, hb, hd⟩
    have HB5 : Hid (But g w1 w5) := HB4.out.trans hb
    have HD5 : Hid (DrawOk w.heap.size g w5) := hd
    have N5 : Hid (NewSp w2.heap.size w5 (.slice x3 l.length c3) l) := N4.out.but hb G2.out
    have S25 : Hid (w2.heap.size ≤ w5.heap.size) := Nat.le_trans S24.out hb.size
    clear hb hd N4
    go_wp2_with fail
    refine (below_small HD5.out 40 (by decide) (by decide)).mono ?_
    rintro e w6 ⟨z, z1, z2, rfl, hb, hd⟩
    have HB6 : Hid (But g w1 w6) := HB5.out.trans hb
    have N6 : Hid (NewSp w2.heap.size w6 (.slice x3 l.length c3) l) := N5.out.but hb G2.out
    have S26 : Hid (w2.heap.size ≤ w6.heap.size) := Nat.le_trans S25.out hb.size
    clear hb hd N5
    obtain ⟨a7, c7, w7, r7, n7, b7⟩ := growS (⟨k, z⟩ : Spn) N6.out S26.out (by omega)
    have R7 : Hid (∀ ty, (Builtin.append_ #[24, 24] ty #[.slice x3 l.length c3, .slice (some ⟨w6.heap.size, 0, none⟩) 1 1]).run Tryz.prog (w6.alloc (.cells #[.int .i64 k, .int .i64 z] 29)) = .ok (.slice a7 (l.length + 1) c7) w7) := r7
    have N7 : Hid (NewSp w2.heap.size w7 (.slice a7 (l.length + 1) c7) (l ++ [⟨k, z⟩])) := n7
    have B7 : Hid (Below w.heap.size w w7) := (EN.out _ HB6.out).trans (b7.mono (Nat.le_trans HW.out.size HB2.out.size))
    have NP : Hid (SsA w7 a7 (l.length + 1) (fun i => (l ++ [(⟨k, z⟩ : Spn)]).getD i spn0)) := by
      have hp := n7.piece
      rw [show (l ++ [(⟨k, z⟩ : Spn)]).length = l.length + 1 by simp] at hp
      exact hp.ssA
    clear r7 n7 b7
    go_wp2_with (at_builtin; refine wpList_append_ty rfl _ _ 24 24 rfl _ _ _ rfl rfl (R7.out _) ?_)
    go_ret
    exact ⟨_, _, _, _, rfl, by omega, NP.out, B7.out⟩
  · have q0' : (y == 0) = false := by simp [q0]
    by_cases q1 : y = 1
    · subst q1
      go_wp2_with fail
      refine (below_small HD4.out 2 (by decide) (by decide)).mono ?_
      rintro e w5 ⟨k, k1, k2, rfl, hb, hd⟩
      obtain ⟨m, rfl⟩ : ∃ m : Nat, k = (m : Int) := Int.eq_ofNat_of_zero_le k1
      have HB5 : Hid (But g w1 w5) := HB4.out.trans hb
      have G5 : Hid (g < w5.heap.size) := hd.lt
      clear hb hd
      obtain ⟨w6, mk, sb, sz, hb⟩ := make_toks (300 + m) (by omega) w5
      have MK : Hid (∀ ty : TypeId, (Instr.makeSlice 24 (.int .i64 (300 + (m : Int))) (.int .i64 (300 + (m : Int)))).run Tryz.prog w5 = .ok (.slice (some ⟨w5.heap.size, 0, none⟩) (300 + m) (300 + m)) w6) := fun _ => by
        have := mk
        rw [show ((300 + m : Nat) : Int) = 300 + (m : Int) by omega] at this
        exact this
      have B6 : Hid (Below w.heap.size w w6) := (EN.out _ HB5.out).trans (hb.mono (Nat.le_trans HW.out.size HB5.out.size))
      have S6 : Hid (SBlk w6 w5.heap.size (300 + m) (fun _ => spn0)) := sb
      have Z5 : Hid (w.heap.size ≤ w5.heap.size) := Nat.le_trans HW.out.size HB5.out.size
      clear mk sb hb
      have mk2 := MK.out 0
      have mi : 300 + (m : Int) ≤ 301 := by omega
      go_wp2
      go_loopw [7] (fun i wr => ∃ (k : Nat) (E : Nat → Spn), k ≤ 300 + m ∧ i = .int .i64 (k : Int) ∧ SBlk wr w5.heap.size (300 + m) E ∧ Below w.heap.size w wr) (fun i _ => 300 + m - (intOf i).toNat)
      case atStart => exact ⟨0, _, by omega, rfl, S6.out, B6.out⟩
      case round =>
        obtain ⟨k, E, hk, rfl, hS, hB⟩ := hrel
        have HSr : Hid (SBlk wr w5.heap.size (300 + m) E) := hS
        have HBr : Hid (Below w.heap.size w wr) := hB
        clear hS hB
        by_cases hlt : (k : Int) < 300 + (m : Int)
        · have L : k < 300 + m := by omega
          obtain ⟨d0, d1, d2⟩ := HSr.out.cells L
          have NS : Hid (SBlk (wr.setCell ⟨w5.heap.size, k * 2, none⟩ (.int .i64 1)) w5.heap.size (300 + m) (upS E k ⟨1, (E k).t⟩)) := HSr.out.set1 L 1
          have NB : Hid (Below w.heap.size w (wr.setCell ⟨w5.heap.size, k * 2, none⟩ (.int .i64 1))) := below_setCell HBr.out Z5.out _ _
          go_wp2
          go_roundw
          case rel => exact ⟨k + 1, _, by omega, by go_num, NS.out, NB.out⟩
          case measure => simp [intOf]; omega
        · obtain rfl : k = 300 + m := by omega
          have FIN : Hid (∃ (x : Option Addr) (n c : Nat) (E : Nat → Spn), Ending.returned (Value.slice (some ⟨w5.heap.size, 0, none⟩) (300 + m) (300 + m)) = .returned (.slice x n c) ∧ n ≤ 30000 ∧ SsA wr x n E ∧ Below w.heap.size w wr) := ⟨_, _, _, _, rfl, by omega, HSr.out.ssA, HBr.out⟩
          go_wp2
          go_ret
          first
            | exact FIN.out
            | simpa using FIN.out
    · have q1' : (y == 1) = false := by simp [q1]
      go_wp2
      go_ret
      exact ⟨_, _, _, _, rfl, by omega, N4.out.piece.ssA, EN.out _ HB4.out⟩
end Go.Proofs.YtcaidhmolnnikaaGreatDoor
