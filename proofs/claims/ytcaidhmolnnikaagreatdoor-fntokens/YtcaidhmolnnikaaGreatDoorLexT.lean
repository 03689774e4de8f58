/-
  Walks: the program's tokensOf.
-/
import Derived.Test.YtcaidhmolnnikaaGreatDoorLexA
namespace Go.Proofs.YtcaidhmolnnikaaGreatDoor
open Go.RowKit
set_option linter.unusedVariables false
set_option linter.unusedSimpArgs false
theorem NewSp.iter {k : Nat} {w : World} {v : Value} {l : List Spn} (h : NewSp (k + 1) w v l) (s : ByteArray) (pos : Nat) : NewSp (k + 1) (w.iterAt k s pos) v l := by
  obtain ⟨h1, h2⟩ := h
  refine ⟨h1, ?_⟩
  rcases h2 with h2 | ⟨g, cap, cur, e', hk, hh, r⟩
  · exact .inl h2
  · exact .inr ⟨g, cap, cur, e', hk, by rw [Lib.iterAt_other w k g s pos (by omega)]; exact hh, r⟩
theorem NewSp.lower {B B' : Nat} {w : World} {v : Value} {l : List Spn} (h : NewSp B' w v l) (hB : B ≤ B') : NewSp B w v l := by
  obtain ⟨h1, h2⟩ := h
  refine ⟨h1, ?_⟩
  rcases h2 with h2 | ⟨g, cap, cur, e', hk, hh, r⟩
  · exact .inl h2
  · exact .inr ⟨g, cap, cur, e', by omega, hh, r⟩
theorem digD_bd {s : ByteArray} {p : Nat} (h : digD s p = true) : 48 ≤ bt s p ∧ bt s p ≤ 57 := by
  unfold digD at h
  simp only [Bool.and_eq_true, decide_eq_true_eq] at h
  exact h.2
/-- A token's bytes are all single. -/
theorem tkAt_low (s : ByteArray) {p : Nat} (hc : (tkAt s p).2.2.2 = 0) : bt s p < 128 ∧ ∀ j, p < j → j < (tkAt s p).2.2.1 → 48 ≤ bt s j ∧ bt s j < 128 := by
  unfold tkAt at hc ⊢
  by_cases h : digD s p = true ∨ bt s p = 95
  · rw [if_pos h] at hc ⊢
    refine ⟨by rcases h with h | h; · have := digD_bd h; omega
               · omega, ?_⟩
    dsimp only at hc ⊢
    unfold numAtS at hc ⊢
    dsimp only at hc ⊢
    have hq : p ≤ (if bt s p = 95 then p + 1 else p) ∧ (if bt s p = 95 then p + 1 else p) ≤ p + 1 := by split <;> omega
    generalize (if bt s p = 95 then p + 1 else p) = q at *
    by_cases h0 : nd s q = 0
    · rw [if_pos h0] at hc; exact absurd (show (8 : Int) = 0 from hc) (by decide)
    · rw [if_neg h0] at hc ⊢
      by_cases h2 : 1000000000000 < satTo s q (nd s q)
      · rw [if_pos h2] at hc; exact absurd (show (6 : Int) = 0 from hc) (by decide)
      · rw [if_neg h2]
        intro j h3 h4
        dsimp only at h4
        have h5 := nd_digs (s := s) (p := q) (j := j - q) (by omega)
        rw [show q + (j - q) = j by omega] at h5
        have := digD_bd h5
        omega
  · rw [if_neg h] at hc ⊢
    by_cases h1 : 65 ≤ bt s p ∧ bt s p ≤ 90
    · rw [if_pos h1]; exact ⟨by omega, fun j h2 h3 => absurd h3 (by dsimp only; omega)⟩
    · rw [if_neg h1] at hc ⊢
      by_cases h4 : bt s p = 40
      · rw [if_pos h4]; exact ⟨by omega, fun j h2 h3 => absurd h3 (by dsimp only; omega)⟩
      · rw [if_neg h4] at hc ⊢
        by_cases h5 : bt s p = 41
        · rw [if_pos h5]; exact ⟨by omega, fun j h2 h3 => absurd h3 (by dsimp only; omega)⟩
        · rw [if_neg h5] at hc ⊢
          by_cases h6 : bt s p = 58
          · rw [if_pos h6]; exact ⟨by omega, fun j h2 h3 => absurd h3 (by dsimp only; omega)⟩
          · rw [if_neg h6] at hc ⊢
            by_cases h7 : signB (bt s p) = true
            · rw [if_pos h7]; exact ⟨by have := sign_bd h7; omega, fun j h2 h3 => absurd h3 (by dsimp only; omega)⟩
            · rw [if_neg h7] at hc; exact absurd (show (8 : Int) = 0 from hc) (by decide)
/-- What tokensOf answers. -/
def TokPost (s : ByteArray) (w : World) (e : Ending) (w' : World) : Prop :=
  ∃ v er, e = .returned (.tuple #[v, er]) ∧ (((lexV s).2.1 = 0 ∧ (lexV s).2.2 = s.size ∧ er = .nilIface ∧ NewSp w.heap.size w' v (lexV s).1) ∨ ((lexV s).1 = [] ∧ (lexV s).2.1 ≠ 0 ∧ v = .slice none 0 0 ∧ er = .iface 48 (.agg #[.int .i64 (lexV s).2.1, .int .i64 ((lexV s).2.2 : Int)]))) ∧ Below w.heap.size w w'
set_option maxRecDepth 20000 in
set_option maxHeartbeats 8000000 in
theorem tokensOf_impl (HC : Cut95) (HP : Pre95) (HAt : AtoiD) (s : ByteArray) (hsz : s.size ≤ 1048576) {w : World} (he : ErrW w) :
    Calls Tryz.prog 24 #[.string s] w (TokPost s w) := by
  by_cases hbig : 300 < s.size
  · have e : lexV s = ([], 6, 0) := by unfold lexV; rw [if_pos hbig]
    have hb2 : (s.size : Int) > 300 := by omega
    show Calls Tryz.prog 24 #[.string s] w fun e w' => TokPost s w e w'
    unfold TokPost
    rw [e]
    clear he
    go_enter Tryz.func24, Tryz.ntmps24
    go_wp2
    go_ret2
    exact ⟨_, _, rfl, .inr (by simp), Below.refl _ _⟩
  have hs : s.size ≤ 300 := by omega
  have hb2 : ¬ (s.size : Int) > 300 := by omega
  have HE : Hid (ErrW w) := he
  have FK : Hid (∀ (p : Nat) (r : Int) (W : World), p < s.size → Rune0 (s.extract p s.size) r → ErrW W → Calls Tryz.prog 41 #[.int .i32 r, .string (s.extract p s.size)] W fun e w' => e = .returned (tkOut (tkAt s p).1 (tkAt s p).2.1 (tkAt (s.extract p s.size) 0).2.2.1 (tkAt s p).2.2.2) ∧ Below W.heap.size W w') := fun p r W hp hr hW => by
    have hz := sub_size s p (by omega)
    have h := firstToken_impl HC HP HAt (s.extract p s.size) (by omega) (by omega) r hr hW
    obtain ⟨q1, q2, q3, q4⟩ := tkAt_sub s p hp
    rw [q1, q2, q4] at h
    exact h
  have E0 : Hid (lexV s = lexR s 0 []) := by show _ = _; unfold lexV; rw [if_neg hbig]
  clear HC HP HAt he hbig
  show Calls Tryz.prog 24 #[.string s] w fun e w' => TokPost s w e w'
  go_enter Tryz.func24, Tryz.ntmps24
  go_wp2
  go_loopw [4, 5] (fun o a wr => ∃ (p b : Nat) (acc : List Spn) (ad : Option Addr) (cd : Nat), p ≤ s.size ∧ a = .int .i64 (b : Int) ∧ o = .slice ad acc.length cd ∧ wr.heap[w.heap.size]? = some (.stringIter s p) ∧ NewSp (w.heap.size + 1) wr (.slice ad acc.length cd) acc ∧ Below w.heap.size w wr ∧ Hid (lexV s = lexR s (max p b) acc ∧ acc.length ≤ max p b ∧ b ≤ s.size ∧ (∀ j, p ≤ j → j < b → 33 ≤ bt s j ∧ bt s j < 128))) (fun _ _ wr => s.size - wr.iterPos w.heap.size)
  case atStart =>
    refine ⟨0, 0, [], none, 0, by omega, rfl, rfl, ?_, NewSp.nil _ _, (Below.refl _ _).alloc (Nat.le_refl _) _, E0.out, by simp, by omega, fun j h1 h2 => absurd h2 (by omega)⟩
    have := World.iter_heap w s 0
    simpa using this
  case round =>
    obtain ⟨p, b, acc, ad, cd, hp, rfl, rfl, hit, hn, hb, hl⟩ := hrel
    have NK : Hid (NewSp (w.heap.size + 1) wr (.slice ad acc.length cd) acc) := hn
    have BK : Hid (Below w.heap.size w wr) := hb
    have HI : Hid (wr.heap[w.heap.size]? = some (.stringIter s p)) := hit
    have HL : Hid (lexV s = lexR s (max p b) acc ∧ acc.length ≤ max p b ∧ b ≤ s.size ∧ (∀ j, p ≤ j → j < b → 33 ≤ bt s j ∧ bt s j < 128)) := hl
    clear hn hb hl E0
    have pi : (p : Int) ≤ 300 := by omega
    have bi : (b : Int) ≤ 300 := by have := HL.out.2.2.1; omega
    by_cases hlt : p < s.size
    · have hbe := bt_at s hlt
      have HI2 : ∀ q, Hid ((wr.iterAt w.heap.size s q).heap[w.heap.size]? = some (.stringIter s q)) := fun q => Lib.iterAt_heap wr w.heap.size s p q hit
      have HB2 : ∀ q, Hid (Below w.heap.size w (wr.iterAt w.heap.size s q)) := fun q => Lib.below_iterAt BK.out (Nat.le_refl _) s q
      have HN2 : ∀ q, Hid (NewSp (w.heap.size + 1) (wr.iterAt w.heap.size s q) (.slice ad acc.length cd) acc) := fun q => NK.out.iter s q
      by_cases hpb : p < b
      · have LN : Hid (lexV s = lexR s (max (p + 1) b) acc ∧ acc.length ≤ max (p + 1) b ∧ b ≤ s.size ∧ (∀ j, p + 1 ≤ j → j < b → 33 ≤ bt s j ∧ bt s j < 128)) := by
          obtain ⟨a1, a2, a3, a4⟩ := HL.out
          have em : max (p + 1) b = max p b := by omega
          rw [em]
          exact ⟨a1, a2, a3, fun j h1 h2 => a4 j (by omega) h2⟩
        obtain ⟨g1, g2⟩ := HL.out.2.2.2 p (Nat.le_refl _) hpb
        rw [hbe] at g1 g2
        have hlo : (s[p]'hlt).toNat < 128 := by omega
        have hnx : ∀ ty, (Instr.next (.pointer (some ⟨w.heap.size, 0, none⟩)) true ty).run Tryz.prog wr = _ := fun ty => Lib.run_next_ascii_at wr w.heap.size s p ty hit hlt hlo
        generalize ((s[p]'hlt).toNat : Int) = r at *
        have hr32 : (r == 32) = false := by simp; omega
        have hpb2 : (p : Int) < (b : Int) := by omega
        have H1 := HI2 (p + 1)
        have H2 := HB2 (p + 1)
        have H3 := HN2 (p + 1)
        clear hit hbe HI2 HB2 HN2
        go_wp2
        go_roundw
        case rel => exact ⟨p + 1, b, acc, ad, cd, by omega, rfl, rfl, H1.out, H3.out, H2.out, LN.out⟩
        case measure => simp only [World.iterPos, H1.out, HI.out]; omega
      · have hpb2 : ¬ (p : Int) < (b : Int) := by omega
        have em : max p b = p := by omega
        have HM : Hid (lexV s = lexR s p acc ∧ acc.length ≤ p ∧ b ≤ s.size) := by
          obtain ⟨a1, a2, a3, a4⟩ := HL.out
          rw [em] at a1 a2
          exact ⟨a1, a2, a3⟩
        clear HL em
        by_cases h32 : bt s p = 32
        · have LN : Hid (lexV s = lexR s (max (p + 1) b) acc ∧ acc.length ≤ max (p + 1) b ∧ b ≤ s.size ∧ (∀ j, p + 1 ≤ j → j < b → 33 ≤ bt s j ∧ bt s j < 128)) := by
            obtain ⟨a1, a2, a3⟩ := HM.out
            rw [show max (p + 1) b = p + 1 by omega]
            exact ⟨a1.trans (lexR_blank hlt h32), by omega, a3, fun j h1 h2 => absurd h2 (by omega)⟩
          rw [hbe] at h32
          have hlo : (s[p]'hlt).toNat < 128 := by omega
          have hnx : ∀ ty, (Instr.next (.pointer (some ⟨w.heap.size, 0, none⟩)) true ty).run Tryz.prog wr = _ := fun ty => Lib.run_next_ascii_at wr w.heap.size s p ty hit hlt hlo
          rw [h32] at hnx
          have H1 := HI2 (p + 1)
          have H2 := HB2 (p + 1)
          have H3 := HN2 (p + 1)
          clear hit hbe HI2 HB2 HN2 h32
          go_wp2
          go_roundw
          case rel => exact ⟨p + 1, b, acc, ad, cd, by omega, rfl, rfl, H1.out, H3.out, H2.out, LN.out⟩
          case measure => simp only [World.iterPos, H1.out, HI.out]; omega
        · have hb0 : bt (s.extract p s.size) 0 = bt s p := by rw [bt_sub s p 0 (by omega), Nat.add_zero]
          have hnx0 : (tkAt (s.extract p s.size) 0).2.2.1 + p = (tkAt s p).2.2.1 := by have := (tkAt_sub s p hlt).2.2.1; omega
          have FP := fun (r : Int) (W : World) => FK.out p r W hlt
          by_cases hc : (tkAt s p).2.2.2 = 0
          · obtain ⟨z1, z2⟩ := tkAt_low s hc
            obtain ⟨z3, z4⟩ := tkAt_next s hlt hc
            have LR : Hid (lexV s = lexR s (tkAt s p).2.2.1 (acc ++ [⟨(tkAt s p).1, (tkAt s p).2.1⟩]) ∧ (∀ j, p < j → j < (tkAt s p).2.2.1 → 48 ≤ bt s j ∧ bt s j < 128)) := ⟨HM.out.1.trans (lexR_tok hlt h32 hc), z2⟩
            clear z2
            have r0 : Rune0 (s.extract p s.size) ((s[p]'hlt).toNat : Int) := .inl ⟨by rw [hb0]; exact z1, by rw [hb0, hbe]⟩
            have FT : Hid (∀ W, ErrW W → Calls Tryz.prog 41 #[.int .i32 ((s[p]'hlt).toNat : Int), .string (s.extract p s.size)] W fun e w' => e = .returned (.tuple #[.agg #[.int .i64 (tkAt s p).1, .int .i64 (tkAt s p).2.1], .int .i64 (((tkAt (s.extract p s.size) 0).2.2.1 : Nat) : Int), .int .i64 0]) ∧ Below W.heap.size W w') := fun W hW => by
              have h := FP _ W r0 hW
              rw [hc] at h
              exact h
            have hlo : (s[p]'hlt).toNat < 128 := by omega
            have hnx : ∀ ty, (Instr.next (.pointer (some ⟨w.heap.size, 0, none⟩)) true ty).run Tryz.prog wr = _ := fun ty => Lib.run_next_ascii_at wr w.heap.size s p ty hit hlt hlo
            have hr32 : (((s[p]'hlt).toNat : Int) == 32) = false := by simp; omega
            generalize ((s[p]'hlt).toNat : Int) = r at *
            have H1 := HI2 (p + 1)
            have H2 := HB2 (p + 1)
            have H3 := HN2 (p + 1)
            have EW : Hid (ErrW (wr.iterAt w.heap.size s (p + 1))) := HE.out.on H2.out
            clear hit hbe HI2 HB2 HN2 h32 FP hb0 r0 hc
            generalize (tkAt (s.extract p s.size) 0).2.2.1 = n at *
            generalize (tkAt s p).2.2.1 = nx at *
            generalize (tkAt s p).1 = k at *
            generalize (tkAt s p).2.1 = v at *
            have ni : (p : Int) + (n : Int) ≤ 300 := by omega
            go_wp2_with fail
            refine (FT.out _ EW.out).mono ?_
            rintro e w2 ⟨rfl, hb2⟩
            have N2 : NewSp (w.heap.size + 1) w2 (.slice ad acc.length cd) acc := H3.out.keep hb2
            have I2 : w2.heap[w.heap.size]? = some (.stringIter s (p + 1)) := (hb2.block _ (lt_of_heapA H1.out)).trans H1.out
            have BB : Hid (Below w.heap.size w w2) := bTrans H2.out hb2
            have S2 : w.heap.size + 1 ≤ w2.heap.size := lt_of_heapA I2
            have I3 : (w2.alloc (.cells #[.int .i64 k, .int .i64 v] 29)).heap[w.heap.size]? = some (.stringIter s (p + 1)) := ((bAlloc (Below.refl w2.heap.size w2) _).block _ (lt_of_heapA I2)).trans I2
            obtain ⟨a5, c5, w5, r5, n5, b5⟩ := growS (⟨k, v⟩ : Spn) (N2.keep (bAlloc (Below.refl w2.heap.size w2) (.cells #[.int .i64 k, .int .i64 v] 29))) (Nat.le_trans S2 (bAlloc (Below.refl w2.heap.size w2) (.cells #[.int .i64 k, .int .i64 v] 29)).size) (by have := HM.out.2.1; omega)
            have e5 : (w2.alloc (.cells #[.int .i64 k, .int .i64 v] 29)).heap.size = w2.heap.size + 1 := by simp only [World.alloc, Array.size_push]
            rw [e5] at r5
            have R5 : Hid (∀ ty, (Builtin.append_ #[24, 24] ty #[.slice ad acc.length cd, .slice (some ⟨w2.heap.size + 1, 0, none⟩) 1 1]).run Tryz.prog ((w2.alloc (.cells #[.int .i64 k, .int .i64 v] 29)).alloc (.cells #[.int .i64 k, .int .i64 v] 29)) = .ok (.slice a5 (acc.length + 1) c5) w5) := r5
            have N5 : Hid (NewSp (w.heap.size + 1) w5 (.slice a5 (acc.length + 1) c5) (acc ++ [⟨k, v⟩])) := n5
            have B5 : Hid (Below w.heap.size w w5) := (bAlloc BB.out _).trans (b5.mono (Nat.le_succ _))
            have I5 : Hid (w5.heap[w.heap.size]? = some (.stringIter s (p + 1))) := (b5.block _ (Nat.lt_succ_self _)).trans I3
            have LE : Hid ((acc ++ [(⟨k, v⟩ : Spn)]).length = acc.length + 1) := by show _ = _; simp
            clear r5 n5 b5 e5 N2 I2 S2 I3 hb2
            go_wp2_with (at_builtin; refine wpList_append_ty rfl _ _ 24 24 rfl _ _ _ rfl rfl (R5.out _) ?_)
            go_roundw
            case rel =>
              obtain ⟨l1, l2⟩ := LR.out
              have l3 := HM.out.2.1
              exact ⟨p + 1, p + n, _, a5, c5, by omega, by go_num, by rw [LE.out], I5.out, by rw [LE.out]; exact N5.out, B5.out, by rw [show max (p + 1) (p + n) = nx by omega]; exact l1, by rw [LE.out]; omega, by omega, fun j h1 h2 => by have := l2 j (by omega) (by omega); omega⟩
            case measure => simp only [World.iterPos, I5.out, HI.out]; omega
          · have LB : Hid (lexV s = ([], (tkAt s p).2.2.2, p)) := HM.out.1.trans (lexR_bad hlt h32 hc)
            obtain ⟨r, q, hr0, hr32, hnx⟩ : ∃ (r : Int) (q : Nat), Rune0 (s.extract p s.size) r ∧ (r == 32) = false ∧ ∀ ty, (Instr.next (.pointer (some ⟨w.heap.size, 0, none⟩)) true ty).run Tryz.prog wr = .ok (.tuple #[.bool true, .int .i64 (p : Int), .int .i32 r]) (wr.iterAt w.heap.size s q) := by
              by_cases h8 : (s[p]'hlt).toNat < 128
              · exact ⟨_, _, .inl ⟨by rw [hb0, hbe]; omega, by rw [hb0, hbe]⟩, by simp; omega, fun ty => Lib.run_next_ascii_at wr w.heap.size s p ty hit hlt h8⟩
              · have := dec_high s p hlt (by omega)
                exact ⟨_, _, .inr ⟨by rw [hb0, hbe]; omega, by omega, by omega⟩, by simp; omega, fun ty => Lib.run_next_any_at wr w.heap.size s p ty hit hlt⟩
            have FT : Hid (∀ W, ErrW W → Calls Tryz.prog 41 #[.int .i32 r, .string (s.extract p s.size)] W fun e w' => e = .returned (.tuple #[.agg #[.int .i64 0, .int .i64 0], .int .i64 0, .int .i64 (tkAt s p).2.2.2]) ∧ Below W.heap.size W w') := fun W hW => by
              have h := FP r W hr0 hW
              unfold tkOut at h
              rw [if_neg hc] at h
              exact h
            have H1 := HI2 q
            have H2 := HB2 q
            have EW : Hid (ErrW (wr.iterAt w.heap.size s q)) := HE.out.on H2.out
            clear hit hbe HI2 HB2 HN2 h32 FP hb0 hr0 hnx0
            generalize (tkAt s p).2.2.2 = c at *
            go_wp2_with fail
            refine (FT.out _ EW.out).mono ?_
            rintro e w2 ⟨rfl, hb2⟩
            have BB : Hid (Below w.heap.size w w2) := bTrans H2.out hb2
            clear hb2
            go_wp2
            go_ret2
            unfold TokPost
            rw [LB.out]
            exact ⟨_, _, rfl, .inr ⟨rfl, hc, rfl, rfl⟩, bAlloc BB.out _⟩
    · have LE : Hid (lexV s = (acc, 0, s.size)) := by
        obtain ⟨a1, a2, a3, a4⟩ := HL.out
        rw [show max p b = s.size by omega] at a1
        exact a1.trans (lexR_end (Nat.le_refl _))
      have hnx : ∀ ty, (Instr.next (.pointer (some ⟨w.heap.size, 0, none⟩)) true ty).run Tryz.prog wr = _ := fun ty => Lib.run_next_end_at wr w.heap.size s p ty hit hlt
      clear hit
      go_wp2
      go_ret2
      unfold TokPost
      rw [LE.out]
      exact ⟨_, _, rfl, .inl ⟨rfl, rfl, rfl, NK.out.lower (Nat.le_succ _)⟩, BK.out⟩
end Go.Proofs.YtcaidhmolnnikaaGreatDoor
