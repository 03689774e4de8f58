/-
  Proved: at every row of bytes, the law FnTokens returns true: the program's TokenText of the tokens that the specification draws is the specification's; where they are right and the text is short enough, Lex reads them back; of the text that is drawn Lex tells the code and the place that the specification's tells, and what it reads is written and read back as the same. Condition: strconv's table of powers of ten and the two tables of math/bits, errors.errorType, strconv.ErrRange and ErrSyntax hold what their own initialisers lay (the card ties them to the text of the pruned copy of the project that the seat bears: it says nothing of packages beside it).
-/
import Derived.Test.YtcaidhmolnnikaaGreatDoorRows
import Derived.WalkKit
import Derived.ProofKit
import Derived.OpenShut
import Derived.ShutString
import Derived.ChangeOld
import Derived.Below
import Derived.Deep.Cut
import Derived.Test.YtcaidhmolnnikaaGreatDoorTie
import Derived.Test.YtcaidhmolnnikaaGreatDoorCards
import Derived.LaidLaws
import Derived.LaidHandle
import Derived.Lib.LaidTab
import Derived.Lib.LaidIn
import Derived.SevenTiedAt
import Derived.Test.YtcaidhmolnnikaaGreatDoorFrame
import Derived.Test.YtcaidhmolnnikaaGreatDoorZ1
namespace Go.Proofs.YtcaidhmolnnikaaGreatDoor.fnTokens
open Go.ChangeShapes Go.WideShapes Go.ChangeAt Go.RowKit
open Go.ChangeMaps (open_string shut_string)
set_option linter.unusedVariables false
set_option linter.unusedSimpArgs false

theorem own : ownKnob Tryz.prog.godebug = none := by kernel_rfl
theorem laidOut : laidOutB Tryz.prog = true := by kernel_rfl

set_option maxRecDepth 20000 in
set_option maxHeartbeats 8000000 in
/-- The walk: the law returns true, and writes nothing that was there. -/
theorem walk (a0 : Option Addr) (len0 cap0 : Nat) (z0 : List Int) (w : World) (ht : TabW w ∧ ErrW w ∧ TypW w) (w0 : IsRow .u8 w a0 len0 cap0 z0) :
    Calls Tryz.prog 3 #[.slice a0 len0 cap0] w fun e w' => e = .returned (.bool true) ∧ Below w.heap.size w w' := by
  have HS : Hid (Src w.heap.size w a0 len0) := src_of_row w0
  have HTB : Hid (TabW w) := ht.1
  have HER : Hid (ErrW w) := ht.2.1
  have HTY : Hid (TypW w) := ht.2.2
  clear w0 ht
  by_cases hbig : (1048576 : Int) < (len0 : Int)
  · go_enter Tryz.func3, Tryz.ntmps3
    go_wp2_with (go_at_call 4; refine (big_laws _ _ _ _).mono ?_; rintro e w' ⟨rfl, hw⟩; subst w')
    go_ret
    exact ⟨rfl, Below.refl _ _⟩
  have hb20 : len0 ≤ 1048576 := by omega
  have IMG : Hid (∀ (t : ByteArray) (W : World), t.size ≤ 1048576 → Below w.heap.size w W → Calls Tryz.prog 9 #[.string t] W fun r w' => ∃ a c, r = .returned (.tuple #[.slice a (lexV t).1.length c, .int .i64 (lexV t).2.1, .int .i64 ((lexV t).2.2 : Int)]) ∧ SPiece W.heap.size w'.heap.size w' (.slice a (lexV t).1.length c) (lexV t).1.length (fun i => (lexV t).1.getD i spn0) ∧ Below W.heap.size W w') := fun t W ht hW => by
    refine (lex_impl cut95 pre95 atoiD t ht (HER.out.on hW) (HTY.out.on hW)).mono ?_
    rintro r w' ⟨v, rfl, hn, hb⟩
    have hp := hn.piece
    obtain ⟨a, c, rfl⟩ := hp.slice
    exact ⟨a, c, rfl, hp, hb⟩
  clear HER HTY hbig
  go_enter Tryz.func3, Tryz.ntmps3
  go_wp2_with (go_at_call 4; refine (big_laws _ _ _ _).mono ?_; rintro e w' ⟨rfl, hw⟩; subst w')
  refine (drawTok_spec HS.out hb20).mono ?_
  rintro r w1 ⟨x, n, c, E, rfl, hn, hS, hb⟩
  have HT1 : Hid (Below w.heap.size w w1) := hb
  have S1 : Hid (SsA w1 x n E) := hS
  clear hb hS
  have TT1 : Hid (Calls Tryz.prog 6 #[.slice x n c] w1 fun e w' => e = .returned (.string (tokV n E)) ∧ Below w1.heap.size w1 w') := tokenText_impl joins S1.out (by omega) (HTB.out.on HT1.out)
  have TS1 : Hid (∀ W, SsA W x n E → Calls Tryz.prog 7 #[.slice x n c] W fun e w' => e = .returned (.string (tokV n E)) ∧ Below W.heap.size W w') := fun W h => tokenText_spec h (by omega)
  have IV := IMG.out (tokV n E)
  have hle := tokV_le n E
  have hl : tokAll E n = true → n ≤ 300 → (tokV n E).size ≤ 300 → lexV (tokV n E) = ((List.range n).map E, 0, (tokV n E).size) := fun h1 h2 h3 => lexV_tokV h1 h2 h3
  have IQ : Hid (tokAll E n = true → n ≤ 300 → (tokV n E).size ≤ 300 → ∀ W, Below w.heap.size w W → Calls Tryz.prog 9 #[.string (tokV n E)] W fun r w' => ∃ a c, r = .returned (.tuple #[.slice a n c, .int .i64 0, .int .i64 ((tokV n E).size : Int)]) ∧ SsA w' a n E ∧ Below W.heap.size W w') := fun h1 h2 h3 W hW => by
    have ML : ((List.range n).map E).length = n := by simp
    rw [hl h1 h2 h3] at IV
    dsimp only at IV
    rw [ML] at IV
    refine (IV W (by omega) hW).mono ?_
    rintro r w' ⟨a, c, rfl, hp, hb⟩
    exact ⟨a, c, rfl, hp.ssA.congr fun i hi => (map_getD E hi).symm, hb⟩
  clear IV hl
  generalize tokV n E = V at *
  have vv : (V != V) = false := bytes_bne V
  go_wp2_with fail
  refine Calls.mono TT1.out ?_
  rintro r w2 ⟨rfl, hb⟩
  have HT2 : Hid (Below w.heap.size w w2) := bTrans HT1.out hb
  have S2 : Hid (SsA w2 x n E) := S1.out.keep hb
  clear hb S1 TT1
  go_wp2_with fail
  refine (TS1.out _ S2.out).mono ?_
  rintro r w3 ⟨rfl, hb⟩
  have HT3 : Hid (Below w.heap.size w w3) := bTrans HT2.out hb
  have S3 : Hid (SsA w3 x n E) := S2.out.keep hb
  clear hb S2 TS1
  obtain ⟨b0, hb0⟩ : ∃ b0 : Bool, b0 = decide ((n : Int) ≤ 300) := ⟨_, rfl⟩
  have B0 : Hid (b0 = true → n ≤ 300) := fun h => by rw [hb0] at h; have := of_decide_eq_true h; omega
  have lq : decide ((n : Int) ≤ 300) = b0 := hb0.symm
  clear hb0
  go_wp2
  go_loopw [5, 6] (fun ev i wr => ∃ k : Nat, k ≤ n ∧ i = .int .i64 (k : Int) ∧ ev = .bool (b0 && tokAll E k) ∧ SsA wr x n E ∧ Below w.heap.size w wr) (fun _ i _ => n - (intOf i).toNat)
  case atStart => exact ⟨0, by omega, rfl, by first | rfl | simp [tokAll] | (rw [← lq]; simp [tokAll]), S3.out, HT3.out⟩
  case round =>
    obtain ⟨k, hk, rfl, rfl, hS, hB⟩ := hrel
    have SR : Hid (SsA wr x n E) := hS
    have HTr : Hid (Below w.heap.size w wr) := hB
    clear hS hB S3 HT3 lq
    by_cases hlt : (k : Int) < (n : Int)
    · have L : k < n := by omega
      have NX : Hid ((b0 && tokAll E (k + 1)) = ((b0 && tokAll E k) && tokB (E k).f (E k).t)) := by show _ = _; simp only [tokAll, Bool.and_assoc]
      cases hev : (b0 && tokAll E k)
      · rw [hev] at NX
        go_wp2
        go_roundw
        case rel => exact ⟨k + 1, by omega, by go_num, by rw [NX.out]; rfl, SR.out, HTr.out⟩
        case measure => simp [intOf]; omega
      · rw [hev] at NX
        obtain ⟨o, off, rfl, ho, p0, p1⟩ := SR.out.at L
        generalize E k = ek at *
        obtain ⟨e0, e1⟩ := ek
        have TO : Hid (∀ W, Calls Tryz.prog 8 #[.agg #[.int .i64 e0, .int .i64 e1]] W fun e w' => e = .returned (.bool (tokB e0 e1)) ∧ Below W.heap.size W w') := fun W => tokOk_impl e0 e1 W
        go_wp2_with fail
        refine (TO.out _).mono ?_
        rintro r w4 ⟨rfl, hb⟩
        have SR4 : Hid (SsA w4 _ n E) := SR.out.keep hb
        have HT4 : Hid (Below w.heap.size w w4) := bTrans HTr.out hb
        clear hb
        go_wp2
        go_roundw
        case rel => exact ⟨k + 1, by omega, by go_num, by rw [NX.out]; rfl, SR4.out, HT4.out⟩
        case measure => simp [intOf]; omega
    · obtain rfl : k = n := by omega
      cases hev : (b0 && tokAll E k)
      · clear IQ
        go_wp2_with fail
        refine (drawLex_spec (src_on HS.out HTr.out) hb20).mono ?_
        rintro r u1 ⟨s, rfl, hs, hb⟩
        have U1 : Hid (Below w.heap.size w u1) := bTrans HTr.out hb
        clear hb
        have PL := lexV_place s
        obtain ⟨pl, hpl⟩ : ∃ pl : Int, pl = ((lexV s).2.2 : Int) := ⟨_, rfl⟩
        have pl0 : ¬ pl < 0 := by omega
        have pl1 : ¬ pl > (s.size : Int) := by omega
        have SP : Hid (∀ W : World, Calls Tryz.prog 12 #[.string s] W fun r w' => ∃ v, r = .returned (.tuple #[v, .int .i64 (lexV s).2.1, .int .i64 pl]) ∧ Below W.heap.size W w') := fun W => by
          rw [hpl]
          refine (lex_spec s (by omega) W).mono ?_
          rintro r w' ⟨v, rfl, hn, hb⟩
          exact ⟨v, rfl, hb⟩
        have IM := IMG.out s
        rw [← hpl] at IM
        have SH : Hid ((lexV s).2.1 = 0 → s.size ≤ 300) := lexV_short s
        have LN : Hid ((lexV s).1.length ≤ s.size) := lexV_len s
        have LB : Hid ((lexV s).2.1 ≠ 0 → (lexV s).1.length = 0) := fun h => by rw [lexV_bad s h]; rfl
        have LA : Hid (tokAll (fun i => (lexV s).1.getD i spn0) (lexV s).1.length = true) := lexV_all s
        clear hpl PL
        generalize (fun i => (lexV s).1.getD i spn0) = PE at *
        generalize (lexV s).1.length = pn at *
        generalize (lexV s).2.1 = cc at *
        have cc1 : (cc != cc) = false := by simp
        have pl2 : (pl != pl) = false := by simp
        go_wp2_with fail
        refine (IM _ (by omega) U1.out).mono ?_
        rintro r u2 ⟨ao, co, rfl, hN, hb⟩
        have U2 : Hid (Below w.heap.size w u2) := bTrans U1.out hb
        have O2 : Hid (SsA u2 ao pn PE) := hN.ssA
        clear hN hb IM
        go_wp2_with fail
        refine (SP.out _).mono ?_
        rintro r u3 ⟨v3, rfl, hb⟩
        have U3 : Hid (Below w.heap.size w u3) := bTrans U2.out hb
        have O3 : Hid (SsA u3 ao pn PE) := O2.out.keep hb
        clear hb O2 SP
        by_cases hc : cc = 0
        · have p3 : pn ≤ 300 := by have := SH.out hc; have := LN.out; omega
          have hl : (tokV pn PE).size ≤ 300 → lexV (tokV pn PE) = ((List.range pn).map PE, 0, (tokV pn PE).size) := fun h => lexV_tokV LA.out p3 h
          have hle := tokV_le pn PE
          have IA := IMG.out (tokV pn PE)
          have TT : Hid (∀ W, SsA W ao pn PE → Below w.heap.size w W → Calls Tryz.prog 6 #[.slice ao pn co] W fun e w' => e = .returned (.string (tokV pn PE)) ∧ Below W.heap.size W w') := fun W h hW => tokenText_impl joins h (by omega) (HTB.out.on hW)
          subst hc
          by_cases hz : (tokV pn PE).size ≤ 300
          · rw [hl hz] at IA
            have ML : ((List.range pn).map PE).length = pn := by simp
            dsimp only at IA
            rw [ML] at IA
            have IQ : Hid (∀ W, Below w.heap.size w W → Calls Tryz.prog 9 #[.string (tokV pn PE)] W fun r w' => ∃ a c, r = .returned (.tuple #[.slice a pn c, .int .i64 0, .int .i64 ((tokV pn PE).size : Int)]) ∧ SsA w' a pn PE ∧ Below W.heap.size W w') := fun W hW => by
              refine (IA W (by omega) hW).mono ?_
              rintro r w' ⟨a, c, rfl, hp, hb⟩
              exact ⟨a, c, rfl, hp.ssA.congr fun i hi => (map_getD PE hi).symm, hb⟩
            clear IA hl
            generalize tokV pn PE = A at *
            have A3 : ¬ (A.size : Int) > 300 := by omega
            go_wp2_with fail
            refine (TT.out _ O3.out U3.out).mono ?_
            rintro r u4 ⟨rfl, hb⟩
            have U4 : Hid (Below w.heap.size w u4) := bTrans U3.out hb
            have O4 : Hid (SsA u4 ao pn PE) := O3.out.keep hb
            clear hb O3
            go_wp2_with fail
            refine (IQ.out _ U4.out).mono ?_
            rintro r u5 ⟨am, cm, rfl, hM, hb⟩
            have U5 : Hid (Below w.heap.size w u5) := bTrans U4.out hb
            have O5 : Hid (SsA u5 ao pn PE) := O4.out.keep hb
            have M5 : Hid (SsA u5 am pn PE) := hM
            clear hb O4 hM
            go_wp2_with fail
            refine (sameTokens_same M5.out O5.out (by omega)).mono ?_
            rintro r u6 ⟨rfl, hb⟩
            have U6 : Hid (Below w.heap.size w u6) := bTrans U5.out hb
            clear hb
            go_wp2
            go_ret
            exact ⟨rfl, U6.out⟩
          · have IQ : Hid (∀ W, Below w.heap.size w W → Calls Tryz.prog 9 #[.string (tokV pn PE)] W fun r w' => ∃ (v : Value) (y z : Int), r = .returned (.tuple #[v, .int .i64 y, .int .i64 z]) ∧ Below W.heap.size W w') := fun W hW => by
              refine (IA W (by omega) hW).mono ?_
              rintro r w' ⟨a, c, rfl, hp, hb⟩
              exact ⟨_, _, _, rfl, hb⟩
            clear IA hl
            generalize tokV pn PE = A at *
            have A3 : (A.size : Int) > 300 := by omega
            go_wp2_with fail
            refine (TT.out _ O3.out U3.out).mono ?_
            rintro r u4 ⟨rfl, hb⟩
            have U4 : Hid (Below w.heap.size w u4) := bTrans U3.out hb
            clear hb O3
            go_wp2_with fail
            refine (IQ.out _ U4.out).mono ?_
            rintro r u5 ⟨v5, y5, z5, rfl, hb⟩
            have U5 : Hid (Below w.heap.size w u5) := bTrans U4.out hb
            clear hb
            go_wp2
            go_ret
            exact ⟨rfl, U5.out⟩
        · have hz : pn = 0 := LB.out hc
          subst hz
          go_wp2
          go_ret
          exact ⟨rfl, U3.out⟩
      · have hq : b0 = true ∧ tokAll E k = true := by simpa using hev
        by_cases hz : (V.size : Int) ≤ 300
        · have IR := IQ.out hq.2 (B0.out hq.1) (by omega)
          have IS : Hid _ := IR
          clear IQ IR
          have v2 : ((V.size : Int) != (V.size : Int)) = false := by simp
          go_wp2_with fail
          refine (IS.out _ HTr.out).mono ?_
          rintro r w5 ⟨ab, cb, rfl, hM, hb⟩
          have HT5 : Hid (Below w.heap.size w w5) := bTrans HTr.out hb
          have M5 : Hid (SsA w5 ab k E) := hM
          have S5 : Hid (SsA w5 x k E) := SR.out.keep hb
          clear hM hb
          go_wp2_with fail
          refine (sameTokens_same M5.out S5.out (by omega)).mono ?_
          rintro r w6 ⟨rfl, hb⟩
          have HT6 : Hid (Below w.heap.size w w6) := bTrans HT5.out hb
          clear hb IS
          go_wp2_with fail
          refine (drawLex_spec (src_on HS.out HT6.out) hb20).mono ?_
          rintro r u1 ⟨s, rfl, hs, hb⟩
          have U1 : Hid (Below w.heap.size w u1) := bTrans HT6.out hb
          clear hb
          have PL := lexV_place s
          obtain ⟨pl, hpl⟩ : ∃ pl : Int, pl = ((lexV s).2.2 : Int) := ⟨_, rfl⟩
          have pl0 : ¬ pl < 0 := by omega
          have pl1 : ¬ pl > (s.size : Int) := by omega
          have SP : Hid (∀ W : World, Calls Tryz.prog 12 #[.string s] W fun r w' => ∃ v, r = .returned (.tuple #[v, .int .i64 (lexV s).2.1, .int .i64 pl]) ∧ Below W.heap.size W w') := fun W => by
            rw [hpl]
            refine (lex_spec s (by omega) W).mono ?_
            rintro r w' ⟨v, rfl, hn, hb⟩
            exact ⟨v, rfl, hb⟩
          have IM := IMG.out s
          rw [← hpl] at IM
          have SH : Hid ((lexV s).2.1 = 0 → s.size ≤ 300) := lexV_short s
          have LN : Hid ((lexV s).1.length ≤ s.size) := lexV_len s
          have LB : Hid ((lexV s).2.1 ≠ 0 → (lexV s).1.length = 0) := fun h => by rw [lexV_bad s h]; rfl
          have LA : Hid (tokAll (fun i => (lexV s).1.getD i spn0) (lexV s).1.length = true) := lexV_all s
          clear hpl PL
          generalize (fun i => (lexV s).1.getD i spn0) = PE at *
          generalize (lexV s).1.length = pn at *
          generalize (lexV s).2.1 = cc at *
          have cc1 : (cc != cc) = false := by simp
          have pl2 : (pl != pl) = false := by simp
          go_wp2_with fail
          refine (IM _ (by omega) U1.out).mono ?_
          rintro r u2 ⟨ao, co, rfl, hN, hb⟩
          have U2 : Hid (Below w.heap.size w u2) := bTrans U1.out hb
          have O2 : Hid (SsA u2 ao pn PE) := hN.ssA
          clear hN hb IM
          go_wp2_with fail
          refine (SP.out _).mono ?_
          rintro r u3 ⟨v3, rfl, hb⟩
          have U3 : Hid (Below w.heap.size w u3) := bTrans U2.out hb
          have O3 : Hid (SsA u3 ao pn PE) := O2.out.keep hb
          clear hb O2 SP
          by_cases hc : cc = 0
          · have p3 : pn ≤ 300 := by have := SH.out hc; have := LN.out; omega
            have hl : (tokV pn PE).size ≤ 300 → lexV (tokV pn PE) = ((List.range pn).map PE, 0, (tokV pn PE).size) := fun h => lexV_tokV LA.out p3 h
            have hle := tokV_le pn PE
            have IA := IMG.out (tokV pn PE)
            have TT : Hid (∀ W, SsA W ao pn PE → Below w.heap.size w W → Calls Tryz.prog 6 #[.slice ao pn co] W fun e w' => e = .returned (.string (tokV pn PE)) ∧ Below W.heap.size W w') := fun W h hW => tokenText_impl joins h (by omega) (HTB.out.on hW)
            subst hc
            by_cases hz : (tokV pn PE).size ≤ 300
            · rw [hl hz] at IA
              have ML : ((List.range pn).map PE).length = pn := by simp
              dsimp only at IA
              rw [ML] at IA
              have IQ : Hid (∀ W, Below w.heap.size w W → Calls Tryz.prog 9 #[.string (tokV pn PE)] W fun r w' => ∃ a c, r = .returned (.tuple #[.slice a pn c, .int .i64 0, .int .i64 ((tokV pn PE).size : Int)]) ∧ SsA w' a pn PE ∧ Below W.heap.size W w') := fun W hW => by
                refine (IA W (by omega) hW).mono ?_
                rintro r w' ⟨a, c, rfl, hp, hb⟩
                exact ⟨a, c, rfl, hp.ssA.congr fun i hi => (map_getD PE hi).symm, hb⟩
              clear IA hl
              generalize tokV pn PE = A at *
              have A3 : ¬ (A.size : Int) > 300 := by omega
              go_wp2_with fail
              refine (TT.out _ O3.out U3.out).mono ?_
              rintro r u4 ⟨rfl, hb⟩
              have U4 : Hid (Below w.heap.size w u4) := bTrans U3.out hb
              have O4 : Hid (SsA u4 ao pn PE) := O3.out.keep hb
              clear hb O3
              go_wp2_with fail
              refine (IQ.out _ U4.out).mono ?_
              rintro r u5 ⟨am, cm, rfl, hM, hb⟩
              have U5 : Hid (Below w.heap.size w u5) := bTrans U4.out hb
              have O5 : Hid (SsA u5 ao pn PE) := O4.out.keep hb
              have M5 : Hid (SsA u5 am pn PE) := hM
              clear hb O4 hM
              go_wp2_with fail
              refine (sameTokens_same M5.out O5.out (by omega)).mono ?_
              rintro r u6 ⟨rfl, hb⟩
              have U6 : Hid (Below w.heap.size w u6) := bTrans U5.out hb
              clear hb
              go_wp2
              go_ret
              exact ⟨rfl, U6.out⟩
            · have IQ : Hid (∀ W, Below w.heap.size w W → Calls Tryz.prog 9 #[.string (tokV pn PE)] W fun r w' => ∃ (v : Value) (y z : Int), r = .returned (.tuple #[v, .int .i64 y, .int .i64 z]) ∧ Below W.heap.size W w') := fun W hW => by
                refine (IA W (by omega) hW).mono ?_
                rintro r w' ⟨a, c, rfl, hp, hb⟩
                exact ⟨_, _, _, rfl, hb⟩
              clear IA hl
              generalize tokV pn PE = A at *
              have A3 : (A.size : Int) > 300 := by omega
              go_wp2_with fail
              refine (TT.out _ O3.out U3.out).mono ?_
              rintro r u4 ⟨rfl, hb⟩
              have U4 : Hid (Below w.heap.size w u4) := bTrans U3.out hb
              clear hb O3
              go_wp2_with fail
              refine (IQ.out _ U4.out).mono ?_
              rintro r u5 ⟨v5, y5, z5, rfl, hb⟩
              have U5 : Hid (Below w.heap.size w u5) := bTrans U4.out hb
              clear hb
              go_wp2
              go_ret
              exact ⟨rfl, U5.out⟩
          · have hz : pn = 0 := LB.out hc
            subst hz
            go_wp2
            go_ret
            exact ⟨rfl, U3.out⟩
        · clear IQ
          go_wp2_with fail
          refine (drawLex_spec (src_on HS.out HTr.out) hb20).mono ?_
          rintro r u1 ⟨s, rfl, hs, hb⟩
          have U1 : Hid (Below w.heap.size w u1) := bTrans HTr.out hb
          clear hb
          have PL := lexV_place s
          obtain ⟨pl, hpl⟩ : ∃ pl : Int, pl = ((lexV s).2.2 : Int) := ⟨_, rfl⟩
          have pl0 : ¬ pl < 0 := by omega
          have pl1 : ¬ pl > (s.size : Int) := by omega
          have SP : Hid (∀ W : World, Calls Tryz.prog 12 #[.string s] W fun r w' => ∃ v, r = .returned (.tuple #[v, .int .i64 (lexV s).2.1, .int .i64 pl]) ∧ Below W.heap.size W w') := fun W => by
            rw [hpl]
            refine (lex_spec s (by omega) W).mono ?_
            rintro r w' ⟨v, rfl, hn, hb⟩
            exact ⟨v, rfl, hb⟩
          have IM := IMG.out s
          rw [← hpl] at IM
          have SH : Hid ((lexV s).2.1 = 0 → s.size ≤ 300) := lexV_short s
          have LN : Hid ((lexV s).1.length ≤ s.size) := lexV_len s
          have LB : Hid ((lexV s).2.1 ≠ 0 → (lexV s).1.length = 0) := fun h => by rw [lexV_bad s h]; rfl
          have LA : Hid (tokAll (fun i => (lexV s).1.getD i spn0) (lexV s).1.length = true) := lexV_all s
          clear hpl PL
          generalize (fun i => (lexV s).1.getD i spn0) = PE at *
          generalize (lexV s).1.length = pn at *
          generalize (lexV s).2.1 = cc at *
          have cc1 : (cc != cc) = false := by simp
          have pl2 : (pl != pl) = false := by simp
          go_wp2_with fail
          refine (IM _ (by omega) U1.out).mono ?_
          rintro r u2 ⟨ao, co, rfl, hN, hb⟩
          have U2 : Hid (Below w.heap.size w u2) := bTrans U1.out hb
          have O2 : Hid (SsA u2 ao pn PE) := hN.ssA
          clear hN hb IM
          go_wp2_with fail
          refine (SP.out _).mono ?_
          rintro r u3 ⟨v3, rfl, hb⟩
          have U3 : Hid (Below w.heap.size w u3) := bTrans U2.out hb
          have O3 : Hid (SsA u3 ao pn PE) := O2.out.keep hb
          clear hb O2 SP
          by_cases hc : cc = 0
          · have p3 : pn ≤ 300 := by have := SH.out hc; have := LN.out; omega
            have hl : (tokV pn PE).size ≤ 300 → lexV (tokV pn PE) = ((List.range pn).map PE, 0, (tokV pn PE).size) := fun h => lexV_tokV LA.out p3 h
            have hle := tokV_le pn PE
            have IA := IMG.out (tokV pn PE)
            have TT : Hid (∀ W, SsA W ao pn PE → Below w.heap.size w W → Calls Tryz.prog 6 #[.slice ao pn co] W fun e w' => e = .returned (.string (tokV pn PE)) ∧ Below W.heap.size W w') := fun W h hW => tokenText_impl joins h (by omega) (HTB.out.on hW)
            subst hc
            by_cases hz : (tokV pn PE).size ≤ 300
            · rw [hl hz] at IA
              have ML : ((List.range pn).map PE).length = pn := by simp
              dsimp only at IA
              rw [ML] at IA
              have IQ : Hid (∀ W, Below w.heap.size w W → Calls Tryz.prog 9 #[.string (tokV pn PE)] W fun r w' => ∃ a c, r = .returned (.tuple #[.slice a pn c, .int .i64 0, .int .i64 ((tokV pn PE).size : Int)]) ∧ SsA w' a pn PE ∧ Below W.heap.size W w') := fun W hW => by
                refine (IA W (by omega) hW).mono ?_
                rintro r w' ⟨a, c, rfl, hp, hb⟩
                exact ⟨a, c, rfl, hp.ssA.congr fun i hi => (map_getD PE hi).symm, hb⟩
              clear IA hl
              generalize tokV pn PE = A at *
              have A3 : ¬ (A.size : Int) > 300 := by omega
              go_wp2_with fail
              refine (TT.out _ O3.out U3.out).mono ?_
              rintro r u4 ⟨rfl, hb⟩
              have U4 : Hid (Below w.heap.size w u4) := bTrans U3.out hb
              have O4 : Hid (SsA u4 ao pn PE) := O3.out.keep hb
              clear hb O3
              go_wp2_with fail
              refine (IQ.out _ U4.out).mono ?_
              rintro r u5 ⟨am, cm, rfl, hM, hb⟩
              have U5 : Hid (Below w.heap.size w u5) := bTrans U4.out hb
              have O5 : Hid (SsA u5 ao pn PE) := O4.out.keep hb
              have M5 : Hid (SsA u5 am pn PE) := hM
              clear hb O4 hM
              go_wp2_with fail
              refine (sameTokens_same M5.out O5.out (by omega)).mono ?_
              rintro r u6 ⟨rfl, hb⟩
              have U6 : Hid (Below w.heap.size w u6) := bTrans U5.out hb
              clear hb
              go_wp2
              go_ret
              exact ⟨rfl, U6.out⟩
            · have IQ : Hid (∀ W, Below w.heap.size w W → Calls Tryz.prog 9 #[.string (tokV pn PE)] W fun r w' => ∃ (v : Value) (y z : Int), r = .returned (.tuple #[v, .int .i64 y, .int .i64 z]) ∧ Below W.heap.size W w') := fun W hW => by
                refine (IA W (by omega) hW).mono ?_
                rintro r w' ⟨a, c, rfl, hp, hb⟩
                exact ⟨_, _, _, rfl, hb⟩
              clear IA hl
              generalize tokV pn PE = A at *
              have A3 : (A.size : Int) > 300 := by omega
              go_wp2_with fail
              refine (TT.out _ O3.out U3.out).mono ?_
              rintro r u4 ⟨rfl, hb⟩
              have U4 : Hid (Below w.heap.size w u4) := bTrans U3.out hb
              clear hb O3
              go_wp2_with fail
              refine (IQ.out _ U4.out).mono ?_
              rintro r u5 ⟨v5, y5, z5, rfl, hb⟩
              have U5 : Hid (Below w.heap.size w u5) := bTrans U4.out hb
              clear hb
              go_wp2
              go_ret
              exact ⟨rfl, U5.out⟩
          · have hz : pn = 0 := LB.out hc
            subst hz
            go_wp2
            go_ret
            exact ⟨rfl, U3.out⟩

set_option maxRecDepth 100000 in
/-- From the row's condition to the table that the walk wants: one variable less. -/
theorem laidMet_tail {x : String × DataW Unit} {r : List (String × DataW Unit)} {W : World} (h : laidMet Tryz.prog (x :: r) W) : laidMet Tryz.prog r W := by
  obtain ⟨n, d⟩ := x
  obtain ⟨ps, ⟨g, t, cs, fuel, p, q, _, _, _, _, h5, rfl⟩, hn, hr⟩ := h
  exact ⟨q, h5, (List.nodup_append.1 hn).2.1, fun b off hb => hr b off (List.mem_append_right _ hb)⟩
set_option maxRecDepth 100000 in
theorem er_name : Tryz.prog.globalNamed "strconv.ErrRange" = some 4 := by kernel_rfl
theorem er_type : (Tryz.prog.globals[4]?).map (·.type) = some 44 := by kernel_rfl
theorem et_name : Tryz.prog.globalNamed "errors.errorType" = some 0 := by kernel_rfl
theorem rt_type : (Tryz.prog.cutTypes.find? (·.1 == "internal/reflectlite.rtype")).map (·.2) = some 93 := by kernel_rfl
theorem one_row : ((List.range 173).filter fun t => Tryz.prog.rowNamed t [101, 114, 114, 111, 114]) = [44] := by kernel_rfl
theorem n_types : Tryz.prog.types.size = 173 := by kernel_rfl
set_option maxRecDepth 100000 in
theorem tab_laid {W : World} (h : laidMetH Tryz.prog Rows.fnTokensRow.laid W) : TabW W ∧ ErrW W ∧ TypW W := by
  have h' : laidMet Tryz.prog [("math/bits.deBruijn32tab", Rows.laid_math_bits_deBruijn32tab), ("math/bits.deBruijn64tab", Rows.laid_math_bits_deBruijn64tab), ("internal/strconv.uint64pow10", Rows.laid_internal_strconv_uint64pow10), ("strconv.ErrRange", Rows.laid_strconv_ErrRange), ("strconv.ErrSyntax", Rows.laid_strconv_ErrSyntax)] W ∧ handlesMet Tryz.prog [("errors.errorType", Rows.laid_errors_errorType)] W := h
  obtain ⟨hd, hh⟩ := h'
  refine ⟨?_, ?_⟩
  · have h2 : laidMet Tryz.prog [("internal/strconv.uint64pow10", Lib.tabData .u64 Lib.pow10Tab), ("strconv.ErrRange", Rows.laid_strconv_ErrRange), ("strconv.ErrSyntax", Rows.laid_strconv_ErrSyntax)] W := laidMet_tail (laidMet_tail hd)
    exact Lib.tabBelow_of_tabIs (Lib.tabIs_of_head (g := 2) (t := 129) (e := 116) (n := 20) (by kernel_rfl) (by kernel_rfl) (by kernel_rfl) (by kernel_rfl) (by kernel_rfl) (by kernel_rfl) h2)
  refine ⟨?_, ?_⟩
  · have h2 := laidMet_tail (laidMet_tail (laidMet_tail hd))
    obtain ⟨ps, ⟨g, t, cs, fuel, p, q, e1, e2, e3, e4, _, rfl⟩, _, _⟩ := h2
    obtain rfl := Option.some.inj (er_name.symm.trans e1)
    obtain rfl := Option.some.inj (er_type.symm.trans e2)
    obtain ⟨_, u, v, hcs, _, _⟩ := iface_of_trod Tryz.underlying44 e4
    have hc := World.var?_cell er_name e3 0
    rw [Array.eq_one_of_toList hcs] at hc
    exact ⟨.iface u v, by simpa using hc, .inr ⟨u, v, rfl⟩⟩
  · obtain ⟨name, u, ty, e1, e2, e3, e4, e5⟩ := hh _ (List.mem_singleton.2 rfl)
    have en : name = [101, 114, 114, 111, 114] := (Option.some.inj e1).symm
    subst en
    obtain rfl := Option.some.inj (rt_type.symm.trans e2)
    have hm : ty ∈ (List.range 173).filter fun t => Tryz.prog.rowNamed t [101, 114, 114, 111, 114] := List.mem_filter.2 ⟨List.mem_range.2 (by rw [← n_types]; exact e3), e4⟩
    rw [one_row] at hm
    obtain rfl := List.mem_singleton.1 hm
    have hz : typeHandle Tryz.prog 44 = .pointer (some ⟨7, 44, none⟩) := by kernel_rfl
    rw [hz] at e5
    have hc := World.var?_cell et_name e5 0
    exact (by simpa [TypW] using hc)
/-- A world that meets the condition: the settled one, the tables laid. -/
noncomputable def laidWorld (os : Os) : World :=
  let N := (World.settled Tryz.prog os).heap.size
  let w0 := World.holding Tryz.prog os ⟨#[.cells #[.string ⟨#[118, 97, 108, 117, 101, 32, 111, 117, 116, 32, 111, 102, 32, 114, 97, 110, 103, 101]⟩] 143, .cells #[.string ⟨#[105, 110, 118, 97, 108, 105, 100, 32, 115, 121, 110, 116, 97, 120]⟩] 143], #[], []⟩
  { w0 with heap := ((((((w0.heap.modify 5 fun | .cells _ t frozen => .cells #[.int .u8 0, .int .u8 1, .int .u8 28, .int .u8 2, .int .u8 29, .int .u8 14, .int .u8 24, .int .u8 3, .int .u8 30, .int .u8 22, .int .u8 20, .int .u8 15, .int .u8 25, .int .u8 17, .int .u8 4, .int .u8 8, .int .u8 31, .int .u8 27, .int .u8 13, .int .u8 23, .int .u8 21, .int .u8 19, .int .u8 16, .int .u8 7, .int .u8 26, .int .u8 12, .int .u8 18, .int .u8 6, .int .u8 11, .int .u8 5, .int .u8 10, .int .u8 9] t frozen | o => o).modify 6 fun | .cells _ t frozen => .cells #[.int .u8 0, .int .u8 1, .int .u8 56, .int .u8 2, .int .u8 57, .int .u8 49, .int .u8 28, .int .u8 3, .int .u8 61, .int .u8 58, .int .u8 42, .int .u8 50, .int .u8 38, .int .u8 29, .int .u8 17, .int .u8 4, .int .u8 62, .int .u8 47, .int .u8 59, .int .u8 36, .int .u8 45, .int .u8 43, .int .u8 51, .int .u8 22, .int .u8 53, .int .u8 39, .int .u8 33, .int .u8 30, .int .u8 24, .int .u8 18, .int .u8 12, .int .u8 5, .int .u8 63, .int .u8 55, .int .u8 48, .int .u8 27, .int .u8 60, .int .u8 41, .int .u8 37, .int .u8 16, .int .u8 46, .int .u8 35, .int .u8 44, .int .u8 21, .int .u8 52, .int .u8 32, .int .u8 23, .int .u8 11, .int .u8 54, .int .u8 26, .int .u8 40, .int .u8 15, .int .u8 34, .int .u8 20, .int .u8 31, .int .u8 10, .int .u8 25, .int .u8 14, .int .u8 19, .int .u8 9, .int .u8 13, .int .u8 8, .int .u8 7, .int .u8 6] t frozen | o => o).modify 2 fun | .cells _ t frozen => .cells #[.int .u64 1, .int .u64 10, .int .u64 100, .int .u64 1000, .int .u64 10000, .int .u64 100000, .int .u64 1000000, .int .u64 10000000, .int .u64 100000000, .int .u64 1000000000, .int .u64 10000000000, .int .u64 100000000000, .int .u64 1000000000000, .int .u64 10000000000000, .int .u64 100000000000000, .int .u64 1000000000000000, .int .u64 10000000000000000, .int .u64 100000000000000000, .int .u64 1000000000000000000, .int .u64 10000000000000000000] t frozen | o => o).modify 0 fun | .cells _ t frozen => .cells #[.iface 93 (.agg #[.pointer (some ⟨7, 44, none⟩)])] t frozen | o => o).modify 4 fun | .cells _ t frozen => .cells #[.iface 141 (.pointer (some ⟨N, 0, none⟩))] t frozen | o => o).modify 3 fun | .cells _ t frozen => .cells #[.iface 141 (.pointer (some ⟨N + 1, 0, none⟩))] t frozen | o => o) }
theorem laid_met (os : Os) (args : Array Value) : laidMetH Tryz.prog Rows.fnTokensRow.laid ((laidWorld os).forCall (fun _ _ => 0) ⟨#[], args, []⟩).memory :=
  laidMetH_of_parts (show laidMet Tryz.prog [("math/bits.deBruijn32tab", Rows.laid_math_bits_deBruijn32tab), ("math/bits.deBruijn64tab", Rows.laid_math_bits_deBruijn64tab), ("internal/strconv.uint64pow10", Rows.laid_internal_strconv_uint64pow10), ("strconv.ErrRange", Rows.laid_strconv_ErrRange), ("strconv.ErrSyntax", Rows.laid_strconv_ErrSyntax)] _ from (LaidIn.of_run [5, 6, 2, 4, 3, (World.settled Tryz.prog os).heap.size, (World.settled Tryz.prog os).heap.size + 1] 8 (by kernel_rfl) (by kernel_rfl) (by kernel_rfl) (by kernel_rfl)).met) (by kernel_rfl)
set_option maxRecDepth 100000 in
theorem lifted (os : Os) (started : os.Started) (H : Type) (enc : TypeId × Value → H) :
    ReturnsInHanded {} Tryz.checked os 3 .any (fun w args => (Rows.fnTokensSpec.pre enc Tryz.prog Tryz.f3 Rows.fnTokensRow.domain false w args ∧ laidMetH Tryz.prog Rows.fnTokensRow.laid w) ∧ sizedMet enc Tryz.prog Tryz.f3 (OpenSpec.ofChange Rows.fnTokensSpec) false w args) (Rows.fnTokensSpec.post enc Tryz.prog Tryz.f3 false true false false) := by
  refine returnsInHanded_of_change_and (C := Tryz.checked) (X := fun w _ => laidMetH Tryz.prog Rows.fnTokensRow.laid w) (fun _ _ _ hh h => h.of_heap hh) own started (by kernel_rfl) Tryz.func3
    (by
      have hok : Input.okWideB Tryz.checked.prog ((laidWorld os).forCall (fun _ _ => 0) ⟨#[], #[.slice none 0 0], []⟩) 3 ⟨#[], #[.slice none 0 0], []⟩ = true := by kernel_rfl
      exact ⟨laidWorld os, fun _ _ => 0, ⟨#[], #[.slice none 0 0], []⟩, rfl, World.shaped_of_RefB (by kernel_rfl) (by kernel_rfl), (Input.okWide_of_okWideB (base := 0) hok).1, (Input.okWide_of_okWideB hok).2, ⟨⟨ChangeSpec.pre_of_preB (fuel := 8) (by kernel_rfl), laid_met os _⟩, sizedMet_of_sizedB (fuel := 8) (by kernel_rfl)⟩, by simp only [Assume.holds]; exact ⟨by simp, by simp, fun _ => Modest.zero, by simp, by simp⟩⟩) ?_
  intro W base args ds gs before hval0 hW hcnd _ hL _
  have htb := tab_laid hL
  have hval : ∀ (j : Nat) t v, Tryz.f3.params[j]? = some t → args[j]? = some v → Value.okWide Tryz.prog W .any base t v := hval0
  have hW' := hW
  obtain ⟨p, q, hA0, hV, rfl, hfz, hnd⟩ := hW
  have hA : DataW.TrodAll enc Tryz.prog W 0 (fun _ => true) true Tryz.f3.params.toList args.toList ds p := hA0
  rw [Tryz.params3] at hA hval
  obtain ⟨v0, vs0, e0, es0, p0, q0, hargs, rfl, rfl, h0, r0⟩ := trodAll_cons hA
  obtain ⟨rfl, rfl, rfl⟩ := trodAll_nil r0
  obtain rfl : args = #[v0] := by cases args; simp_all
  obtain ⟨rfl, rfl⟩ := trodVars_none hV
  have k0 := h0
  have lt0 : ∀ x ∈ p0, x.block < W.heap.size := by obtain ⟨m, hm⟩ := k0; exact DataW.trod_lt m _ _ _ hm
  obtain ⟨a0, len0, cap0, rfl⟩ := okWide_slice Tryz.underlying22 (hval 0 22 v0 rfl rfl)
  obtain ⟨z0, w0⟩ : ∃ zs, IsRow .u8 W a0 len0 cap0 zs := by
    obtain ⟨fuel, hf⟩ := h0
    rcases open_ints Tryz.underlying22 Tryz.underlying5 (by kernel_rfl) hf with ⟨hcs, _⟩ | ⟨x, l, c, zs, hcs, _, hl, hm, hz, _, hcell, hwz⟩
    · simp [Value.cells] at hcs
      obtain ⟨rfl, rfl, rfl⟩ := hcs
      exact ⟨[], .inl ⟨rfl, rfl, rfl, rfl⟩⟩
    · simp [Value.cells] at hcs
      obtain ⟨rfl, rfl, rfl⟩ := hcs
      exact ⟨zs, .inr ⟨_, rfl, hl, hm, by simpa using hz, hcell, hwz⟩⟩
  clear hA0 hval0
  refine (walk a0 len0 cap0 z0 W htb w0).mono fun e W' ⟨he, bel⟩ => ?_
  subst he
  exact ⟨_, rfl, _, _, _, [], _, [], hW', trodAll_mk1 (shut_bool Tryz.underlying4 _), (trodAll_cons_mk (Below.trod laidOut (by kernel_rfl) (of_decide_eq_true (by kernel_rfl)) k0 bel lt0) trodAll_mk0), rfl, bel.frame _, fun h => by cases h⟩

theorem over : Rows.fnTokensRow.holds Tryz.pinned (OpenSpec.ofChange Rows.fnTokensSpec) :=
  OpenClaim.holds_of_wide 3 Tryz.f3 rfl rfl rfl rfl rfl rfl rfl ⟨rfl, rfl, rfl, rfl, rfl⟩ rfl rfl rfl rfl rfl (by kernel_rfl) Tryz.func3 (by kernel_rfl)
    (of_decide_eq_true (by kernel_rfl)) (by unfold Func.isWrapper; first | (rw [if_pos (by decide +kernel)]; kernel_rfl) | (rw [if_neg (by decide +kernel)]; exact ⟨rfl, rfl⟩))
    (fun os started H enc _ => lifted os started H enc)

/-- The tied card. -/
theorem proved : Rows.FnTokensCardSaid :=
  Claim7.holds_tied_plain_at .later [] [.data, .data, .data, .handle, .sentinel, .sentinel] true (true, "c990fac8bbdeb856fc832986fffc361a12eee2dee2fd76aaba089cb5168d40b6") true
    over (fun _ h => by cases h) (by kernel_rfl) (fun _ h => by cases h) fnTokens_row_tie rfl ⟨rfl, rfl⟩ (by kernel_rfl) rfl
    (fun f fn hf hfn => by
      obtain rfl : f = 3 := Option.some.inj ((show Tryz.prog.funcNamed "loop.example/g00182/laws.FnTokens" = some 3 by kernel_rfl).symm.trans hf) |>.symm
      obtain rfl : fn = Tryz.f3 := (Option.some.inj (Tryz.func3.symm.trans hfn)).symm
      exact ⟨by kernel_rfl, fun j t ht => by
        rw [Tryz.params3] at ht
        have hm : t ∈ [22] := List.mem_of_getElem? (by simpa using ht)
        simp only [List.mem_cons, List.not_mem_nil, or_false] at hm
        have hz : ∀ x ∈ [22], Tryz.prog.wantsStandIn x = false := by
          intro x hx
          simp only [List.mem_cons, List.not_mem_nil, or_false] at hx
          first
            | (subst hx; kernel_rfl)
            | (rcases hx with rfl | rfl <;> kernel_rfl)
            | (rcases hx with rfl | rfl | rfl <;> kernel_rfl)
        exact hz t (by simpa using hm)⟩)
    (by kernel_rfl)
end Go.Proofs.YtcaidhmolnnikaaGreatDoor.fnTokens
namespace Go.Proofs.YtcaidhmolnnikaaGreatDoor
theorem fnTokens_holds : Rows.FnTokensCardSaid := fnTokens.proved
#print axioms fnTokens_holds
end Go.Proofs.YtcaidhmolnnikaaGreatDoor
