/-
  Proved: whatever code it is given, the law FnShow returns true: of the array that it draws the program's Show answers as the specification's; what is no right array has no text; an array of rank 0 or 1 has one line, its row's; one of rank 2 has a line for each row, all as long; one of rank 3 with numbers has at least as many lines as rows. Condition: strconv's table of powers of ten and the two tables of math/bits hold what their own initialisers lay (the card ties them to the text of the pruned copy of the project that the seat bears: it says nothing of packages beside it).
-/
import Derived.Test.YtcaidhmolnnikaaDoorRows
import Derived.WalkKit
import Derived.ProofKit
import Derived.OpenShut
import Derived.ShutString
import Derived.ChangeOld
import Derived.Below
import Derived.Deep.Cut
import Derived.Test.YtcaidhmolnnikaaDoorTie
import Derived.Test.YtcaidhmolnnikaaDoorCards
import Derived.LaidLaws
import Derived.LaidHandle
import Derived.Lib.LaidTab
import Derived.Lib.LaidIn
import Derived.SevenTiedAt
import Derived.Test.YtcaidhmolnnikaaDoorFrame
import Derived.Test.YtcaidhmolnnikaaDoorShowS
import Derived.Test.YtcaidhmolnnikaaDoorZ1
import Derived.Test.YtcaidhmolnnikaaDoorDrawSh
import Derived.Test.YtcaidhmolnnikaaDoorLaw3
namespace Go.Proofs.YtcaidhmolnnikaaDoor.fnShow
open Go.ChangeShapes Go.WideShapes Go.ChangeAt Go.RowKit
open Go.ChangeMaps (open_string shut_string)
set_option linter.unusedVariables false
set_option linter.unusedSimpArgs false

theorem own : ownKnob Tryd.prog.godebug = none := by kernel_rfl
theorem laidOut : laidOutB Tryd.prog = true := by kernel_rfl

set_option maxRecDepth 20000 in
set_option maxHeartbeats 8000000 in
/-- The walk: the law returns true, and writes nothing that was there. -/
theorem walk (a0 : Option Addr) (len0 cap0 : Nat) (z0 : List Int) (w : World) (ht : TabW w) (w0 : IsRow .u8 w a0 len0 cap0 z0) :
    Calls Tryd.prog 4 #[.slice a0 len0 cap0] w fun e w' => e = .returned (.bool true) ∧ Below w.heap.size w w' := by
  have HS : Hid (Src w.heap.size w a0 len0) := src_of_row w0
  have HTB : Hid (TabW w) := ht
  clear w0 ht
  by_cases hbig : (1048576 : Int) < (len0 : Int)
  · go_enter Tryd.func4, Tryd.ntmps4
    go_wp2_with (go_at_call 13; refine (big_laws _ _ _ _).mono ?_; rintro e w' ⟨rfl, hw⟩; subst w')
    go_ret
    exact ⟨rfl, Below.refl _ _⟩
  have hb20 : len0 ≤ 1048576 := by omega
  go_enter Tryd.func4, Tryd.ntmps4
  go_wp2_with (go_at_call 13; refine (big_laws _ _ _ _).mono ?_; rintro e w' ⟨rfl, hw⟩; subst w')
  refine (drawShow_spec HS.out hb20).mono ?_
  rintro r w1 ⟨v1, s, d, rfl, hA, hls, hld, hb⟩
  have AI := hA.arrI
  obtain ⟨sa, sc, da, dc, rfl, i1, i2, g1, g2⟩ := AI
  have HT1 : Hid (Below w.heap.size w w1) := hb
  have TB1 : Hid (TabW w1) := HTB.out.on hb
  have HA1 : Hid (ArrI w1 (.agg #[.slice sa s.length sc, .slice da d.length dc]) s d) := hA.arrI
  have LS : Hid (s.length ≤ 4 ∧ d.length ≤ 301) := ⟨hls, hld⟩
  have I1 : Hid (Ints w1 sa s) := i1
  have I2 : Hid (Ints w1 da d) := i2
  clear hA hls hld hb HS hbig hb20 HTB i1 i2 g1 g2
  obtain ⟨V, hV⟩ : ∃ V, V = showV s d := ⟨_, rfl⟩
  have EV : Hid (V = showV s d) := hV
  have IM : Hid (∀ (W : World), Below w1.heap.size w1 W → Calls Tryd.prog 11 #[.agg #[.slice sa s.length sc, .slice da d.length dc]] W fun e w' => e = .returned (.string V) ∧ Below W.heap.size W w') := fun W hb => by rw [hV]; exact show_impl (HA1.out.keep hb) (by have := LS.out; omega) (TB1.out.on hb)
  have SP : Hid (∀ (W : World), Below w1.heap.size w1 W → Calls Tryd.prog 9 #[.agg #[.slice sa s.length sc, .slice da d.length dc]] W fun e w' => e = .returned (.string V) ∧ Below W.heap.size W w') := fun W hb => by rw [hV]; exact show_spec (HA1.out.keep hb) (by have := LS.out; omega) (by have := LS.out; omega)
  have CO : Hid (∀ (W : World), Below w1.heap.size w1 W → Calls Tryd.prog 15 #[.agg #[.slice sa s.length sc, .slice da d.length dc]] W fun e w' => e = .returned (.bool (arrOk s d)) ∧ Below W.heap.size W w') := fun W hb => arrOk_spec (HA1.out.keep hb) (by have := LS.out; omega)
  have CR : Hid (∀ (W : World), Below w1.heap.size w1 W → Calls Tryd.prog 16 #[.slice da d.length dc] W fun e w' => e = .returned (.string (rowV d)) ∧ Below W.heap.size W w') := fun W hb => showRow_impl reps joins dc (I2.out.keep hb) (by have := LS.out; omega) (TB1.out.on hb)
  have hne : (V != V) = false := bytes_bne V
  clear hV
  go_wp2_with fail
  refine (IM.out _ (bAlloc (Below.refl _ _) _)).mono ?_
  rintro r w2 ⟨rfl, hb⟩
  have B2 : Hid (Below w1.heap.size w1 w2) := bTrans (bAlloc (Below.refl _ _) _) hb
  have Q2 : Hid (Box w2 w1.heap.size (.slice sa s.length sc) (.slice da d.length dc) 27) := (box_new w1 _ _ _).keep hb
  have q0 := Q2.out.c0
  have q1 := Q2.out.c1
  clear hb
  go_wp2_with fail
  refine (SP.out _ B2.out).mono ?_
  rintro r w3 ⟨rfl, hb⟩
  have B3 : Hid (Below w1.heap.size w1 w3) := bTrans B2.out hb
  have Q3 : Hid (Box w3 w1.heap.size (.slice sa s.length sc) (.slice da d.length dc) 27) := Q2.out.keep hb
  clear hb q0 q1 Q2
  have q0 := Q3.out.c0
  have q1 := Q3.out.c1
  go_wp2_with fail
  refine (CO.out _ B3.out).mono ?_
  rintro r w4 ⟨rfl, hb⟩
  have B4 : Hid (Below w1.heap.size w1 w4) := bTrans B3.out hb
  have Q4 : Hid (Box w4 w1.heap.size (.slice sa s.length sc) (.slice da d.length dc) 27) := Q3.out.keep hb
  clear hb q0 q1 Q3 IM SP CO
  cases ho : arrOk s d
  · have EN : Hid (V = ⟨#[]⟩) := by show _ = _; rw [EV.out]; unfold showV; rw [if_neg (by rw [ho]; decide)]
    have hE : V.toList.isEmpty = true := by rw [EN.out]; exact none_empty
    clear ho
    go_wp2
    go_ret
    exact ⟨by first | rfl | rw [hE] | simp [hE], bTrans HT1.out B4.out⟩
  have HO : Hid (arrOk s d = true) := ho
  have VL : V.size ≤ 1300000000 := by rw [EV.out]; exact showV_le HO.out
  clear ho
  have Z0 := scF_zero V
  go_wp2
  go_loopw [5, 6, 7, 8, 9] (fun a b c e i w' => ∃ k : Nat, k ≤ V.size + 1 ∧ i = .int .i64 (k : Int) ∧ a = .int .i64 (scF V k).n ∧ b = .int .i64 (scF V k).g ∧ c = .int .i64 (scF V k).c ∧ e = .bool (scF V k).e ∧ Hid (w' = w4)) (fun _ _ _ _ i _ => V.size + 1 - (intOf i).toNat)
  case atStart => exact ⟨0, by omega, rfl, by rw [Z0]; rfl, by rw [Z0]; rfl, by rw [Z0]; rfl, by rw [Z0]; rfl, (rfl : w4 = w4)⟩
  case round =>
    obtain ⟨k, hk, rfl, rfl, rfl, rfl, rfl, hw⟩ := hrel
    obtain rfl := hw.out
    clear Z0
    by_cases hk1 : (k : Int) ≤ (V.size : Int)
    · obtain ⟨y1, y2, y3, y4, y5, y6⟩ := scF_bd V (k := k) (by omega)
      by_cases hk2 : k < V.size
      · have hk3 : (k : Int) < (V.size : Int) := by omega
        have hb8 : (V[k]'hk2).toNat < 256 := (V[k]'hk2).toNat_lt
        by_cases hz : V[k]'hk2 = 10
        · have NX : Hid (scF V (k + 1) = ⟨(scF V k).n + 1, (scF V k).c, 0, (scF V k).e && (decide ((scF V k).g < 0) || (scF V k).c == (scF V k).g)⟩) := by show _ = _; rw [scF_in V hk2, scB, if_pos hz]
          have hz1 : ((V[k]'hk2).toNat : Int) = 10 := by rw [hz]; rfl
          have hz2 : (((V[k]'hk2).toNat : Int) != 10) = false := by rw [hz1]; rfl
          generalize (scF V k).n = pn at *
          generalize (scF V k).g = pg at *
          generalize (scF V k).c = pc at *
          generalize (scF V k).e = pe at *
          cases pe
          · have hq : (false && (decide (pg < 0) || pc == pg)) = false := rfl
            go_wp2
            go_roundw
            case rel => exact ⟨k + 1, by omega, by go_num, by first | (rw [NX.out]; done) | (rw [NX.out]; go_num), by first | (rw [NX.out]; done) | (rw [NX.out]; go_num), by first | (rw [NX.out]; done) | (rw [NX.out]; go_num), by first | (rw [NX.out]; done) | (rw [NX.out, hq]; done) | (rw [NX.out]; simp; done) | (rw [NX.out]; simp_all), by first | exact hw | exact (trivial : True)⟩
            case measure => first | (simp [intOf]; done) | (simp [intOf]; omega)
          · by_cases hg : pg < 0
            · have hq : (true && (decide (pg < 0) || pc == pg)) = true := by simp [hg]
              go_wp2
              go_roundw
              case rel => exact ⟨k + 1, by omega, by go_num, by first | (rw [NX.out]; done) | (rw [NX.out]; go_num), by first | (rw [NX.out]; done) | (rw [NX.out]; go_num), by first | (rw [NX.out]; done) | (rw [NX.out]; go_num), by first | (rw [NX.out]; done) | (rw [NX.out, hq]; done) | (rw [NX.out]; simp; done) | (rw [NX.out]; simp_all), by first | exact hw | exact (trivial : True)⟩
              case measure => first | (simp [intOf]; done) | (simp [intOf]; omega)
            · by_cases hc : pc = pg
              · have hq : (true && (decide (pg < 0) || pc == pg)) = true := by simp [hc]
                subst hc
                go_wp2
                go_roundw
                case rel => exact ⟨k + 1, by omega, by go_num, by first | (rw [NX.out]; done) | (rw [NX.out]; go_num), by first | (rw [NX.out]; done) | (rw [NX.out]; go_num), by first | (rw [NX.out]; done) | (rw [NX.out]; go_num), by first | (rw [NX.out]; done) | (rw [NX.out, hq]; done) | (rw [NX.out]; simp; done) | (rw [NX.out]; simp_all), by first | exact hw | exact (trivial : True)⟩
                case measure => first | (simp [intOf]; done) | (simp [intOf]; omega)
              · have hq : (true && (decide (pg < 0) || pc == pg)) = false := by simp [hg, hc]
                go_wp2
                go_roundw
                case rel => exact ⟨k + 1, by omega, by go_num, by first | (rw [NX.out]; done) | (rw [NX.out]; go_num), by first | (rw [NX.out]; done) | (rw [NX.out]; go_num), by first | (rw [NX.out]; done) | (rw [NX.out]; go_num), by first | (rw [NX.out]; done) | (rw [NX.out, hq]; done) | (rw [NX.out]; simp; done) | (rw [NX.out]; simp_all), by first | exact hw | exact (trivial : True)⟩
                case measure => first | (simp [intOf]; done) | (simp [intOf]; omega)
        · have NX : Hid (scF V (k + 1) = ⟨(scF V k).n, (scF V k).g, (scF V k).c + 1, (scF V k).e⟩) := by show _ = _; rw [scF_in V hk2, scB, if_neg hz]
          have hz1 : ¬ ((V[k]'hk2).toNat : Int) = 10 := fun h => hz (by apply UInt8.toNat_inj.1; show (V[k]'hk2).toNat = 10; omega)
          have hz2 : (((V[k]'hk2).toNat : Int) != 10) = true := by simp; omega
          generalize (scF V k).n = pn at *
          generalize (scF V k).g = pg at *
          generalize (scF V k).c = pc at *
          generalize (scF V k).e = pe at *
          go_wp2
          go_roundw
          case rel => exact ⟨k + 1, by omega, by go_num, by first | (rw [NX.out]; done) | (rw [NX.out]; go_num), by first | (rw [NX.out]; done) | (rw [NX.out]; go_num), by first | (rw [NX.out]; done) | (rw [NX.out]; go_num), by first | (rw [NX.out]; done) | (rw [NX.out, hq]; done) | (rw [NX.out]; simp; done) | (rw [NX.out]; simp_all), by first | exact hw | exact (trivial : True)⟩
          case measure => first | (simp [intOf]; done) | (simp [intOf]; omega)
      · obtain rfl : k = V.size := by omega
        have NX : Hid (scF V (V.size + 1) = ⟨(scF V V.size).n, (scF V V.size).c, 0, (scF V V.size).e && (decide ((scF V V.size).g < 0) || (scF V V.size).c == (scF V V.size).g)⟩) := by show _ = _; rw [scF_end]; rfl
        generalize (scF V V.size).n = pn at *
        generalize (scF V V.size).g = pg at *
        generalize (scF V V.size).c = pc at *
        generalize (scF V V.size).e = pe at *
        cases pe
        · have hq : (false && (decide (pg < 0) || pc == pg)) = false := rfl
          go_wp2
          go_roundw
          case rel => exact ⟨V.size + 1, by omega, by go_num, by first | (rw [NX.out]; done) | (rw [NX.out]; go_num), by first | (rw [NX.out]; done) | (rw [NX.out]; go_num), by first | (rw [NX.out]; done) | (rw [NX.out]; go_num), by first | (rw [NX.out]; done) | (rw [NX.out, hq]; done) | (rw [NX.out]; simp; done) | (rw [NX.out]; simp_all), by first | exact hw | exact (trivial : True)⟩
          case measure => first | (simp [intOf]; done) | (simp [intOf]; omega)
        · by_cases hg : pg < 0
          · have hq : (true && (decide (pg < 0) || pc == pg)) = true := by simp [hg]
            go_wp2
            go_roundw
            case rel => exact ⟨V.size + 1, by omega, by go_num, by first | (rw [NX.out]; done) | (rw [NX.out]; go_num), by first | (rw [NX.out]; done) | (rw [NX.out]; go_num), by first | (rw [NX.out]; done) | (rw [NX.out]; go_num), by first | (rw [NX.out]; done) | (rw [NX.out, hq]; done) | (rw [NX.out]; simp; done) | (rw [NX.out]; simp_all), by first | exact hw | exact (trivial : True)⟩
            case measure => first | (simp [intOf]; done) | (simp [intOf]; omega)
          · by_cases hc : pc = pg
            · have hq : (true && (decide (pg < 0) || pc == pg)) = true := by simp [hc]
              subst hc
              go_wp2
              go_roundw
              case rel => exact ⟨V.size + 1, by omega, by go_num, by first | (rw [NX.out]; done) | (rw [NX.out]; go_num), by first | (rw [NX.out]; done) | (rw [NX.out]; go_num), by first | (rw [NX.out]; done) | (rw [NX.out]; go_num), by first | (rw [NX.out]; done) | (rw [NX.out, hq]; done) | (rw [NX.out]; simp; done) | (rw [NX.out]; simp_all), by first | exact hw | exact (trivial : True)⟩
              case measure => first | (simp [intOf]; done) | (simp [intOf]; omega)
            · have hq : (true && (decide (pg < 0) || pc == pg)) = false := by simp [hg, hc]
              go_wp2
              go_roundw
              case rel => exact ⟨V.size + 1, by omega, by go_num, by first | (rw [NX.out]; done) | (rw [NX.out]; go_num), by first | (rw [NX.out]; done) | (rw [NX.out]; go_num), by first | (rw [NX.out]; done) | (rw [NX.out]; go_num), by first | (rw [NX.out]; done) | (rw [NX.out, hq]; done) | (rw [NX.out]; simp; done) | (rw [NX.out]; simp_all), by first | exact hw | exact (trivial : True)⟩
              case measure => first | (simp [intOf]; done) | (simp [intOf]; omega)
    · obtain rfl : k = V.size + 1 := by omega
      have q0 := Q4.out.c0
      have q1 := Q4.out.c1
      have F1 : Hid (s.length < 2 → (scF V (V.size + 1)).n = 1) := fun h => by rw [scF_end]; unfold scF; rw [if_pos (Nat.le_refl _), EV.out]; exact facts1 HO.out h
      have F2 : Hid (s.length = 2 → (scF V (V.size + 1)).e = true ∧ ((s.getD 0 0 = 0 ∧ V = ⟨#[]⟩) ∨ (s.getD 0 0 ≠ 0 ∧ (scF V (V.size + 1)).n = s.getD 0 0))) := fun h => by rw [scF_end]; unfold scF; rw [if_pos (Nat.le_refl _), EV.out]; exact facts2 HO.out h
      have F3 : Hid (s.length = 3 → d.length = 0 ∨ s.getD 0 0 * s.getD 1 0 ≤ (scF V (V.size + 1)).n) := fun h => by rw [scF_end]; unfold scF; rw [if_pos (Nat.le_refl _), EV.out]; exact facts3 HO.out h
      have SH := head_bd HO.out
      have L3 := (sizeV_ok (arrOk_shape HO.out)).1
      have RV : Hid (s.length < 2 → rowV d = V) := fun h => by rw [EV.out]; unfold showV rowV; rw [if_pos (arrOk_num HO.out), if_pos HO.out, if_pos h, lineV_rowB]
      clear hk hk1 EV
      generalize (scF V (V.size + 1)).n = pn at *
      generalize (scF V (V.size + 1)).g = pg at *
      generalize (scF V (V.size + 1)).c = pc at *
      generalize (scF V (V.size + 1)).e = pe at *
      have hs4 : s.length = 0 ∨ s.length = 1 ∨ s.length = 2 ∨ s.length = 3 := by omega
      rcases hs4 with h4 | h4 | h4 | h4
      · obtain rfl := F1.out (by omega)
        have ev := RV.out (by omega)
        rw [h4] at q0
        clear F1 F2 F3 RV SH L3 h4
        go_wp2_with fail
        refine (CR.out _ B4.out).mono ?_
        rintro r w6 ⟨rfl, hb⟩
        have B6 : Hid (Below w1.heap.size w1 w6) := bTrans B4.out hb
        rw [ev]
        clear hb
        go_wp2
        go_ret
        exact ⟨by first | rfl | simp, bTrans HT1.out B6.out⟩
      · obtain rfl := F1.out (by omega)
        have ev := RV.out (by omega)
        rw [h4] at q0
        clear F1 F2 F3 RV SH L3 h4
        go_wp2_with fail
        refine (CR.out _ B4.out).mono ?_
        rintro r w6 ⟨rfl, hb⟩
        have B6 : Hid (Below w1.heap.size w1 w6) := bTrans B4.out hb
        rw [ev]
        clear hb
        go_wp2
        go_ret
        exact ⟨by first | rfl | simp, bTrans HT1.out B6.out⟩
      · obtain ⟨rfl, h2⟩ := F2.out h4
        have L0 : 0 < s.length := by omega
        obtain ⟨b1, o1, rfl, hb1, c0⟩ := (I1.out.keep B4.out).at L0
        rw [Nat.add_zero] at c0
        rw [h4] at q0
        have E0 : V.toList.isEmpty = true ∨ V.toList.isEmpty = false := by cases V.toList.isEmpty <;> simp
        clear F1 F2 F3 RV SH L3 hb1
        rcases h2 with ⟨h2, hv⟩ | ⟨h2, h3⟩
        · have hE : V.toList.isEmpty = true := by rw [hv]; exact none_empty
          rw [h2] at c0
          clear h2 hv E0
          go_wp2
          go_ret
          exact ⟨by first | rfl | simp [hE], bTrans HT1.out B4.out⟩
        · subst h3
          generalize s.getD 0 0 = z at *
          have hz : ¬ z = 0 := h2
          clear E0 h2
          go_wp2
          go_ret
          exact ⟨by first | rfl | simp, bTrans HT1.out B4.out⟩
      · have h3 := F3.out h4
        have L0 : 0 < s.length := by omega
        have L1 : 1 < s.length := by omega
        obtain ⟨b1, o1, rfl, hb1, c0⟩ := (I1.out.keep B4.out).at L0
        obtain ⟨b2, o2, e2, _, c1⟩ := (I1.out.keep B4.out).at L1
        obtain ⟨rfl, rfl⟩ : b1 = b2 ∧ o1 = o2 := by cases e2; exact ⟨rfl, rfl⟩
        rw [Nat.add_zero] at c0
        rw [h4] at q0
        have hall := (sizeV_ok (arrOk_shape HO.out)).2.1
        have dm : ∀ k, k < s.length → 0 ≤ s.getD k 0 ∧ s.getD k 0 ≤ 300 := fun k hk => by
          cases hb : dimOk (s.getD k 0)
          · rw [all_bad hk hb] at hall; cases hall
          · exact dimOk_bd hb
        obtain ⟨m0, m1⟩ := dm 0 L0
        obtain ⟨m2, m3⟩ := dm 1 L1
        clear F1 F2 F3 RV hb1 e2 hall dm SH L3
        generalize s.getD 0 0 = z at *
        generalize s.getD 1 0 = y at *
        have hy : 0 ≤ z * y ∧ z * y ≤ 90000 := ⟨Int.mul_nonneg m0 m2, Int.le_trans (Int.mul_le_mul m1 m3 m2 (by decide)) (by decide)⟩
        obtain ⟨hy0, hy1⟩ := hy
        have hwr : IntKind.i64.wrap (z * y) = z * y := by rw [IntKind.wrap_i64]; omega
        have SC : wr.cell? ⟨w1.heap.size, 0, none⟩ = some (.slice (some ⟨b1, o1, none⟩) 3 sc) ∧ wr.cell? ⟨w1.heap.size, 1, none⟩ = some (.slice da d.length dc) ∧ wr.cell? ⟨b1, o1, none⟩ = some (.int .i64 z) ∧ wr.cell? ⟨b1, o1 + 1, none⟩ = some (.int .i64 y) := ⟨q0, q1, c0, c1⟩
        by_cases hd0 : d.length = 0
        · have hd1 : (d.length : Int) = 0 := by omega
          have hdb : ((d.length : Int) == 0) = true := by simp [hd0]
          go_wp2_with fail
          go_quiet (fail)
          all_goals
            go_wp2
            go_ret
            exact ⟨by first | rfl | simp [hd0], bTrans HT1.out (by first | exact B4.out | exact B4.out.drew | exact bDrewN B4.out _)⟩
        · have hd1 : ¬ (d.length : Int) = 0 := by omega
          have hdb : ((d.length : Int) == 0) = false := by simp [hd0]
          have h5 : z * y ≤ pn := h3.resolve_left hd0
          go_wp2_with fail
          go_quiet (fail)
          all_goals
            go_wp2
            go_ret
            exact ⟨by first | rfl | simp [hd0, h5], bTrans HT1.out (by first | exact B4.out | exact B4.out.drew | exact bDrewN B4.out _)⟩

set_option maxRecDepth 100000 in
/-- From the row's condition to the table that the walk wants: one variable less. -/
theorem laidMet_tail {x : String × DataW Unit} {r : List (String × DataW Unit)} {W : World} (h : laidMet Tryd.prog (x :: r) W) : laidMet Tryd.prog r W := by
  obtain ⟨n, d⟩ := x
  obtain ⟨ps, ⟨g, t, cs, fuel, p, q, _, _, _, _, h5, rfl⟩, hn, hr⟩ := h
  exact ⟨q, h5, (List.nodup_append.1 hn).2.1, fun b off hb => hr b off (List.mem_append_right _ hb)⟩
theorem tab_laid {W : World} (h : laidMetH Tryd.prog Rows.fnShowRow.laid W) : TabW W := by
  have h1 : laidMet Tryd.prog Rows.fnShowRow.laid W := h
  have h2 : laidMet Tryd.prog [("internal/strconv.uint64pow10", Lib.tabData .u64 Lib.pow10Tab)] W := laidMet_tail (laidMet_tail h1)
  exact Lib.tabBelow_of_tabIs (Lib.tabIs_of_head (g := 2) (t := 187) (e := 169) (n := 20) (by kernel_rfl) (by kernel_rfl) (by kernel_rfl) (by kernel_rfl) (by kernel_rfl) (by kernel_rfl) h2)
/-- A world that meets the condition: the settled one, the tables laid. -/
noncomputable def laidWorld (os : Os) : World :=
  let w0 := World.holding Tryd.prog os ⟨#[], #[], []⟩
  { w0 with heap := (((w0.heap.modify 5 fun | .cells _ t frozen => .cells #[.int .u8 0, .int .u8 1, .int .u8 28, .int .u8 2, .int .u8 29, .int .u8 14, .int .u8 24, .int .u8 3, .int .u8 30, .int .u8 22, .int .u8 20, .int .u8 15, .int .u8 25, .int .u8 17, .int .u8 4, .int .u8 8, .int .u8 31, .int .u8 27, .int .u8 13, .int .u8 23, .int .u8 21, .int .u8 19, .int .u8 16, .int .u8 7, .int .u8 26, .int .u8 12, .int .u8 18, .int .u8 6, .int .u8 11, .int .u8 5, .int .u8 10, .int .u8 9] t frozen | o => o).modify 6 fun | .cells _ t frozen => .cells #[.int .u8 0, .int .u8 1, .int .u8 56, .int .u8 2, .int .u8 57, .int .u8 49, .int .u8 28, .int .u8 3, .int .u8 61, .int .u8 58, .int .u8 42, .int .u8 50, .int .u8 38, .int .u8 29, .int .u8 17, .int .u8 4, .int .u8 62, .int .u8 47, .int .u8 59, .int .u8 36, .int .u8 45, .int .u8 43, .int .u8 51, .int .u8 22, .int .u8 53, .int .u8 39, .int .u8 33, .int .u8 30, .int .u8 24, .int .u8 18, .int .u8 12, .int .u8 5, .int .u8 63, .int .u8 55, .int .u8 48, .int .u8 27, .int .u8 60, .int .u8 41, .int .u8 37, .int .u8 16, .int .u8 46, .int .u8 35, .int .u8 44, .int .u8 21, .int .u8 52, .int .u8 32, .int .u8 23, .int .u8 11, .int .u8 54, .int .u8 26, .int .u8 40, .int .u8 15, .int .u8 34, .int .u8 20, .int .u8 31, .int .u8 10, .int .u8 25, .int .u8 14, .int .u8 19, .int .u8 9, .int .u8 13, .int .u8 8, .int .u8 7, .int .u8 6] t frozen | o => o).modify 2 fun | .cells _ t frozen => .cells #[.int .u64 1, .int .u64 10, .int .u64 100, .int .u64 1000, .int .u64 10000, .int .u64 100000, .int .u64 1000000, .int .u64 10000000, .int .u64 100000000, .int .u64 1000000000, .int .u64 10000000000, .int .u64 100000000000, .int .u64 1000000000000, .int .u64 10000000000000, .int .u64 100000000000000, .int .u64 1000000000000000, .int .u64 10000000000000000, .int .u64 100000000000000000, .int .u64 1000000000000000000, .int .u64 10000000000000000000] t frozen | o => o) }
theorem laid_met (os : Os) (args : Array Value) : laidMetH Tryd.prog Rows.fnShowRow.laid ((laidWorld os).forCall (fun _ _ => 0) ⟨#[], args, []⟩).memory :=
  (show laidMet Tryd.prog Rows.fnShowRow.laid _ from (LaidIn.of_run [5, 6, 2] 8 (by kernel_rfl) (by kernel_rfl) (by kernel_rfl) (by kernel_rfl)).met)
set_option maxRecDepth 100000 in
theorem lifted (os : Os) (started : os.Started) (H : Type) (enc : TypeId × Value → H) :
    ReturnsInHanded {} Tryd.checked os 4 .any (fun w args => (Rows.fnShowSpec.pre enc Tryd.prog Tryd.f4 Rows.fnShowRow.domain false w args ∧ laidMetH Tryd.prog Rows.fnShowRow.laid w) ∧ sizedMet enc Tryd.prog Tryd.f4 (OpenSpec.ofChange Rows.fnShowSpec) false w args) (Rows.fnShowSpec.post enc Tryd.prog Tryd.f4 false true false false) := by
  refine returnsInHanded_of_change_and (C := Tryd.checked) (X := fun w _ => laidMetH Tryd.prog Rows.fnShowRow.laid w) (fun _ _ _ hh h => h.of_heap hh) own started (by kernel_rfl) Tryd.func4
    (ChangeSpec.witness_at (enc := enc) (C := Tryd.checked) (os := os) (X := fun w _ => laidMetH Tryd.prog Rows.fnShowRow.laid w) false (laidWorld os) #[.slice none 0 0] 8 rfl (by kernel_rfl) (by kernel_rfl) (by kernel_rfl) (by kernel_rfl) (by kernel_rfl) (laid_met os _)) ?_
  intro W base args ds gs before hval0 hW hcnd _ hL _
  have htb := tab_laid hL
  have hval : ∀ (j : Nat) t v, Tryd.f4.params[j]? = some t → args[j]? = some v → Value.okWide Tryd.prog W .any base t v := hval0
  have hW' := hW
  obtain ⟨p, q, hA0, hV, rfl, hfz, hnd⟩ := hW
  have hA : DataW.TrodAll enc Tryd.prog W 0 (fun _ => true) true Tryd.f4.params.toList args.toList ds p := hA0
  rw [Tryd.params4] at hA hval
  obtain ⟨v0, vs0, e0, es0, p0, q0, hargs, rfl, rfl, h0, r0⟩ := trodAll_cons hA
  obtain ⟨rfl, rfl, rfl⟩ := trodAll_nil r0
  obtain rfl : args = #[v0] := by cases args; simp_all
  obtain ⟨rfl, rfl⟩ := trodVars_none hV
  have k0 := h0
  have lt0 : ∀ x ∈ p0, x.block < W.heap.size := by obtain ⟨m, hm⟩ := k0; exact DataW.trod_lt m _ _ _ hm
  obtain ⟨a0, len0, cap0, rfl⟩ := okWide_slice Tryd.underlying31 (hval 0 31 v0 rfl rfl)
  obtain ⟨z0, w0⟩ : ∃ zs, IsRow .u8 W a0 len0 cap0 zs := by
    obtain ⟨fuel, hf⟩ := h0
    rcases open_ints Tryd.underlying31 Tryd.underlying5 (by kernel_rfl) hf with ⟨hcs, _⟩ | ⟨x, l, c, zs, hcs, _, hl, hm, hz, _, hcell, hwz⟩
    · simp [Value.cells] at hcs
      obtain ⟨rfl, rfl, rfl⟩ := hcs
      exact ⟨[], .inl ⟨rfl, rfl, rfl, rfl⟩⟩
    · simp [Value.cells] at hcs
      obtain ⟨rfl, rfl, rfl⟩ := hcs
      exact ⟨zs, .inr ⟨_, rfl, hl, hm, by simpa using hz, hcell, hwz⟩⟩
  clear hA0 hval0
  refine (walk a0 len0 cap0 z0 W htb w0).mono fun e W' ⟨he, bel⟩ => ?_
  subst he
  exact ⟨_, rfl, _, _, _, [], _, [], hW', trodAll_mk1 (shut_bool Tryd.underlying4 _), (trodAll_cons_mk (Below.trod laidOut (by kernel_rfl) (of_decide_eq_true (by kernel_rfl)) k0 bel lt0) trodAll_mk0), rfl, bel.frame _, fun h => by cases h⟩

theorem over : Rows.fnShowRow.holds Tryd.pinned (OpenSpec.ofChange Rows.fnShowSpec) :=
  OpenClaim.holds_of_wide 4 Tryd.f4 rfl rfl rfl rfl rfl rfl rfl ⟨rfl, rfl, rfl, rfl, rfl⟩ rfl rfl rfl rfl rfl (by kernel_rfl) Tryd.func4 (by kernel_rfl)
    (of_decide_eq_true (by kernel_rfl)) (by unfold Func.isWrapper; first | (rw [if_pos (by decide +kernel)]; kernel_rfl) | (rw [if_neg (by decide +kernel)]; exact ⟨rfl, rfl⟩))
    (fun os started H enc _ => lifted os started H enc)

/-- The tied card. -/
theorem proved : Rows.FnShowCardSaid :=
  Claim7.holds_tied_plain_at .later [] [.data, .data, .data] true (true, "e0d43b49639fadf0174f43a0310a09b668d7ea07179f084392e28d7dbac78fdf") true
    over (fun _ h => by cases h) (by kernel_rfl) (fun _ h => by cases h) fnShow_row_tie rfl ⟨rfl, rfl⟩ (by kernel_rfl) rfl
    (fun f fn hf hfn => by
      obtain rfl : f = 4 := Option.some.inj ((show Tryd.prog.funcNamed "loop.example/g00182/laws.FnShow" = some 4 by kernel_rfl).symm.trans hf) |>.symm
      obtain rfl : fn = Tryd.f4 := (Option.some.inj (Tryd.func4.symm.trans hfn)).symm
      exact ⟨by kernel_rfl, fun j t ht => by
        rw [Tryd.params4] at ht
        have hm : t ∈ [31] := List.mem_of_getElem? (by simpa using ht)
        simp only [List.mem_cons, List.not_mem_nil, or_false] at hm
        have hz : ∀ x ∈ [31], Tryd.prog.wantsStandIn x = false := by
          intro x hx
          simp only [List.mem_cons, List.not_mem_nil, or_false] at hx
          first
            | (subst hx; kernel_rfl)
            | (rcases hx with rfl | rfl <;> kernel_rfl)
            | (rcases hx with rfl | rfl | rfl <;> kernel_rfl)
        exact hz t (by simpa using hm)⟩)
    (by kernel_rfl)
end Go.Proofs.YtcaidhmolnnikaaDoor.fnShow
namespace Go.Proofs.YtcaidhmolnnikaaDoor
theorem fnShow_holds : Rows.FnShowCardSaid := fnShow.proved
#print axioms fnShow_holds
end Go.Proofs.YtcaidhmolnnikaaDoor
