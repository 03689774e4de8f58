/-
  Proved: whatever code it is given, the law FnWidth returns true: of every list that it draws, the program's ShowWide and ShowNum answer as the specification's; where ShowWide is below 0 the program's ShowRow is empty; else the row is as long as its numbers' texts and the spaces between them together, and the width is not above the texts' sum. Condition: strconv's table of powers of ten and the two tables of math/bits hold what their own initialisers lay (the card ties them to the text of the pruned copy of the project that the seat bears: it says nothing of packages beside it).
-/
import Derived.Test.YtdcemlghnoecnaaDoorRows
import Derived.WalkKit
import Derived.ProofKit
import Derived.OpenShut
import Derived.ShutString
import Derived.ChangeOld
import Derived.Below
import Derived.Deep.Cut
import Derived.Test.YtdcemlghnoecnaaDoorTie
import Derived.Test.YtdcemlghnoecnaaDoorCards
import Derived.LaidLaws
import Derived.LaidHandle
import Derived.Lib.LaidTab
import Derived.Lib.LaidIn
import Derived.SevenTiedAt
import Derived.Test.YtdcemlghnoecnaaDoorFrame
import Derived.Test.YtdcemlghnoecnaaDoorRowL
import Derived.Test.YtdcemlghnoecnaaDoorWideI
import Derived.Test.YtdcemlghnoecnaaDoorWidP
import Derived.Test.YtdcemlghnoecnaaDoorDrawW
import Derived.Test.YtdcemlghnoecnaaDoorLaw3
namespace Go.Proofs.YtdcemlghnoecnaaDoor.fnWidth
open Go.ChangeShapes Go.WideShapes Go.ChangeAt Go.RowKit
open Go.ChangeMaps (open_string shut_string)
set_option linter.unusedVariables false
set_option linter.unusedSimpArgs false

theorem own : ownKnob Tryd.prog.godebug = none := by kernel_rfl
theorem laidOut : laidOutB Tryd.prog = true := by kernel_rfl

set_option maxRecDepth 20000 in
set_option maxHeartbeats 8000000 in
/-- The walk: the law returns true, and writes nothing that was there. -/
theorem walk (a0 : Option Addr) (len0 cap0 : Nat) (z0 : List Int) (w : World) (ht : TabW w) (w0 : IsRow .u8 w a0 len0 cap0 z0) :
    Calls Tryd.prog 8 #[.slice a0 len0 cap0] w fun e w' => e = .returned (.bool true) ∧ Below w.heap.size w w' := by
  have HS : Hid (Src w.heap.size w a0 len0) := src_of_row w0
  have HTB : Hid (TabW w) := ht
  clear w0 ht
  by_cases hbig : (1048576 : Int) < (len0 : Int)
  · go_enter Tryd.func8, Tryd.ntmps8
    go_wp2_with (go_at_call 22; refine (big_laws _ _ _ _).mono ?_; rintro e w' ⟨rfl, hw⟩; subst w')
    go_ret
    exact ⟨rfl, Below.refl _ _⟩
  have hb20 : len0 ≤ 1048576 := by omega
  go_enter Tryd.func8, Tryd.ntmps8
  go_wp2_with (go_at_call 22; refine (big_laws _ _ _ _).mono ?_; rintro e w' ⟨rfl, hw⟩; subst w')
  refine (drawWide_spec HS.out hb20).mono ?_
  rintro r w1 ⟨v1, l, rfl, hl, hn, hb⟩
  obtain ⟨a1, c1, rfl, hI⟩ := hn.ints
  have HI : Hid (Ints w1 a1 l) := hI
  have HT1 : Hid (Below w.heap.size w w1) := hb
  have TB1 : Hid (TabW w1) := HTB.out.on hb
  have LL : Hid (l.length ≤ 400) := hl
  clear hb hn hI HS hbig hb20 HTB
  obtain ⟨V, hV⟩ : ∃ V, V = wideV l := ⟨_, rfl⟩
  obtain ⟨R, hR⟩ : ∃ R, R = rowV l := ⟨_, rfl⟩
  obtain ⟨S, hS⟩ : ∃ S, S = sumB l l.length := ⟨_, rfl⟩
  have HSum : Hid (S = sumB l l.length) := hS
  have SP : Hid (∀ (W : World), Below w1.heap.size w1 W → Calls Tryd.prog 15 #[.slice a1 l.length c1] W fun e w' => e = .returned (.int .i64 V) ∧ Below W.heap.size W w') := fun W hb => by rw [hV]; exact showWide_spec c1 (HI.out.keep hb) (by have := LL.out; omega)
  have IM : Hid (∀ (W : World), Below w1.heap.size w1 W → Calls Tryd.prog 16 #[.slice a1 l.length c1] W fun e w' => e = .returned (.int .i64 V) ∧ Below W.heap.size W w') := fun W hb => by rw [hV]; exact showWide_impl c1 (HI.out.keep hb) (by have := LL.out; omega) (TB1.out.on hb)
  have CR : Hid (∀ (W : World), Below w1.heap.size w1 W → Calls Tryd.prog 13 #[.slice a1 l.length c1] W fun e w' => e = .returned (.string R) ∧ Below W.heap.size W w') := fun W hb => by rw [hR]; exact showRow_impl reps joins c1 (HI.out.keep hb) (by have := LL.out; omega) (TB1.out.on hb)
  have NS : Hid (∀ (x : Int) (W : World), Calls Tryd.prog 9 #[.int .i64 x] W fun e w' => e = .returned (.string (shN x)) ∧ Below W.heap.size W w') := fun x W => showNum_spec x W
  have NI : Hid (∀ (x : Int) (W : World), Below w1.heap.size w1 W → Calls Tryd.prog 10 #[.int .i64 x] W fun e w' => e = .returned (.string (shN x)) ∧ Below W.heap.size W w') := fun x W hb => showNum_impl x (TB1.out.on hb)
  have hSb : S ≤ 8800 := by have := sumB_le l l.length; omega
  have hneV : (V != V) = false := by simp
  have hA : V < 0 → R.toList.isEmpty = true := fun h => by rw [hR, wide_neg (hV ▸ h)]; exact none_empty
  have hB : ¬ V < 0 → l.length = 0 → V = 0 := fun h k => by rw [hV]; exact wide_none (hV ▸ h) k
  have hC : ¬ V < 0 → 0 < l.length → (R.size : Int) = (S : Int) + (l.length : Int) - 1 ∧ V ≤ (S : Int) := fun h k => by rw [hV, hR, hS]; exact wide_row (hV ▸ h) k
  clear hV hR hS
  by_cases hn : V < 0
  · have HE : Hid (R.toList.isEmpty = true) := hA hn
    clear hA hB hC
    go_wp2_with fail
    refine (IM.out _ (Below.refl _ _)).mono ?_
    rintro r w2 ⟨rfl, hb⟩
    have HB2 : Hid (Below w1.heap.size w1 w2) := hb
    clear hb
    go_wp2_with fail
    refine (SP.out _ HB2.out).mono ?_
    rintro r w3 ⟨rfl, hb⟩
    have HB3 : Hid (Below w1.heap.size w1 w3) := bTrans HB2.out hb
    clear hb
    go_wp2
    go_loopw [5, 6] (fun n i w' => ∃ k : Nat, k ≤ l.length ∧ i = .int .i64 (k : Int) ∧ n = .int .i64 (sumB l k : Int) ∧ Below w1.heap.size w1 w') (fun _ i _ => l.length - (intOf i).toNat)
    case atStart => exact ⟨0, by omega, rfl, rfl, HB3.out⟩
    case round =>
      obtain ⟨k, hk, rfl, rfl, hb⟩ := hrel
      have BK : Hid (Below w1.heap.size w1 wr) := hb
      clear hb
      by_cases hlt : (k : Int) < (l.length : Int)
      · have L : k < l.length := by omega
        obtain ⟨b1, o1, rfl, _, cc⟩ := (HI.out.keep BK.out).at L
        have L4 := LL.out
        have sz := sumB_le l k
        have sx := shN_size (l.getD k 0)
        have ES : Hid (sumB l (k + 1) = sumB l k + (shN (l.getD k 0)).size) := rfl
        have C1 := fun W => NI.out (l.getD k 0) W
        have C2 := fun W => NS.out (l.getD k 0) W
        have HCC : Hid (∀ W, Below w1.heap.size w1 W → W.cell? ⟨b1, o1 + k, none⟩ = some (.int .i64 (l.getD k 0))) := fun W hb => by
          obtain ⟨b2, o2, e2, _, c2⟩ := (HI.out.keep hb).at L
          cases e2
          exact c2
        generalize sumB l k = n at *
        generalize l.getD k 0 = x at *
        generalize shN x = s at *
        have hne : (s != s) = false := bytes_bne s
        have CI : Hid (∀ (W : World), Below w1.heap.size w1 W → Calls Tryd.prog 10 #[.int .i64 x] W fun e w' => e = .returned (.string s) ∧ Below W.heap.size W w') := C1
        have CS : Hid (∀ (W : World), Calls Tryd.prog 9 #[.int .i64 x] W fun e w' => e = .returned (.string s) ∧ Below W.heap.size W w') := C2
        clear L C1 C2
        go_wp2_with fail
        refine (CI.out _ BK.out).mono ?_
        rintro r w4 ⟨rfl, hb⟩
        have B4 : Hid (Below w1.heap.size w1 w4) := bTrans BK.out hb
        have c4 := HCC.out _ B4.out
        clear hb cc
        go_wp2_with fail
        refine (CS.out _).mono ?_
        rintro r w5 ⟨rfl, hb⟩
        have B5 : Hid (Below w1.heap.size w1 w5) := bTrans B4.out hb
        clear hb c4
        go_wp2
        go_roundw
        case rel => exact ⟨k + 1, by omega, by go_num, by rw [ES.out]; go_num, B5.out⟩
        case measure => simp [intOf]; omega
      · obtain rfl : k = l.length := by omega
        rw [← HSum.out]
        have hE := HE.out
        go_wp2_with fail
        refine (CR.out _ BK.out).mono ?_
        rintro r w6 ⟨rfl, hb⟩
        have B6 : Hid (Below w1.heap.size w1 w6) := bTrans BK.out hb
        clear hb
        go_wp2
        go_ret
        exact ⟨by first | rfl | rw [hE] | simp [hE], bTrans HT1.out B6.out⟩
  · by_cases h0 : l.length = 0
    · obtain rfl : V = 0 := hB hn h0
      have H0 : Hid ((l.length : Int) = 0) := by show _ = _; omega
      clear hA hB hC h0 hn
      go_wp2_with fail
      refine (IM.out _ (Below.refl _ _)).mono ?_
      rintro r w2 ⟨rfl, hb⟩
      have HB2 : Hid (Below w1.heap.size w1 w2) := hb
      clear hb
      go_wp2_with fail
      refine (SP.out _ HB2.out).mono ?_
      rintro r w3 ⟨rfl, hb⟩
      have HB3 : Hid (Below w1.heap.size w1 w3) := bTrans HB2.out hb
      clear hb
      go_wp2
      go_loopw [5, 6] (fun n i w' => ∃ k : Nat, k ≤ l.length ∧ i = .int .i64 (k : Int) ∧ n = .int .i64 (sumB l k : Int) ∧ Below w1.heap.size w1 w') (fun _ i _ => l.length - (intOf i).toNat)
      case atStart => exact ⟨0, by omega, rfl, rfl, HB3.out⟩
      case round =>
        obtain ⟨k, hk, rfl, rfl, hb⟩ := hrel
        have BK : Hid (Below w1.heap.size w1 wr) := hb
        clear hb
        by_cases hlt : (k : Int) < (l.length : Int)
        · have L : k < l.length := by omega
          obtain ⟨b1, o1, rfl, _, cc⟩ := (HI.out.keep BK.out).at L
          have L4 := LL.out
          have sz := sumB_le l k
          have sx := shN_size (l.getD k 0)
          have ES : Hid (sumB l (k + 1) = sumB l k + (shN (l.getD k 0)).size) := rfl
          have C1 := fun W => NI.out (l.getD k 0) W
          have C2 := fun W => NS.out (l.getD k 0) W
          have HCC : Hid (∀ W, Below w1.heap.size w1 W → W.cell? ⟨b1, o1 + k, none⟩ = some (.int .i64 (l.getD k 0))) := fun W hb => by
            obtain ⟨b2, o2, e2, _, c2⟩ := (HI.out.keep hb).at L
            cases e2
            exact c2
          generalize sumB l k = n at *
          generalize l.getD k 0 = x at *
          generalize shN x = s at *
          have hne : (s != s) = false := bytes_bne s
          have CI : Hid (∀ (W : World), Below w1.heap.size w1 W → Calls Tryd.prog 10 #[.int .i64 x] W fun e w' => e = .returned (.string s) ∧ Below W.heap.size W w') := C1
          have CS : Hid (∀ (W : World), Calls Tryd.prog 9 #[.int .i64 x] W fun e w' => e = .returned (.string s) ∧ Below W.heap.size W w') := C2
          clear L C1 C2
          go_wp2_with fail
          refine (CI.out _ BK.out).mono ?_
          rintro r w4 ⟨rfl, hb⟩
          have B4 : Hid (Below w1.heap.size w1 w4) := bTrans BK.out hb
          have c4 := HCC.out _ B4.out
          clear hb cc
          go_wp2_with fail
          refine (CS.out _).mono ?_
          rintro r w5 ⟨rfl, hb⟩
          have B5 : Hid (Below w1.heap.size w1 w5) := bTrans B4.out hb
          clear hb c4
          go_wp2
          go_roundw
          case rel => exact ⟨k + 1, by omega, by go_num, by rw [ES.out]; go_num, B5.out⟩
          case measure => simp [intOf]; omega
        · obtain rfl : k = l.length := by omega
          rw [← HSum.out]
          have h0 := H0.out
          go_wp2
          go_ret
          exact ⟨rfl, bTrans HT1.out BK.out⟩
    · obtain ⟨hE, hG⟩ := hC hn (by omega)
      have HE : Hid ((R.size : Int) = (S : Int) + (l.length : Int) - 1) := hE
      have HG : Hid (V ≤ (S : Int)) := hG
      have H0 : Hid (¬ (l.length : Int) = 0) := by show ¬ _; omega
      clear hA hB hC h0 hE hG
      go_wp2_with fail
      refine (IM.out _ (Below.refl _ _)).mono ?_
      rintro r w2 ⟨rfl, hb⟩
      have HB2 : Hid (Below w1.heap.size w1 w2) := hb
      clear hb
      go_wp2_with fail
      refine (SP.out _ HB2.out).mono ?_
      rintro r w3 ⟨rfl, hb⟩
      have HB3 : Hid (Below w1.heap.size w1 w3) := bTrans HB2.out hb
      clear hb
      go_wp2
      go_loopw [5, 6] (fun n i w' => ∃ k : Nat, k ≤ l.length ∧ i = .int .i64 (k : Int) ∧ n = .int .i64 (sumB l k : Int) ∧ Below w1.heap.size w1 w') (fun _ i _ => l.length - (intOf i).toNat)
      case atStart => exact ⟨0, by omega, rfl, rfl, HB3.out⟩
      case round =>
        obtain ⟨k, hk, rfl, rfl, hb⟩ := hrel
        have BK : Hid (Below w1.heap.size w1 wr) := hb
        clear hb
        by_cases hlt : (k : Int) < (l.length : Int)
        · have L : k < l.length := by omega
          obtain ⟨b1, o1, rfl, _, cc⟩ := (HI.out.keep BK.out).at L
          have L4 := LL.out
          have sz := sumB_le l k
          have sx := shN_size (l.getD k 0)
          have ES : Hid (sumB l (k + 1) = sumB l k + (shN (l.getD k 0)).size) := rfl
          have C1 := fun W => NI.out (l.getD k 0) W
          have C2 := fun W => NS.out (l.getD k 0) W
          have HCC : Hid (∀ W, Below w1.heap.size w1 W → W.cell? ⟨b1, o1 + k, none⟩ = some (.int .i64 (l.getD k 0))) := fun W hb => by
            obtain ⟨b2, o2, e2, _, c2⟩ := (HI.out.keep hb).at L
            cases e2
            exact c2
          generalize sumB l k = n at *
          generalize l.getD k 0 = x at *
          generalize shN x = s at *
          have hne : (s != s) = false := bytes_bne s
          have CI : Hid (∀ (W : World), Below w1.heap.size w1 W → Calls Tryd.prog 10 #[.int .i64 x] W fun e w' => e = .returned (.string s) ∧ Below W.heap.size W w') := C1
          have CS : Hid (∀ (W : World), Calls Tryd.prog 9 #[.int .i64 x] W fun e w' => e = .returned (.string s) ∧ Below W.heap.size W w') := C2
          clear L C1 C2
          go_wp2_with fail
          refine (CI.out _ BK.out).mono ?_
          rintro r w4 ⟨rfl, hb⟩
          have B4 : Hid (Below w1.heap.size w1 w4) := bTrans BK.out hb
          have c4 := HCC.out _ B4.out
          clear hb cc
          go_wp2_with fail
          refine (CS.out _).mono ?_
          rintro r w5 ⟨rfl, hb⟩
          have B5 : Hid (Below w1.heap.size w1 w5) := bTrans B4.out hb
          clear hb c4
          go_wp2
          go_roundw
          case rel => exact ⟨k + 1, by omega, by go_num, by rw [ES.out]; go_num, B5.out⟩
          case measure => simp [intOf]; omega
        · obtain rfl : k = l.length := by omega
          rw [← HSum.out]
          have h0 := H0.out
          go_wp2_with fail
          refine (CR.out _ BK.out).mono ?_
          rintro r w6 ⟨rfl, hb⟩
          have B6 : Hid (Below w1.heap.size w1 w6) := bTrans BK.out hb
          have hE := HE.out
          have hG := HG.out
          have L4 := LL.out
          clear hb
          go_wp2
          go_ret
          exact ⟨rfl, bTrans HT1.out B6.out⟩

set_option maxRecDepth 100000 in
/-- From the row's condition to the table that the walk wants: one variable less. -/
theorem laidMet_tail {x : String × DataW Unit} {r : List (String × DataW Unit)} {W : World} (h : laidMet Tryd.prog (x :: r) W) : laidMet Tryd.prog r W := by
  obtain ⟨n, d⟩ := x
  obtain ⟨ps, ⟨g, t, cs, fuel, p, q, _, _, _, _, h5, rfl⟩, hn, hr⟩ := h
  exact ⟨q, h5, (List.nodup_append.1 hn).2.1, fun b off hb => hr b off (List.mem_append_right _ hb)⟩
theorem tab_laid {W : World} (h : laidMetH Tryd.prog Rows.fnWidthRow.laid W) : TabW W := by
  have h1 : laidMet Tryd.prog Rows.fnWidthRow.laid W := h
  have h2 : laidMet Tryd.prog [("internal/strconv.uint64pow10", Lib.tabData .u64 Lib.pow10Tab)] W := laidMet_tail (laidMet_tail h1)
  exact Lib.tabBelow_of_tabIs (Lib.tabIs_of_head (g := 0) (t := 114) (e := 99) (n := 20) (by kernel_rfl) (by kernel_rfl) (by kernel_rfl) (by kernel_rfl) (by kernel_rfl) (by kernel_rfl) h2)
/-- A world that meets the condition: the settled one, the tables laid. -/
noncomputable def laidWorld (os : Os) : World :=
  let w0 := World.holding Tryd.prog os ⟨#[], #[], []⟩
  { w0 with heap := (((w0.heap.modify 2 fun | .cells _ t frozen => .cells #[.int .u8 0, .int .u8 1, .int .u8 28, .int .u8 2, .int .u8 29, .int .u8 14, .int .u8 24, .int .u8 3, .int .u8 30, .int .u8 22, .int .u8 20, .int .u8 15, .int .u8 25, .int .u8 17, .int .u8 4, .int .u8 8, .int .u8 31, .int .u8 27, .int .u8 13, .int .u8 23, .int .u8 21, .int .u8 19, .int .u8 16, .int .u8 7, .int .u8 26, .int .u8 12, .int .u8 18, .int .u8 6, .int .u8 11, .int .u8 5, .int .u8 10, .int .u8 9] t frozen | o => o).modify 3 fun | .cells _ t frozen => .cells #[.int .u8 0, .int .u8 1, .int .u8 56, .int .u8 2, .int .u8 57, .int .u8 49, .int .u8 28, .int .u8 3, .int .u8 61, .int .u8 58, .int .u8 42, .int .u8 50, .int .u8 38, .int .u8 29, .int .u8 17, .int .u8 4, .int .u8 62, .int .u8 47, .int .u8 59, .int .u8 36, .int .u8 45, .int .u8 43, .int .u8 51, .int .u8 22, .int .u8 53, .int .u8 39, .int .u8 33, .int .u8 30, .int .u8 24, .int .u8 18, .int .u8 12, .int .u8 5, .int .u8 63, .int .u8 55, .int .u8 48, .int .u8 27, .int .u8 60, .int .u8 41, .int .u8 37, .int .u8 16, .int .u8 46, .int .u8 35, .int .u8 44, .int .u8 21, .int .u8 52, .int .u8 32, .int .u8 23, .int .u8 11, .int .u8 54, .int .u8 26, .int .u8 40, .int .u8 15, .int .u8 34, .int .u8 20, .int .u8 31, .int .u8 10, .int .u8 25, .int .u8 14, .int .u8 19, .int .u8 9, .int .u8 13, .int .u8 8, .int .u8 7, .int .u8 6] t frozen | o => o).modify 0 fun | .cells _ t frozen => .cells #[.int .u64 1, .int .u64 10, .int .u64 100, .int .u64 1000, .int .u64 10000, .int .u64 100000, .int .u64 1000000, .int .u64 10000000, .int .u64 100000000, .int .u64 1000000000, .int .u64 10000000000, .int .u64 100000000000, .int .u64 1000000000000, .int .u64 10000000000000, .int .u64 100000000000000, .int .u64 1000000000000000, .int .u64 10000000000000000, .int .u64 100000000000000000, .int .u64 1000000000000000000, .int .u64 10000000000000000000] t frozen | o => o) }
theorem laid_met (os : Os) (args : Array Value) : laidMetH Tryd.prog Rows.fnWidthRow.laid ((laidWorld os).forCall (fun _ _ => 0) ⟨#[], args, []⟩).memory :=
  (show laidMet Tryd.prog Rows.fnWidthRow.laid _ from (LaidIn.of_run [2, 3, 0] 8 (by kernel_rfl) (by kernel_rfl) (by kernel_rfl) (by kernel_rfl)).met)
set_option maxRecDepth 100000 in
theorem lifted (os : Os) (started : os.Started) (H : Type) (enc : TypeId × Value → H) :
    ReturnsInHanded {} Tryd.checked os 8 .any (fun w args => (Rows.fnWidthSpec.pre enc Tryd.prog Tryd.f8 Rows.fnWidthRow.domain false w args ∧ laidMetH Tryd.prog Rows.fnWidthRow.laid w) ∧ sizedMet enc Tryd.prog Tryd.f8 (OpenSpec.ofChange Rows.fnWidthSpec) false w args) (Rows.fnWidthSpec.post enc Tryd.prog Tryd.f8 false true false false) := by
  refine returnsInHanded_of_change_and (C := Tryd.checked) (X := fun w _ => laidMetH Tryd.prog Rows.fnWidthRow.laid w) (fun _ _ _ hh h => h.of_heap hh) own started (by kernel_rfl) Tryd.func8
    (ChangeSpec.witness_at (enc := enc) (C := Tryd.checked) (os := os) (X := fun w _ => laidMetH Tryd.prog Rows.fnWidthRow.laid w) false (laidWorld os) #[.slice none 0 0] 8 rfl (by kernel_rfl) (by kernel_rfl) (by kernel_rfl) (by kernel_rfl) (by kernel_rfl) (laid_met os _)) ?_
  intro W base args ds gs before hval0 hW hcnd _ hL _
  have htb := tab_laid hL
  have hval : ∀ (j : Nat) t v, Tryd.f8.params[j]? = some t → args[j]? = some v → Value.okWide Tryd.prog W .any base t v := hval0
  have hW' := hW
  obtain ⟨p, q, hA0, hV, rfl, hfz, hnd⟩ := hW
  have hA : DataW.TrodAll enc Tryd.prog W 0 (fun _ => true) true Tryd.f8.params.toList args.toList ds p := hA0
  rw [Tryd.params8] at hA hval
  obtain ⟨v0, vs0, e0, es0, p0, q0, hargs, rfl, rfl, h0, r0⟩ := trodAll_cons hA
  obtain ⟨rfl, rfl, rfl⟩ := trodAll_nil r0
  obtain rfl : args = #[v0] := by cases args; simp_all
  obtain ⟨rfl, rfl⟩ := trodVars_none hV
  have k0 := h0
  have lt0 : ∀ x ∈ p0, x.block < W.heap.size := by obtain ⟨m, hm⟩ := k0; exact DataW.trod_lt m _ _ _ hm
  obtain ⟨a0, len0, cap0, rfl⟩ := okWide_slice Tryd.underlying38 (hval 0 38 v0 rfl rfl)
  obtain ⟨z0, w0⟩ : ∃ zs, IsRow .u8 W a0 len0 cap0 zs := by
    obtain ⟨fuel, hf⟩ := h0
    rcases open_ints Tryd.underlying38 Tryd.underlying5 (by kernel_rfl) hf with ⟨hcs, _⟩ | ⟨x, l, c, zs, hcs, _, hl, hm, hz, _, hcell, hwz⟩
    · simp [Value.cells] at hcs
      obtain ⟨rfl, rfl, rfl⟩ := hcs
      exact ⟨[], .inl ⟨rfl, rfl, rfl, rfl⟩⟩
    · simp [Value.cells] at hcs
      obtain ⟨rfl, rfl, rfl⟩ := hcs
      exact ⟨zs, .inr ⟨_, rfl, hl, hm, by simpa using hz, hcell, hwz⟩⟩
  clear hA0 hval0
  refine (walk a0 len0 cap0 z0 W htb w0).mono fun e W' ⟨he, bel⟩ => ?_
  subst he
  exact ⟨_, rfl, _, _, _, [], _, [], hW', trodAll_mk1 (shut_bool Tryd.underlying4 _), (trodAll_cons_mk (Below.trod laidOut (by kernel_rfl) (of_decide_eq_true (by kernel_rfl)) k0 bel lt0) trodAll_mk0), rfl, bel.frame _, fun h => by cases h⟩

theorem over : Rows.fnWidthRow.holds Tryd.pinned (OpenSpec.ofChange Rows.fnWidthSpec) :=
  OpenClaim.holds_of_wide 8 Tryd.f8 rfl rfl rfl rfl rfl rfl rfl ⟨rfl, rfl, rfl, rfl, rfl⟩ rfl rfl rfl rfl rfl (by kernel_rfl) Tryd.func8 (by kernel_rfl)
    (of_decide_eq_true (by kernel_rfl)) (by unfold Func.isWrapper; first | (rw [if_pos (by decide +kernel)]; kernel_rfl) | (rw [if_neg (by decide +kernel)]; exact ⟨rfl, rfl⟩))
    (fun os started H enc _ => lifted os started H enc)

/-- The tied card. -/
theorem proved : Rows.FnWidthCardSaid :=
  Claim7.holds_tied_plain_at .later [] [.data, .data, .data] true (true, "cbd06bbc1b1304764073302f544b398fa226db8822f2ddfe07e40e85488dd877") false
    over (fun _ h => by cases h) (by kernel_rfl) (fun _ h => by cases h) fnWidth_row_tie rfl ⟨rfl, rfl⟩ (by kernel_rfl) rfl
    (fun f fn hf hfn => by
      obtain rfl : f = 8 := Option.some.inj ((show Tryd.prog.funcNamed "loop.example/g00182/laws.FnWidth" = some 8 by kernel_rfl).symm.trans hf) |>.symm
      obtain rfl : fn = Tryd.f8 := (Option.some.inj (Tryd.func8.symm.trans hfn)).symm
      exact ⟨by kernel_rfl, fun j t ht => by
        rw [Tryd.params8] at ht
        have hm : t ∈ [38] := List.mem_of_getElem? (by simpa using ht)
        simp only [List.mem_cons, List.not_mem_nil, or_false] at hm
        have hz : ∀ x ∈ [38], Tryd.prog.wantsStandIn x = false := by
          intro x hx
          simp only [List.mem_cons, List.not_mem_nil, or_false] at hx
          first
            | (subst hx; kernel_rfl)
            | (rcases hx with rfl | rfl <;> kernel_rfl)
            | (rcases hx with rfl | rfl | rfl <;> kernel_rfl)
        exact hz t (by simpa using hm)⟩)
    (by kernel_rfl)
end Go.Proofs.YtdcemlghnoecnaaDoor.fnWidth
namespace Go.Proofs.YtdcemlghnoecnaaDoor
theorem fnWidth_holds : Rows.FnWidthCardSaid := fnWidth.proved
#print axioms fnWidth_holds
end Go.Proofs.YtdcemlghnoecnaaDoor
