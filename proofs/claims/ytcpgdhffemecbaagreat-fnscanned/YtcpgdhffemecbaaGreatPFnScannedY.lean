/-
  Proved: whatever code it is given, the law FnScanned returns true: the rows of a drawn scan are the reductions of its beginnings; the last one is the reduction. No condition.
-/
import Derived.Test.YtcpgdhffemecbaaGreatRows
import Derived.WalkKit
import Derived.ProofKit
import Derived.OpenShut
import Derived.ShutString
import Derived.ChangeOld
import Derived.Below
import Derived.Test.YtcpgdhffemecbaaGreatZ3
import Derived.Test.YtcpgdhffemecbaaGreatDrawScan
import Derived.Test.YtcpgdhffemecbaaGreatAtLaw
import Derived.Test.YtcpgdhffemecbaaGreatZ1
import Derived.Test.YtcpgdhffemecbaaGreatEachF
import Derived.Test.YtcpgdhffemecbaaGreatLaw3
namespace Go.Proofs.YtcpgdhffemecbaaGreat.fnScanned
open Go.ChangeShapes Go.WideShapes Go.ChangeAt Go.RowKit
open Go.ChangeMaps (open_string shut_string)
set_option linter.unusedVariables false
set_option linter.unusedSimpArgs false
set_option linter.unusedVariables false

theorem own : ownKnob Tryz.prog.godebug = none := by kernel_rfl
theorem laidOut : laidOutB Tryz.prog = true := by kernel_rfl

/-! ### STEP 1: THE WALK: the Go text returns true, AND WRITES NOTHING THAT WAS THERE: 'Below w.heap.size w w'' (Derived/Below.lean: '.refl', '.alloc', '.drew', '.setCell' at a new block, '.trans'). Open each 'IsRow' by 'rcases' AHEAD of 'go_enter'; part every test ahead of the walk. -/
set_option maxRecDepth 20000 in
set_option maxHeartbeats 8000000 in
theorem walk (a0 : Option Addr) (len0 cap0 : Nat) (z0 : List Int) (w : World) (w0 : IsRow .u8 w a0 len0 cap0 z0) :
    Calls Tryz.prog 3 #[.slice a0 len0 cap0] w fun e w' => e = .returned (.bool true) ∧ Below w.heap.size w w' := by
  have HS : Hid (Src w.heap.size w a0 len0) := src_of_row w0
  clear w0
  by_cases hbig : (1048576 : Int) < (len0 : Int)
  · go_enter Tryz.func3, Tryz.ntmps3
    go_wp2_with (go_at_call 5; refine (big_laws _ _ _ _).mono ?_; rintro e w' ⟨rfl, hw⟩; subst w')
    go_ret
    exact ⟨rfl, Below.refl _ _⟩
  have hb20 : len0 ≤ 1048576 := by omega
  go_enter Tryz.func3, Tryz.ntmps3
  go_wp2_with (go_at_call 5; refine (big_laws _ _ _ _).mono ?_; rintro e w' ⟨rfl, hw⟩; subst w')
  refine (drawScan_spec HS.out hb20).mono ?_
  rintro r w1 ⟨sg, v1, s, d, rfl, ha, hls, hld, hb⟩
  obtain ⟨a1, c1, b1, e1, rfl, _, _, _, _⟩ := ha.arrI
  have N_1 : Hid (Arr w.heap.size w1.heap.size w1 (.agg #[.slice a1 s.length c1, .slice b1 d.length e1]) s d) := ha
  have Ls : Hid (s.length ≤ 1048576) := by show _ ≤ _; omega
  have Ld : Hid (d.length ≤ 1048576) := by show _ ≤ _; omega
  have HT1 : Hid (Below w.heap.size w w1) := hb
  have SZ1 : Hid (w.heap.size ≤ w1.heap.size) := hb.size
  clear hb ha hls hld
  obtain ⟨bb, y0, y1, hat⟩ := at_law cap0 HS.out hb20
  have AT : Hid (∀ W, Below w.heap.size w W → Calls Tryz.prog 12 #[.slice a0 len0 cap0, .int .i64 1] W fun e w' => e = .returned (.int .i64 bb) ∧ Below W.heap.size W w') := fun W hb => (hat W hb).mono (by rintro e w' ⟨rfl, rfl⟩; exact ⟨rfl, Below.refl _ _⟩)
  clear hat
  obtain ⟨C, hC⟩ : ∃ y, y = (scanR sg s d).1 := ⟨_, rfl⟩
  obtain ⟨S, hS⟩ : ∃ y, y = (scanR sg s d).2.1 := ⟨_, rfl⟩
  obtain ⟨D, hD⟩ : ∃ y, y = (scanR sg s d).2.2 := ⟨_, rfl⟩
  have hCC : (scanR sg s d).1 = scanC sg s d := mkR_code _ _ _
  have LA : Hid (S.length ≤ 1048576 ∧ D.length ≤ 1048576) := by show _ ∧ _; rw [hS, hD]; exact mkR_len (fun _ => Ls.out) (fun h => scan_len h Ld.out)
  have EI : Hid (∀ (W : World) (u1 : Value) (_ : ArrI W u1 s d), Calls Tryz.prog 7 #[.int .i64 sg, u1] W fun e w' => ∃ v, e = .returned (.tuple #[v, .int .i64 C]) ∧ Arr W.heap.size w'.heap.size w' v S D ∧ Below W.heap.size W w') := by
    intro W u1 h1
    rw [hC, hS, hD]
    exact scan_impl h1 Ls.out Ld.out
  have ES : Hid (∀ (W : World) (u1 : Value) (_ : ArrI W u1 s d), Calls Tryz.prog 8 #[.int .i64 sg, u1] W fun e w' => ∃ v, e = .returned (.tuple #[v, .int .i64 C]) ∧ Arr W.heap.size w'.heap.size w' v S D ∧ Below W.heap.size W w') := by
    intro W u1 h1
    rw [hC, hS, hD]
    exact scan_spec h1 Ls.out Ld.out
  have FC : Hid (C = 0 → scanC sg s d = 0 ∧ S = (scanR sg s d).2.1 ∧ D = (scanR sg s d).2.2) := fun h => ⟨by rw [← hCC, ← hC]; exact h, hS, hD⟩
  have FB : Hid (C ≠ 0 → D.length = 0) := by
    intro h
    rw [hC, hCC] at h
    rw [hD]
    unfold scanR
    rw [mkR_bad h]; rfl
  have hneC : (C != C) = false := by simp
  clear hC hS hD hCC
  go_wp2_with fail
  refine (EI.out _ _ ((N_1.out.arrI).keep (bAlloc (Below.refl _ _) _))).mono ?_
  rintro r w2 ⟨vG, rfl, ha, hb⟩
  obtain ⟨aG, cG, bG, eG, rfl, _, _, _, _⟩ := ha.arrI
  have G_2 : Hid (Arr (w1.heap.size + 1) w2.heap.size w2 (.agg #[.slice aG S.length cG, .slice bG D.length eG]) S D) := ha.mono (by first | exact Nat.le_refl _ | simp | (simp; omega)) (Nat.le_refl _)
  clear ha
  have HB2 : Hid (Below w1.heap.size w1 w2) := bTrans (bAlloc (Below.refl _ _) _) hb
  have HT2 : Hid (Below w.heap.size w w2) := bTrans HT1.out HB2.out
  have SZ2 : Hid (w1.heap.size ≤ w2.heap.size) := HB2.out.size
  have N_2 : Hid (Arr w.heap.size w1.heap.size w2 (.agg #[.slice a1 s.length c1, .slice b1 d.length e1]) s d) := N_1.out.keep HB2.out
  have QN_2 : Hid (Box w2 w1.heap.size (.slice a1 s.length c1) (.slice b1 d.length e1) 26) := (box_new w1 _ _ _).keep hb
  have LTQN : Hid (w1.heap.size < w2.heap.size) := QN_2.out.lt
  clear N_1 hb
  have QNc0 := QN_2.out.c0
  have QNc1 := QN_2.out.c1
  have QNd0 : ∀ o : Obj, (w2.alloc o).cell? ⟨w1.heap.size, 0, none⟩ = some (.slice a1 s.length c1) := fun o => (QN_2.out.keep (bAlloc (Below.refl _ _) o)).c0
  have QNd1 : ∀ o : Obj, (w2.alloc o).cell? ⟨w1.heap.size, 1, none⟩ = some (.slice b1 d.length e1) := fun o => (QN_2.out.keep (bAlloc (Below.refl _ _) o)).c1
  go_wp2_with fail
  refine (ES.out _ _ ((N_2.out.arrI).keep (bAlloc (Below.refl _ _) _))).mono ?_
  rintro r w3 ⟨vW, rfl, ha, hb⟩
  obtain ⟨aW, cW, bW, eW, rfl, _, _, _, _⟩ := ha.arrI
  have W_3 : Hid (Arr (w2.heap.size + 1) w3.heap.size w3 (.agg #[.slice aW S.length cW, .slice bW D.length eW]) S D) := ha.mono (by first | exact Nat.le_refl _ | simp | (simp; omega)) (Nat.le_refl _)
  clear ha
  have HB3 : Hid (Below w2.heap.size w2 w3) := bTrans (bAlloc (Below.refl _ _) _) hb
  have HT3 : Hid (Below w.heap.size w w3) := bTrans HT2.out HB3.out
  have SZ3 : Hid (w2.heap.size ≤ w3.heap.size) := HB3.out.size
  have QN_3 : Hid (Box w3 w1.heap.size (.slice a1 s.length c1) (.slice b1 d.length e1) 26) := QN_2.out.keep HB3.out
  have N_3 : Hid (Arr w.heap.size w1.heap.size w3 (.agg #[.slice a1 s.length c1, .slice b1 d.length e1]) s d) := N_2.out.keep HB3.out
  have G_3 : Hid (Arr (w1.heap.size + 1) w2.heap.size w3 (.agg #[.slice aG S.length cG, .slice bG D.length eG]) S D) := G_2.out.keep HB3.out
  have QG_3 : Hid (Box w3 w2.heap.size (.slice aG S.length cG) (.slice bG D.length eG) 26) := (box_new w2 _ _ _).keep hb
  have LTQG : Hid (w2.heap.size < w3.heap.size) := QG_3.out.lt
  clear QN_2 N_2 G_2 QNc0 QNc1 QNd0 QNd1 hb
  have QNc0 := QN_3.out.c0
  have QNc1 := QN_3.out.c1
  have QNd0 : ∀ o : Obj, (w3.alloc o).cell? ⟨w1.heap.size, 0, none⟩ = some (.slice a1 s.length c1) := fun o => (QN_3.out.keep (bAlloc (Below.refl _ _) o)).c0
  have QNd1 : ∀ o : Obj, (w3.alloc o).cell? ⟨w1.heap.size, 1, none⟩ = some (.slice b1 d.length e1) := fun o => (QN_3.out.keep (bAlloc (Below.refl _ _) o)).c1
  have QGc0 := QG_3.out.c0
  have QGc1 := QG_3.out.c1
  have QGd0 : ∀ o : Obj, (w3.alloc o).cell? ⟨w2.heap.size, 0, none⟩ = some (.slice aG S.length cG) := fun o => (QG_3.out.keep (bAlloc (Below.refl _ _) o)).c0
  have QGd1 : ∀ o : Obj, (w3.alloc o).cell? ⟨w2.heap.size, 1, none⟩ = some (.slice bG D.length eG) := fun o => (QG_3.out.keep (bAlloc (Below.refl _ _) o)).c1
  by_cases hc : C = 0
  · obtain ⟨hsc, hSe, hDe⟩ := FC.out hc
    subst hc
    clear FC FB
    have SAME : Hid (∀ (W : World) (u v : Value), S = s → D = d → ArrI W u s d → ArrI W v S D → Calls Tryz.prog 9 #[u, v] W fun e w' => e = .returned (.bool true) ∧ Below W.heap.size W w') := fun W u v q1 q2 h k => by
      have q := same_arr h k Ls.out Ld.out
      rw [q1, q2] at q
      simpa [q1, q2] using q
    by_cases hs0 : s = []
    · have hl0 : ((s.length : Int) == 0) = true := by rw [hs0]; rfl
      have qq : S = s ∧ D = d := by
        subst hs0
        rw [scanned_nil hsc] at hSe hDe
        exact ⟨hSe, hDe⟩
      have SM : Hid (∀ (W : World) (u v : Value), ArrI W u s d → ArrI W v S D → Calls Tryz.prog 9 #[u, v] W fun e w' => e = .returned (.bool true) ∧ Below W.heap.size W w') := fun W u v => SAME.out W u v qq.1 qq.2
      clear hs0 hsc hSe hDe qq SAME
      go_wp2_with fail
      refine (SM.out _ _ _ ((N_3.out.arrI).keep (bAlloc (Below.refl _ _) _)) ((G_3.out.arrI).keep (bAlloc (Below.refl _ _) _))).mono ?_
      rintro r w4 ⟨rfl, hb⟩
      have HB4 : Hid (Below w3.heap.size w3 w4) := bTrans (bAlloc (Below.refl _ _) _) hb
      have HT4 : Hid (Below w.heap.size w w4) := bTrans HT3.out HB4.out
      have SZ4 : Hid (w3.heap.size ≤ w4.heap.size) := HB4.out.size
      have QN_4 : Hid (Box w4 w1.heap.size (.slice a1 s.length c1) (.slice b1 d.length e1) 26) := QN_3.out.keep HB4.out
      have QG_4 : Hid (Box w4 w2.heap.size (.slice aG S.length cG) (.slice bG D.length eG) 26) := QG_3.out.keep HB4.out
      have N_4 : Hid (Arr w.heap.size w1.heap.size w4 (.agg #[.slice a1 s.length c1, .slice b1 d.length e1]) s d) := N_3.out.keep HB4.out
      have G_4 : Hid (Arr (w1.heap.size + 1) w2.heap.size w4 (.agg #[.slice aG S.length cG, .slice bG D.length eG]) S D) := G_3.out.keep HB4.out
      have QW_4 : Hid (Box w4 w3.heap.size (.slice aW S.length cW) (.slice bW D.length eW) 26) := (box_new w3 _ _ _).keep hb
      have LTQW : Hid (w3.heap.size < w4.heap.size) := QW_4.out.lt
      clear QN_3 QG_3 N_3 G_3 QNc0 QNc1 QNd0 QNd1 QGc0 QGc1 QGd0 QGd1 hb
      go_wp2
      go_ret
      exact ⟨rfl, HT4.out⟩
    · have hl1 : ((s.length : Int) == 0) = false := by simp; exact hs0
      have hl2 : 0 < s.length := List.length_pos_iff.2 hs0
      have hl2i : (0 : Int) < (s.length : Int) := by omega
      obtain ⟨_, _, _, _, ev, jn, _, _, _⟩ := N_3.out.arrI
      cases ev
      obtain ⟨p1, o1, rfl, hp1, u1⟩ := jn.at hl2
      rw [Nat.add_zero] at u1
      have u1d : ∀ o : Obj, (w3.alloc o).cell? ⟨p1, o1, none⟩ = some (.int .i64 (s.getD 0 0)) := fun o => ((bAlloc (Below.refl w3.heap.size w3) o).cell (p := ⟨p1, o1, none⟩) hp1).trans u1
      clear jn
      by_cases hn : s.getD 0 0 = 0
      · have hn1 : (s.getD 0 0 == 0) = true := by rw [hn]; rfl
        have qq : S = s ∧ D = d := by
          cases s with
          | nil => exact absurd rfl hs0
          | cons n0 t =>
            simp only [List.getD_cons_zero] at hn
            subst hn
            obtain ⟨_, hR, _, _, _⟩ := scanned_facts hsc
            rw [hR] at hSe hDe
            exact ⟨hSe, hDe.trans (scanned_none hsc)⟩
        have SM : Hid (∀ (W : World) (u v : Value), ArrI W u s d → ArrI W v S D → Calls Tryz.prog 9 #[u, v] W fun e w' => e = .returned (.bool true) ∧ Below W.heap.size W w') := fun W u v => SAME.out W u v qq.1 qq.2
        generalize s.getD 0 0 = z0 at *
        clear hs0 hsc hSe hDe qq SAME hn
        go_wp2_with fail
        refine (SM.out _ _ _ ((N_3.out.arrI).keep (bAlloc (Below.refl _ _) _)) ((G_3.out.arrI).keep (bAlloc (Below.refl _ _) _))).mono ?_
        rintro r w4 ⟨rfl, hb⟩
        have HB4 : Hid (Below w3.heap.size w3 w4) := bTrans (bAlloc (Below.refl _ _) _) hb
        have HT4 : Hid (Below w.heap.size w w4) := bTrans HT3.out HB4.out
        have SZ4 : Hid (w3.heap.size ≤ w4.heap.size) := HB4.out.size
        have QN_4 : Hid (Box w4 w1.heap.size (.slice (some ⟨p1, o1, none⟩) s.length c1) (.slice b1 d.length e1) 26) := QN_3.out.keep HB4.out
        have QG_4 : Hid (Box w4 w2.heap.size (.slice aG S.length cG) (.slice bG D.length eG) 26) := QG_3.out.keep HB4.out
        have N_4 : Hid (Arr w.heap.size w1.heap.size w4 (.agg #[.slice (some ⟨p1, o1, none⟩) s.length c1, .slice b1 d.length e1]) s d) := N_3.out.keep HB4.out
        have G_4 : Hid (Arr (w1.heap.size + 1) w2.heap.size w4 (.agg #[.slice aG S.length cG, .slice bG D.length eG]) S D) := G_3.out.keep HB4.out
        have QW_4 : Hid (Box w4 w3.heap.size (.slice aW S.length cW) (.slice bW D.length eW) 26) := (box_new w3 _ _ _).keep hb
        have LTQW : Hid (w3.heap.size < w4.heap.size) := QW_4.out.lt
        clear QN_3 QG_3 N_3 G_3 QNc0 QNc1 QNd0 QNd1 QGc0 QGc1 QGd0 QGd1 hb
        go_wp2
        go_ret
        exact ⟨rfl, HT4.out⟩
      · have hn1 : (s.getD 0 0 == 0) = false := by simpa using hn
        obtain ⟨M, t, hM⟩ : ∃ (M : Nat) (t : List Int), s = ((M : Int) + 1) :: t := by
          cases s with
          | nil => exact absurd rfl hs0
          | cons n0 t =>
            obtain ⟨hoo, _⟩ := scanned_facts hsc
            have hh := head_bd hoo.1
            simp only [List.getD_cons_zero] at hh hn
            exact ⟨n0.toNat - 1, t, by congr 1; omega⟩
        have HFACT : Hid (scanC sg s d = 0 ∧ S = (scanR sg s d).2.1 ∧ D = (scanR sg s d).2.2) := ⟨hsc, hSe, hDe⟩
        have HSM : Hid (s = ((M : Int) + 1) :: t) := hM
        generalize hz0 : s.getD 0 0 = z0 at *
        clear hs0 hsc hSe hDe hn hM SAME hz0
        go_wp2_with fail
        generalize hwz : w3.alloc (.cells #[.slice aW S.length cW, .slice bW D.length eW] 26) = wz
        have BZ : Hid (Below w3.heap.size w3 wz) := by rw [← hwz]; exact bAlloc (Below.refl _ _) _
        have ZN : Hid (ArrI wz (.agg #[.slice (some ⟨p1, o1, none⟩) s.length c1, .slice b1 d.length e1]) s d) := N_3.out.arrI.keep BZ.out
        have ZG : Hid (ArrI wz (.agg #[.slice aG S.length cG, .slice bG D.length eG]) S D) := G_3.out.arrI.keep BZ.out
        have QNz : Hid (Box wz w1.heap.size (.slice (some ⟨p1, o1, none⟩) s.length c1) (.slice b1 d.length e1) 26) := QN_3.out.keep BZ.out
        have QGz : Hid (Box wz w2.heap.size (.slice aG S.length cG) (.slice bG D.length eG) 26) := QG_3.out.keep BZ.out
        have HTz : Hid (Below w.heap.size w wz) := bTrans HT3.out BZ.out
        clear hwz BZ QNc0 QNc1 QNd0 QNd1 QGc0 QGc1 QGd0 QGd1 u1 u1d
        obtain ⟨FX, FY, KF, K, SP, DP, hFXl, hFYl, hFY, hFX0, hKL, hTL, hSs, hK, hKM, hM3, RX, RY, ER, EK, EQ⟩ : ∃ (FX FY : List (List Int)) (KF : Nat → List Int) (K : Nat) (SP DP : List Int), FX.length = 2 * (M + 1) ∧ FY.length = 2 * (M + 1) ∧ (∀ i, i < M + 1 → FY.getD (2 * i) [] = t ∧ FY.getD (2 * i + 1) [] = KF i) ∧ (FX.getD 0 [] = t ∧ FX.getD 1 [] = KF 0) ∧ (∀ i, (KF i).length ≤ 300) ∧ t.length ≤ 300 ∧ S = s ∧ Int.tmod bb ((M : Int) + 1) = (K : Int) ∧ K < M + 1 ∧ (M : Int) + 1 ≤ 300 ∧
            (∀ (W : World) (u : Value), ArrI W u s d → Calls Tryz.prog 10 #[u] W fun e w' => ∃ v, e = .returned v ∧ Arrs W.heap.size w'.heap.size w' v FX ∧ Below W.heap.size W w') ∧
            (∀ (W : World) (u : Value), ArrI W u S D → Calls Tryz.prog 10 #[u] W fun e w' => ∃ v, e = .returned v ∧ Arrs W.heap.size w'.heap.size w' v FY ∧ Below W.heap.size W w') ∧
            (∀ (W : World) (u : Value), ArrI W u s d → Calls Tryz.prog 11 #[.int .i64 sg, u] W fun e w' => ∃ v, e = .returned (.tuple #[v, .int .i64 0]) ∧ Arr W.heap.size w'.heap.size w' v t (KF M) ∧ Below W.heap.size W w') ∧
            (∀ (W : World) (u v : Value), ArrI W u [] [1 + (K : Int)] → ArrI W v s d → Calls Tryz.prog 14 #[u, v] W fun e w' => ∃ v, e = .returned (.tuple #[v, .int .i64 0]) ∧ Arr W.heap.size w'.heap.size w' v SP DP ∧ Below W.heap.size W w') ∧
            (∀ (W : World) (u : Value), ArrI W u SP DP → Calls Tryz.prog 11 #[.int .i64 sg, u] W fun e w' => ∃ v, e = .returned (.tuple #[v, .int .i64 0]) ∧ Arr W.heap.size w'.heap.size w' v t (KF K) ∧ Below W.heap.size W w') := by
          obtain ⟨hsc, hSe, hDe⟩ := HFACT.out
          have LS := Ls.out
          have LD := Ld.out
          have LAA := LA.out
          have hM := HSM.out
          rw [hM] at hsc hSe hDe LS
          rw [hM]
          obtain ⟨hoo, hR, hoD, hall, hrow⟩ := scanned_facts hsc
          rw [hR] at hSe hDe
          simp only at hSe hDe
          rw [← hDe] at hoD hrow
          have eT : ((M : Int) + 1).toNat = M + 1 := by omega
          have hMp : (0 : Int) < (M : Int) + 1 := by omega
          have hh := head_bd hoo.1
          simp only [List.getD_cons_zero] at hh
          have er : rowsN (((M : Int) + 1) :: t) = M + 1 := by simp [rowsN]
          obtain ⟨K, hK, hKM⟩ : ∃ K : Nat, Int.tmod bb ((M : Int) + 1) = (K : Int) ∧ K < M + 1 := by
            refine ⟨(Int.tmod bb ((M : Int) + 1)).toNat, ?_, ?_⟩
            · have := Int.tmod_nonneg ((M : Int) + 1) y0; omega
            · have := Int.tmod_lt_of_pos bb hMp; omega
          obtain ⟨q1, q2⟩ := scanned_part hsc (k := K) (by omega)
          have e1 : ((K + 1 : Nat) : Int) = 1 + (K : Int) := by omega
          rw [e1] at q1 q2
          have LP : (chosenD (((M : Int) + 1) :: t) d (fun j => 0 + (j : Int)) (K + 1)).length ≤ 1048576 := by
            obtain ⟨_, f2, _⟩ := beg_facts hoo.1 (k := K) (by omega)
            have := arrOk_len f2
            omega
          have hT3 : t.length ≤ 300 := by have := (sizeV_ok (arrOk_shape hoo.1)).1; simp at this; omega
          refine ⟨rowsF (((M : Int) + 1) :: t) d, rowsF (((M : Int) + 1) :: t) D, fun i => (scanK sg (((M : Int) + 1) :: t) d i).2, K, (1 + (K : Int)) :: t, chosenD (((M : Int) + 1) :: t) d (fun j => 0 + (j : Int)) (K + 1), ?_, ?_, ?_, ?_, fun i => scanK_len hoo.1 (by simp) i, hT3, hSe, hK, hKM, by omega, fun W u hh => rows_impl hh LS LD, fun W u hh => by rw [← hSe]; exact rows_impl hh LAA.1 LAA.2, ?_, ?_, ?_⟩
          · rw [rowsF_length, if_pos ⟨hoo.1, by simp⟩]; simp
          · rw [rowsF_length, if_pos ⟨hoD, by simp⟩]; simp
          · intro i hi
            rw [hrow, eT]
            obtain ⟨k1, k2⟩ := flatR_at t ((List.range (M + 1)).map (fun i => (scanK sg (((M : Int) + 1) :: t) d i).2)) (i := i) (by simpa using hi)
            refine ⟨k1, k2.trans ?_⟩
            simp [List.getD, hi]
          · obtain ⟨k1, k2⟩ := flatR_at t (rowsD (((M : Int) + 1) :: t) d) (i := 0) (by rw [rowsD_len, er]; omega)
            rw [rowsF_flat hoo.1 (by simp)]
            refine ⟨k1, k2.trans ?_⟩
            rw [rowsD_at _ _ (by rw [er]; omega)]
            exact (scanned_first hMp).symm
          · intro W u hh
            have q := reduce_impl (g := sg) hh LS LD
            rw [scanned_last hsc hMp, eT, Nat.add_sub_cancel] at q
            exact q
          · intro W u v hu hv
            have q := take_impl hu hv (by simp) (by simp) LS LD
            rw [q1] at q
            exact q
          · intro W u hh
            have q := reduce_impl (g := sg) hh (by simp; omega) LP
            rw [q2] at q
            exact q
        have HFXl : Hid (FX.length = 2 * (M + 1)) := hFXl
        have HFYl : Hid (FY.length = 2 * (M + 1)) := hFYl
        have HFY : Hid (∀ i, i < M + 1 → FY.getD (2 * i) [] = t ∧ FY.getD (2 * i + 1) [] = KF i) := hFY
        have HFX : Hid (FX.getD 0 [] = t ∧ FX.getD 1 [] = KF 0) := hFX0
        have HKL : Hid (∀ i, (KF i).length ≤ 300) := hKL
        have HTL : Hid (t.length ≤ 300) := hTL
        have HSS : Hid (S = s) := hSs
        have HKM : Hid (K < M + 1) := hKM
        have HM3 : Hid ((M : Int) + 1 ≤ 300) := hM3
        have HRX : Hid (∀ (W : World) (u : Value), ArrI W u s d → Calls Tryz.prog 10 #[u] W fun e w' => ∃ v, e = .returned v ∧ Arrs W.heap.size w'.heap.size w' v FX ∧ Below W.heap.size W w') := RX
        have HRY : Hid (∀ (W : World) (u : Value), ArrI W u S D → Calls Tryz.prog 10 #[u] W fun e w' => ∃ v, e = .returned v ∧ Arrs W.heap.size w'.heap.size w' v FY ∧ Below W.heap.size W w') := RY
        have HER : Hid (∀ (W : World) (u : Value), ArrI W u s d → Calls Tryz.prog 11 #[.int .i64 sg, u] W fun e w' => ∃ v, e = .returned (.tuple #[v, .int .i64 0]) ∧ Arr W.heap.size w'.heap.size w' v t (KF M) ∧ Below W.heap.size W w') := ER
        have HEK : Hid (∀ (W : World) (u v : Value), ArrI W u [] [1 + (K : Int)] → ArrI W v s d → Calls Tryz.prog 14 #[u, v] W fun e w' => ∃ v, e = .returned (.tuple #[v, .int .i64 0]) ∧ Arr W.heap.size w'.heap.size w' v SP DP ∧ Below W.heap.size W w') := EK
        have HEQ : Hid (∀ (W : World) (u : Value), ArrI W u SP DP → Calls Tryz.prog 11 #[.int .i64 sg, u] W fun e w' => ∃ v, e = .returned (.tuple #[v, .int .i64 0]) ∧ Arr W.heap.size w'.heap.size w' v t (KF K) ∧ Below W.heap.size W w') := EQ
        have SB : Hid (∀ (W : World) (u v : Value) (i : Nat), ArrI W u t (KF i) → ArrI W v t (KF i) → Calls Tryz.prog 9 #[u, v] W fun e w' => e = .returned (.bool true) ∧ Below W.heap.size W w') := fun W u v i h k => by
          have q := same_arr h k (by have := HTL.out; omega) (by have := HKL.out i; omega)
          simpa using q
        clear hFXl hFYl hFY hFX0 hKL hTL hSs hKM hM3 RX RY ER EK EQ HFACT HSM
        have m0 := QNz.out.c0
        have m1 := QNz.out.c1
        have m2 := QGz.out.c0
        have m3 := QGz.out.c1
        go_region_held3 (fun w' => w'.cell? ⟨w1.heap.size, 0, none⟩ = some (.slice (some ⟨p1, o1, none⟩) s.length c1) ∧ w'.cell? ⟨w1.heap.size, 1, none⟩ = some (.slice b1 d.length e1) ∧ w'.cell? ⟨w2.heap.size, 0, none⟩ = some (.slice aG S.length cG) ∧ w'.cell? ⟨w2.heap.size, 1, none⟩ = some (.slice bG D.length eG))
          (first | with_reducible exact ⟨y2, y3, y4, y5⟩ | with_reducible exact ⟨z2, z3, z4, z5⟩ | exact ⟨m0, m1, m2, m3⟩)
          (first
            | (go_at_call_of 10 (Value.agg #[.slice (some ⟨p1, o1, none⟩) s.length c1, .slice b1 d.length e1]); refine (HRX.out _ _ (ZN.out.keep ((Below.refl wz.heap.size wz).drew))).mono ?_; rintro r wx ⟨vx, rfl, hF, hb⟩; have BX : Hid (Below wz.heap.size wz wx) := bTrans ((Below.refl wz.heap.size wz).drew) hb; have FXx : Hid (ArrsI wx vx FX) := hF.arrsI; have z2 := (QNz.out.keep BX.out).c0; have z3 := (QNz.out.keep BX.out).c1; have z4 := (QGz.out.keep BX.out).c0; have z5 := (QGz.out.keep BX.out).c1; clear hF hb)
            | (go_at_call_of 10 (Value.agg #[.slice aG S.length cG, .slice bG D.length eG]); refine (HRY.out _ _ (ZG.out.keep BX.out)).mono ?_; rintro r wy ⟨vy, rfl, hF, hb⟩; have BY' : Hid (Below wz.heap.size wz wy) := bTrans BX.out hb; have FXy : Hid (ArrsI wy vx FX) := FXx.out.keep hb; have FYy : Hid (ArrsI wy vy FY) := hF.arrsI; have y2 := (QNz.out.keep BY'.out).c0; have y3 := (QNz.out.keep BY'.out).c1; have y4 := (QGz.out.keep BY'.out).c0; have y5 := (QGz.out.keep BY'.out).c1; clear hF hb))
        clear FXx BX z2 z3 z4 z5 m0 m1 m2 m3 HRX HRY
        have ZNy : Hid (ArrI wy (.agg #[.slice (some ⟨p1, o1, none⟩) s.length c1, .slice b1 d.length e1]) s d) := ZN.out.keep BY'.out
        have ZGy : Hid (ArrI wy (.agg #[.slice aG S.length cG, .slice bG D.length eG]) S D) := ZG.out.keep BY'.out
        have QNy : Hid (Box wy w1.heap.size (.slice (some ⟨p1, o1, none⟩) s.length c1) (.slice b1 d.length e1) 26) := QNz.out.keep BY'.out
        have QGy : Hid (Box wy w2.heap.size (.slice aG S.length cG) (.slice bG D.length eG) 26) := QGz.out.keep BY'.out
        have HTy : Hid (Below w.heap.size w wy) := bTrans HTz.out BY'.out
        clear QNz QGz HTz ZN ZG BY'
        have hvx := FXy.out
        obtain ⟨xa, xn, xc, rfl, hxn, _⟩ := hvx
        have hvy := FYy.out
        obtain ⟨ya, yn, yc, rfl, hyn, _⟩ := hvy
        obtain rfl : xn = M + 1 := by have := HFXl.out; omega
        obtain rfl : yn = M + 1 := by have := HFYl.out; omega
        clear hxn hyn
        go_wp2_with fail
        refine (HER.out _ _ ZNy.out).mono ?_
        rintro r wa ⟨va, rfl, ha, hb⟩
        obtain ⟨ra, rc, rb, re, rfl, _, _, _, _⟩ := ha.arrI
        have BA : Hid (Below wy.heap.size wy wa) := hb
        have AR : Hid (ArrI wa (.agg #[.slice ra t.length rc, .slice rb (KF M).length re]) t (KF M)) := ha.arrI
        clear ha hb y2 y3 y4 y5 HER
        go_wp2_with fail
        generalize hwq : wa.alloc (.cells #[.slice ra t.length rc, .slice rb (KF M).length re] 26) = wq
        have BQ : Hid (Below wy.heap.size wy wq) := by rw [← hwq]; exact bTrans BA.out (bAlloc (Below.refl _ _) _)
        have QR : Hid (Box wq wa.heap.size (.slice ra t.length rc) (.slice rb (KF M).length re) 26) := by rw [← hwq]; exact box_new wa _ _ _
        have ARq : Hid (ArrI wq (.agg #[.slice ra t.length rc, .slice rb (KF M).length re]) t (KF M)) := by rw [← hwq]; exact AR.out.keep (bAlloc (Below.refl _ _) _)
        have HTq : Hid (Below w.heap.size w wq) := bTrans HTy.out BQ.out
        have ZNq : Hid (ArrI wq (.agg #[.slice (some ⟨p1, o1, none⟩) s.length c1, .slice b1 d.length e1]) s d) := ZNy.out.keep BQ.out
        have ZGq : Hid (ArrI wq (.agg #[.slice aG S.length cG, .slice bG D.length eG]) S D) := ZGy.out.keep BQ.out
        have QNq : Hid (Box wq w1.heap.size (.slice (some ⟨p1, o1, none⟩) s.length c1) (.slice b1 d.length e1) 26) := QNy.out.keep BQ.out
        have QGq : Hid (Box wq w2.heap.size (.slice aG S.length cG) (.slice bG D.length eG) 26) := QGy.out.keep BQ.out
        have FXq : Hid (ArrsI wq (.slice xa (M + 1) xc) FX) := FXy.out.keep BQ.out
        have FYq : Hid (ArrsI wq (.slice ya (M + 1) yc) FY) := FYy.out.keep BQ.out
        clear hwq AR BQ BA QNy QGy HTy ZNy ZGy FXy FYy
        obtain ⟨oM, fM, sM, dM, rfl, hoM, pM0, pM1, iM0, iM1⟩ := FYq.out.at (k := M) (by omega)
        obtain ⟨o0, f0, s0, d0, e0, ho0, p00, p01, i00, i01⟩ := FYq.out.at (k := 0) (by omega)
        cases e0
        obtain ⟨oK, fK, sK, dK, eK, hoK, pK0, pK1, iK0, iK1⟩ := FYq.out.at (k := K) HKM.out
        cases eK
        obtain ⟨oX, fX, sX, dX, rfl, hoX, pX0, pX1, iX0, iX1⟩ := FXq.out.at (k := 0) (by omega)
        rw [(HFY.out M (by omega)).1] at iM0
        rw [(HFY.out M (by omega)).2] at iM1
        rw [(HFY.out 0 (by omega)).1] at i00
        rw [(HFY.out 0 (by omega)).2] at i01
        rw [(HFY.out K HKM.out).1] at iK0
        rw [(HFY.out K HKM.out).2] at iK1
        rw [show 2 * 0 = 0 from rfl, HFX.out.1] at iX0
        rw [show 2 * 0 + 1 = 1 from rfl, HFX.out.2] at iX1
        obtain ⟨aM, cM, rfl, gM0, jM0⟩ := iM0
        obtain ⟨bM, eM, rfl, gM1, jM1⟩ := iM1
        obtain ⟨a0', c0', rfl, g00, j00⟩ := i00
        obtain ⟨b0', e0', rfl, g01, j01⟩ := i01
        obtain ⟨aK, cK, rfl, gK0, jK0⟩ := iK0
        obtain ⟨bK, eK, rfl, gK1, jK1⟩ := iK1
        obtain ⟨aX, cX, rfl, gX0, jX0⟩ := iX0
        obtain ⟨bX, eX, rfl, gX1, jX1⟩ := iX1
        have AM : Hid (ArrI wq (.agg #[.slice aM t.length cM, .slice bM (KF M).length eM]) t (KF M)) := ⟨_, _, _, _, rfl, jM0, jM1, gM0, gM1⟩
        have A0 : Hid (ArrI wq (.agg #[.slice a0' t.length c0', .slice b0' (KF 0).length e0']) t (KF 0)) := ⟨_, _, _, _, rfl, j00, j01, g00, g01⟩
        have AK : Hid (ArrI wq (.agg #[.slice aK t.length cK, .slice bK (KF K).length eK]) t (KF K)) := ⟨_, _, _, _, rfl, jK0, jK1, gK0, gK1⟩
        have AX : Hid (ArrI wq (.agg #[.slice aX t.length cX, .slice bX (KF 0).length eX]) t (KF 0)) := ⟨_, _, _, _, rfl, jX0, jX1, gX0, gX1⟩
        have v00 : wq.cell? ⟨oM, fM, none⟩ = some (.slice a0' t.length c0') := by simpa using p00
        have v01 : wq.cell? ⟨oM, fM + 1, none⟩ = some (.slice b0' (KF 0).length e0') := by simpa using p01
        have vX0 : wq.cell? ⟨oX, fX, none⟩ = some (.slice aX t.length cX) := by simpa using pX0
        have vX1 : wq.cell? ⟨oX, fX + 1, none⟩ = some (.slice bX (KF 0).length eX) := by simpa using pX1
        have PK : Hid (oM < wq.heap.size ∧ wq.cell? ⟨oM, fM + K * 2, none⟩ = some (.slice aK t.length cK) ∧ wq.cell? ⟨oM, fM + K * 2 + 1, none⟩ = some (.slice bK (KF K).length eK)) := ⟨hoM, pK0, pK1⟩
        have mR0 := QR.out.c0
        have mR1 := QR.out.c1
        have hM3 := HM3.out
        have hw1 : IntKind.i64.wrap ((M : Int) + 1 - 1) = (M : Int) := by rw [Int.add_sub_cancel]; exact wrapI (by omega) (by omega)
        have hw2 : IntKind.i64.wrap (M : Int) = (M : Int) := wrapI (by omega) (by omega)
        have hi0 : (0 : Int) ≤ (M : Int) := by omega
        have hi1 : (M : Int) < (M : Int) + 1 := by omega
        have hi2 : (0 : Int) < (M : Int) + 1 := by omega
        have hne : ((M : Int) + 1 == 0) = false := by simp; omega
        clear jM0 jM1 j00 j01 jK0 jK1 jX0 jX1 gM0 gM1 g00 g01 gK0 gK1 gX0 gX1 p00 p01 pX0 pX1 pK0 pK1 FXq FYq HFX HFY HFXl HFYl
        go_region_held3 (fun w' => w'.cell? ⟨oM, fM + M * 2, none⟩ = some (.slice aM t.length cM) ∧ w'.cell? ⟨oM, fM + M * 2 + 1, none⟩ = some (.slice bM (KF M).length eM) ∧ w'.cell? ⟨wa.heap.size, 0, none⟩ = some (.slice ra t.length rc) ∧ w'.cell? ⟨wa.heap.size, 1, none⟩ = some (.slice rb (KF M).length re) ∧ w'.cell? ⟨oX, fX, none⟩ = some (.slice aX t.length cX) ∧ w'.cell? ⟨oX, fX + 1, none⟩ = some (.slice bX (KF 0).length eX) ∧ w'.cell? ⟨oM, fM, none⟩ = some (.slice a0' t.length c0') ∧ w'.cell? ⟨oM, fM + 1, none⟩ = some (.slice b0' (KF 0).length e0'))
          (first | with_reducible exact ⟨y1, y2, y3, y4, y5, y6, y7, y8⟩ | with_reducible exact ⟨z1, z2, z3, z4, z5, z6, z7, z8⟩ | exact ⟨pM0, pM1, mR0, mR1, vX0, vX1, v00, v01⟩)
          (first
            | (go_at_call_of 9 (Value.agg #[.slice ra t.length rc, .slice rb (KF M).length re]); refine (SB.out _ _ _ M (AM.out.keep ((Below.refl wq.heap.size wq).drew)) (ARq.out.keep ((Below.refl wq.heap.size wq).drew))).mono ?_; rintro r wb ⟨rfl, hb⟩; have BX : Hid (Below wq.heap.size wq wb) := bTrans ((Below.refl wq.heap.size wq).drew) hb; have z1 := (BX.out.cell (p := ⟨oM, fM + M * 2, none⟩) hoM).trans pM0; have z2 := (BX.out.cell (p := ⟨oM, fM + M * 2 + 1, none⟩) hoM).trans pM1; have z3 := (QR.out.keep BX.out).c0; have z4 := (QR.out.keep BX.out).c1; have z5 := (BX.out.cell (p := ⟨oX, fX, none⟩) hoX).trans vX0; have z6 := (BX.out.cell (p := ⟨oX, fX + 1, none⟩) hoX).trans vX1; have z7 := (BX.out.cell (p := ⟨oM, fM, none⟩) hoM).trans v00; have z8 := (BX.out.cell (p := ⟨oM, fM + 1, none⟩) hoM).trans v01; clear hb)
            | (go_at_call_of 9 (Value.agg #[.slice aX t.length cX, .slice bX (KF 0).length eX]); refine (SB.out _ _ _ 0 (AX.out.keep BX.out) (A0.out.keep BX.out)).mono ?_; rintro r wc ⟨rfl, hb⟩; have BY' : Hid (Below wq.heap.size wq wc) := bTrans BX.out hb; have y1 := (BY'.out.cell (p := ⟨oM, fM + M * 2, none⟩) hoM).trans pM0; have y2 := (BY'.out.cell (p := ⟨oM, fM + M * 2 + 1, none⟩) hoM).trans pM1; have y3 := (QR.out.keep BY'.out).c0; have y4 := (QR.out.keep BY'.out).c1; have y5 := (BY'.out.cell (p := ⟨oX, fX, none⟩) hoX).trans vX0; have y6 := (BY'.out.cell (p := ⟨oX, fX + 1, none⟩) hoX).trans vX1; have y7 := (BY'.out.cell (p := ⟨oM, fM, none⟩) hoM).trans v00; have y8 := (BY'.out.cell (p := ⟨oM, fM + 1, none⟩) hoM).trans v01; clear hb))
        have HTc : Hid (Below w.heap.size w wc) := bTrans HTq.out BY'.out
        have ZNc : Hid (ArrI wc (.agg #[.slice (some ⟨p1, o1, none⟩) s.length c1, .slice b1 d.length e1]) s d) := ZNq.out.keep BY'.out
        have ZGc : Hid (ArrI wc (.agg #[.slice aG S.length cG, .slice bG D.length eG]) S D) := ZGq.out.keep BY'.out
        have QNc : Hid (Box wc w1.heap.size (.slice (some ⟨p1, o1, none⟩) s.length c1) (.slice b1 d.length e1) 26) := QNq.out.keep BY'.out
        have QGc : Hid (Box wc w2.heap.size (.slice aG S.length cG) (.slice bG D.length eG) 26) := QGq.out.keep BY'.out
        have AKc : Hid (ArrI wc (.agg #[.slice aK t.length cK, .slice bK (KF K).length eK]) t (KF K)) := AK.out.keep BY'.out
        have PKc : Hid (oM < wc.heap.size ∧ wc.cell? ⟨oM, fM + K * 2, none⟩ = some (.slice aK t.length cK) ∧ wc.cell? ⟨oM, fM + K * 2 + 1, none⟩ = some (.slice bK (KF K).length eK)) := ⟨Nat.lt_of_lt_of_le PK.out.1 BY'.out.size, (BY'.out.cell (p := ⟨oM, fM + K * 2, none⟩) PK.out.1).trans PK.out.2.1, (BY'.out.cell (p := ⟨oM, fM + K * 2 + 1, none⟩) PK.out.1).trans PK.out.2.2⟩
        clear y1 y2 y3 y4 y5 y6 y7 y8 z1 z2 z3 z4 z5 z6 z7 z8 pM0 pM1 mR0 mR1 vX0 vX1 v00 v01 BX BY' QNq QGq ZNq ZGq AK PK HTq QR ARq AM A0 AX hw1 hw2 hi1
        have hKM := HKM.out
        have hk1 : IntKind.i64.wrap (1 + (K : Int)) = 1 + (K : Int) := wrapI (by omega) (by omega)
        have hk2 : IntKind.i64.wrap (1 + (K : Int) - 1) = (K : Int) := by rw [show (1 : Int) + (K : Int) - 1 = (K : Int) by omega]; exact wrapI (by omega) (by omega)
        have hk3 : IntKind.i64.wrap (K : Int) = (K : Int) := wrapI (by omega) (by omega)
        have hk4 : (0 : Int) ≤ (K : Int) := by omega
        have hk5 : (K : Int) < (M : Int) + 1 := by omega
        have hK2 : bb % ((M : Int) + 1) = (K : Int) := by rw [← hK, Int.tmod_eq_emod_of_nonneg y0]
        have SK : Hid (∀ W, Calls Tryz.prog 13 #[.int .i64 (1 + (K : Int))] W fun e w' => ∃ v, e = .returned (.tuple #[v, .bool true]) ∧ Arr W.heap.size w'.heap.size w' v [] [1 + (K : Int)] ∧ Below W.heap.size W w') := fun W => by
          have q := scalarOf_impl (1 + (K : Int)) W
          have e : ok (1 + (K : Int)) = true := by unfold ok; simp; omega
          rw [e] at q
          simpa using q
        go_wp2_with fail
        refine (AT.out _ HTc.out).mono ?_
        rintro r wd ⟨rfl, hb⟩
        have BD : Hid (Below wc.heap.size wc wd) := hb
        clear hb
        go_wp2_with fail
        refine (SK.out _).mono ?_
        rintro r we ⟨ve, rfl, ha, hb⟩
        obtain ⟨na, nc, nb, ne, rfl, _, _, _, _⟩ := ha.arrI
        have BE : Hid (Below wc.heap.size wc we) := bTrans BD.out hb
        have AN : Hid (ArrI we (.agg #[.slice na ([] : List Int).length nc, .slice nb [1 + (K : Int)].length ne]) [] [1 + (K : Int)]) := ha.arrI
        clear ha hb BD
        have r0 : ∀ o : Obj, (we.alloc o).cell? ⟨w1.heap.size, 0, none⟩ = some (.slice (some ⟨p1, o1, none⟩) s.length c1) := fun o => (QNc.out.keep (bAlloc BE.out o)).c0
        have r1 : ∀ o : Obj, (we.alloc o).cell? ⟨w1.heap.size, 1, none⟩ = some (.slice b1 d.length e1) := fun o => (QNc.out.keep (bAlloc BE.out o)).c1
        go_wp2_with fail
        refine (HEK.out _ _ _ (AN.out.keep (bAlloc (Below.refl _ _) _)) (ZNc.out.keep (bAlloc BE.out _))).mono ?_
        rintro r wf ⟨vf, rfl, ha, hb⟩
        obtain ⟨ua, uc, ub, ue, rfl, _, _, _, _⟩ := ha.arrI
        have BF : Hid (Below wc.heap.size wc wf) := bTrans (bAlloc BE.out _) hb
        have AP : Hid (ArrI wf (.agg #[.slice ua SP.length uc, .slice ub DP.length ue]) SP DP) := ha.arrI
        clear ha hb BE AN r0 r1
        go_wp2_with fail
        refine (HEQ.out _ _ (AP.out.keep (bAlloc (Below.refl _ _) _))).mono ?_
        rintro r wg ⟨vg, rfl, ha, hb⟩
        obtain ⟨va, vc, vb, ve, rfl, _, _, _, _⟩ := ha.arrI
        have BG : Hid (Below wc.heap.size wc wg) := bTrans (bAlloc BF.out _) hb
        have AQ : Hid (ArrI wg (.agg #[.slice va t.length vc, .slice vb (KF K).length ve]) t (KF K)) := ha.arrI
        clear ha hb BF AP
        go_wp2_with fail
        generalize hwh : wg.alloc (.cells #[.slice va t.length vc, .slice vb (KF K).length ve] 26) = wh
        have BH : Hid (Below wc.heap.size wc wh) := by rw [← hwh]; exact bTrans BG.out (bAlloc (Below.refl _ _) _)
        have QQ : Hid (Box wh wg.heap.size (.slice va t.length vc) (.slice vb (KF K).length ve) 26) := by rw [← hwh]; exact box_new wg _ _ _
        have AQh : Hid (ArrI wh (.agg #[.slice va t.length vc, .slice vb (KF K).length ve]) t (KF K)) := by rw [← hwh]; exact AQ.out.keep (bAlloc (Below.refl _ _) _)
        clear hwh AQ BG
        have AKh : Hid (ArrI wh (.agg #[.slice aK t.length cK, .slice bK (KF K).length eK]) t (KF K)) := AKc.out.keep BH.out
        have QNh : Hid (Box wh w1.heap.size (.slice (some ⟨p1, o1, none⟩) s.length c1) (.slice b1 d.length e1) 26) := QNc.out.keep BH.out
        have QGh : Hid (Box wh w2.heap.size (.slice aG S.length cG) (.slice bG D.length eG) 26) := QGc.out.keep BH.out
        have HLO : Hid (oM < wh.heap.size) := Nat.lt_of_lt_of_le PKc.out.1 BH.out.size
        have HTh : Hid (Below w.heap.size w wh) := bTrans HTc.out BH.out
        have m1 := QQ.out.c0
        have m2 := QQ.out.c1
        have m3 := (BH.out.cell (p := ⟨oM, fM + K * 2, none⟩) PKc.out.1).trans PKc.out.2.1
        have m4 := (BH.out.cell (p := ⟨oM, fM + K * 2 + 1, none⟩) PKc.out.1).trans PKc.out.2.2
        have m5 := QNh.out.c0
        have m6 := QGh.out.c0
        have SI : Hid (∀ W, Below wh.heap.size wh W → Calls Tryz.prog 15 #[.slice (some ⟨p1, o1, none⟩) s.length c1, .slice aG S.length cG] W fun e w' => e = .returned (.bool true) ∧ Below W.heap.size W w') := fun W hh => by
          obtain ⟨_, _, _, _, ev, k1, _, _, _⟩ := ZNc.out.keep (bTrans BH.out hh)
          cases ev
          obtain ⟨_, _, _, _, ev, k2, _, _, _⟩ := ZGc.out.keep (bTrans BH.out hh)
          cases ev
          refine Calls.mono (same_ints c1 cG (by have := Ls.out; omega) k1 k2) ?_
          rintro r w' ⟨rfl, n, rfl⟩
          exact ⟨by simp [HSS.out], bDrewN (Below.refl _ _) n⟩
        clear PKc
        go_region_held3 (fun w' => w'.cell? ⟨wg.heap.size, 0, none⟩ = some (.slice va t.length vc) ∧ w'.cell? ⟨wg.heap.size, 1, none⟩ = some (.slice vb (KF K).length ve) ∧ w'.cell? ⟨oM, fM + K * 2, none⟩ = some (.slice aK t.length cK) ∧ w'.cell? ⟨oM, fM + K * 2 + 1, none⟩ = some (.slice bK (KF K).length eK) ∧ w'.cell? ⟨w1.heap.size, 0, none⟩ = some (.slice (some ⟨p1, o1, none⟩) s.length c1) ∧ w'.cell? ⟨w2.heap.size, 0, none⟩ = some (.slice aG S.length cG))
          (first | with_reducible exact ⟨z1, z2, z3, z4, z5, z6⟩ | exact ⟨m1, m2, m3, m4, m5, m6⟩ | with_reducible exact ⟨x1, x2, x3, x4, x5, x6⟩)
          (first
            | (go_at_call 9; refine (SB.out _ _ _ K (AQh.out.keep ((Below.refl wh.heap.size wh).drew)) (AKh.out.keep ((Below.refl wh.heap.size wh).drew))).mono ?_; rintro r wi ⟨rfl, hb⟩; have BX : Hid (Below wh.heap.size wh wi) := bTrans ((Below.refl wh.heap.size wh).drew) hb; have z1 := (QQ.out.keep BX.out).c0; have z2 := (QQ.out.keep BX.out).c1; have z3 := (BX.out.cell (p := ⟨oM, fM + K * 2, none⟩) HLO.out).trans m3; have z4 := (BX.out.cell (p := ⟨oM, fM + K * 2 + 1, none⟩) HLO.out).trans m4; have z5 := (QNh.out.keep BX.out).c0; have z6 := (QGh.out.keep BX.out).c0; clear hb)
            | (go_at_call 15; refine (SI.out _ BX.out).mono ?_; rintro r wj ⟨rfl, hb⟩; have BY' : Hid (Below wh.heap.size wh wj) := bTrans BX.out hb; have x1 := (QQ.out.keep BY'.out).c0; have x2 := (QQ.out.keep BY'.out).c1; have x3 := (BY'.out.cell (p := ⟨oM, fM + K * 2, none⟩) HLO.out).trans m3; have x4 := (BY'.out.cell (p := ⟨oM, fM + K * 2 + 1, none⟩) HLO.out).trans m4; have x5 := (QNh.out.keep BY'.out).c0; have x6 := (QGh.out.keep BY'.out).c0; clear hb))
        go_wp2
        go_ret
        exact ⟨rfl, bTrans HTh.out BY'.out⟩
  · have n0 : (C != 0) = true := by simpa using hc
    have hl : ((D.length : Int) == 0) = true := by rw [FB.out hc]; rfl
    have hl2 : D.length = 0 := FB.out hc
    clear FC FB
    go_wp2
    go_ret
    exact ⟨rfl, bTrans HT3.out (bAlloc (Below.refl _ _) _)⟩

/-! ### THE ROW's STEP: WRITTEN OUT: LEAVE IT -/
set_option maxRecDepth 100000 in
theorem lifted (os : Os) (started : os.Started) (H : Type) (enc : TypeId × Value → H) :
    ReturnsInHanded {} Tryz.checked os 3 .any (Rows.fnScannedSpec.pre6 enc Tryz.prog Tryz.f3 Rows.fnScannedRow.domain false) (Rows.fnScannedSpec.post enc Tryz.prog Tryz.f3 false true false false) := by
  refine returnsInHanded_of_change (C := Tryz.checked) own started (by kernel_rfl) Tryz.func3
    (ChangeSpec.witness6 (enc := enc) (C := Tryz.checked) false ⟨#[], #[.slice none 0 0], []⟩ 8 (by kernel_rfl) (by kernel_rfl) (by kernel_rfl) (by kernel_rfl)) ?_
  intro W base args ds gs before hval0 hW hcnd _
  have hval : ∀ (j : Nat) t v, Tryz.f3.params[j]? = some t → args[j]? = some v → Value.okWide Tryz.prog W .any base t v := hval0
  have hW' := hW
  obtain ⟨p, q, hA0, hV, rfl, hfz, hnd⟩ := hW
  have hA : DataW.TrodAll enc Tryz.prog W 0 (fun _ => true) true Tryz.f3.params.toList args.toList ds p := hA0
  rw [Tryz.params3] at hA hval
  obtain ⟨v0, vs0, d0, ds0, p0, q0, hargs, rfl, rfl, h0, r0⟩ := trodAll_cons hA
  obtain ⟨rfl, rfl, rfl⟩ := trodAll_nil r0
  obtain rfl : args = #[v0] := by cases args; simp_all
  obtain ⟨rfl, rfl⟩ := trodVars_none hV
  obtain ⟨a0, len0, cap0, rfl⟩ := okWide_slice Tryz.underlying22 (hval 0 22 v0 rfl rfl)
  have k0 := h0
  have lt0 : ∀ x ∈ p0, x.block < W.heap.size := by obtain ⟨m, hm⟩ := k0; exact DataW.trod_lt m _ _ _ hm
  obtain ⟨z0, w0⟩ : ∃ zs, IsRow .u8 W a0 len0 cap0 zs := by
    obtain ⟨fuel, hf⟩ := h0
    rcases open_ints Tryz.underlying22 Tryz.underlying5 (by kernel_rfl) hf with ⟨hcs, _⟩ | ⟨x, l, c, zs, hcs, _, hl, hm, hz, _, hcell, hwz⟩
    · simp [Value.cells] at hcs
      obtain ⟨rfl, rfl, rfl⟩ := hcs
      exact ⟨[], .inl ⟨rfl, rfl, rfl, rfl⟩⟩
    · simp [Value.cells] at hcs
      obtain ⟨rfl, rfl, rfl⟩ := hcs
      exact ⟨zs, .inr ⟨_, rfl, hl, hm, by simpa using hz, hcell, hwz⟩⟩
  clear hA0 hval0
  refine (walk a0 len0 cap0 z0 W w0).mono fun e W' ⟨he, bel⟩ => ?_
  subst he
  exact ⟨_, rfl, _, _, _, [], _, [], hW', trodAll_mk1 (shut_bool Tryz.underlying4 _), (trodAll_cons_mk (Below.trod laidOut (by kernel_rfl) (of_decide_eq_true (by kernel_rfl)) k0 bel lt0) trodAll_mk0), rfl, bel.frame _, fun h => by cases h⟩

theorem over : Rows.fnScannedRow.holds Tryz.pinned (OpenSpec.ofChange Rows.fnScannedSpec) :=
  OpenClaim.holds_of_wide 3 Tryz.f3 rfl rfl rfl rfl rfl rfl rfl ⟨rfl, rfl, rfl, rfl, rfl⟩ rfl rfl rfl rfl rfl (by kernel_rfl) Tryz.func3 (by kernel_rfl)
    (of_decide_eq_true (by kernel_rfl)) (by unfold Func.isWrapper; first | (rw [if_pos (by decide +kernel)]; kernel_rfl) | (rw [if_neg (by decide +kernel)]; exact ⟨rfl, rfl⟩))
    (fun os started H enc _ => lifted os started H enc)

/-- ████ THE STATEMENT ████ -/
theorem proved : Rows.FnScannedSaid := over
end Go.Proofs.YtcpgdhffemecbaaGreat.fnScanned
namespace Go.Proofs.YtcpgdhffemecbaaGreat
theorem fnScanned_holds : Rows.FnScannedSaid := fnScanned.proved
#print axioms fnScanned_holds
end Go.Proofs.YtcpgdhffemecbaaGreat
