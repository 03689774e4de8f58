/-
  Walks: the program's reader: a function of two, or what stands by itself.
-/
import Derived.Test.YtnebjnglcfebeaaDoorParI5
import Derived.Test.YtnebjnglcfebeaaDoorParI6
import Derived.Deep.Cut
import Derived.RegionDies
namespace Go.Proofs.YtnebjnglcfebeaaDoor
open Go.RowKit
set_option linter.unusedVariables false
set_option linter.unusedSimpArgs false
set_option maxRecDepth 20000 in
set_option maxHeartbeats 8000000 in
theorem lineC_impl {a : Option Addr} {n c k : Nat} {T : Nat → Spn} {te : TypeId} {pe : Value} (IH : LineJ a n c T te pe k) (hn : n ≤ 300) {w : World} {ga p : Nat} (h : Rs a n T te pe w ga p) (hp : p ≤ n) (hk : n ≤ p + k) (e1 : ¬ (tkK n T p = 2 ∧ tkK n T (p + 1) = 6)) (e3 : tkK n T p ≠ 3) :
    Calls Tryd.prog 41 #[.agg #[.slice a n c, .pointer (some ⟨ga, 0, none⟩)]] w fun e w' => OutP a n T te pe w ga (lineP n T (k + 1) p) e w' := by
  have HI : Hid (LineJ a n c T te pe k) := IH
  have LG : Hid (ga < w.heap.size) := h.lts
  have Q0 : Hid (QR a n c T te pe w ga p (w.alloc (.cells #[.slice a n c, .pointer (some ⟨ga, 0, none⟩)] 51))) := QR.start h
  have S2 : Hid (∀ W, Rs a n T te pe W ga p → Calls Tryd.prog 61 #[.agg #[.slice a n c, .pointer (some ⟨ga, 0, none⟩)], .int .i64 2] W fun e w' => e = .returned (.bool (tkK n T p == 2)) ∧ Below W.heap.size W w') := fun W hW => sees_impl hW 2 (by omega) (by omega)
  have S3 : Hid (∀ W, Rs a n T te pe W ga p → Calls Tryd.prog 61 #[.agg #[.slice a n c, .pointer (some ⟨ga, 0, none⟩)], .int .i64 3] W fun e w' => e = .returned (.bool (tkK n T p == 3)) ∧ Below W.heap.size W w') := fun W hW => sees_impl hW 3 (by omega) (by omega)
  have A1 : Hid (∀ W, Rs a n T te pe W ga p → Calls Tryd.prog 62 #[.agg #[.slice a n c, .pointer (some ⟨ga, 0, none⟩)], .int .i64 1] W fun e w' => e = .returned (.agg #[.int .i64 (tkK n T (p + 1)), .int .i64 (tkN n T (p + 1))]) ∧ Below W.heap.size W w') := fun W hW => ahead_impl hW 1 (by omega) (by omega) (by decide)
  have fl0 := fld0
  clear h IH
  have b3 : (tkK n T p == 3) = false := by simpa using e3
  have HZ : Hid ((tkK n T p == 2) = false ∨ ((tkK n T p == 2) = true ∧ (tkK n T (p + 1) == 6) = false)) := by show _ ∨ _; simp; omega
  have EX : Hid (lineP n T (k + 1) p = match operP n T (fun q => lineP n T k q) p with
      | none => none
      | some x => if tkK n T x.2 = 3 then (if funTwoB (funP n T x.2).1.1 (funP n T x.2).1.2.1 (funP n T x.2).1.2.2 = true then (match lineP n T k (funP n T x.2).2 with
          | none => none
          | some y => some (.two (funP n T x.2).1.1 (funP n T x.2).1.2.1 (funP n T x.2).1.2.2 x.1 y.1, y.2)) else none)
        else some x) := by show _ = _; rw [lineP, if_neg e1, if_neg e3]; rfl
  have OPI : Hid (∀ W, Rs a n T te pe W ga p → Calls Tryd.prog 66 #[.agg #[.slice a n c, .pointer (some ⟨ga, 0, none⟩)]] W fun e w' => OutP a n T te pe W ga (operP n T (fun q => lineP n T k q) p) e w') := fun W hW => operand_impl HI.out hn hW hp hk
  have OF : Hid (Fine n p (operP n T (fun q => lineP n T k q) p)) := operP_fine (lineP_fine k (p + 1))
  clear e1 e3
  cases ho : operP n T (fun q => lineP n T k q) p with
  | none =>
    rw [ho] at OPI EX
    rw [EX.out]
    clear EX ho OF HI
    go_enter Tryd.func41, Tryd.ntmps41
    go_upto_region 1 with fail
    go_cut [7] from 8 (fun q V => q = .bool false ∧ QR a n c T te pe w ga p V)
    case first =>
      have x0 := Q0.out.x0
      have x1 := Q0.out.x1
      rcases HZ.out with e2 | ⟨e2, e6⟩
      · rw [e2] at S2
        go_wp2_with fail
        refine (S2.out _ Q0.out.rs).mono ?_
        rintro r w1 ⟨rfl, hb⟩
        have Q1 : Hid (QR a n c T te pe w ga p w1) := Q0.out.keep LG.out hb
        clear hb
        go_wp2_with fail
        go_meet
        case rel => exact ⟨rfl, Q1.out⟩
      · rw [e2] at S2
        go_wp2_with fail
        refine (S2.out _ Q0.out.rs).mono ?_
        rintro r w1 ⟨rfl, hb⟩
        have Q1 : Hid (QR a n c T te pe w ga p w1) := Q0.out.keep LG.out hb
        clear hb x0 x1
        have x0 := Q1.out.x0
        have x1 := Q1.out.x1
        go_wp2_with fail
        refine (A1.out _ Q1.out.rs).mono ?_
        rintro r w2 ⟨rfl, hb⟩
        have Q2 : Hid (QR a n c T te pe w ga p w2) := Q1.out.keep LG.out hb
        clear hb
        go_wp2_with fail
        go_meet
        case rel => exact ⟨rfl, Q2.out⟩
    obtain ⟨w2, hwc⟩ : ∃ x, x = wc := ⟨_, rfl⟩
    subst hwc
    obtain ⟨rfl, hQ⟩ := hcut
    have Q2 : Hid (QR a n c T te pe w ga p w2) := hQ
    clear hQ Q0 S2 A1 HZ
    have x0 := Q2.out.x0
    have x1 := Q2.out.x1
    go_wp2_with fail
    refine (S3.out _ Q2.out.rs).mono ?_
    rintro r w3 ⟨rfl, hb⟩
    have Q3 : Hid (QR a n c T te pe w ga p w3) := Q2.out.keep LG.out hb
    clear hb
    clear x0 x1 S3 Q2
    have x0 := Q3.out.x0
    have x1 := Q3.out.x1
    go_wp2_with fail
    refine (OPI.out _ Q3.out.rs).mono ?_
    rintro r w4 ⟨rfl, hb⟩
    have B4 : Hid (Below ga w w4) := (Q3.out.chg.lo LG.out).trans hb
    clear hb Q3 OPI x0 x1
    unfold Pan
    go_wp2
    exact ⟨rfl, rfl, B4.out⟩
  | some y =>
    obtain ⟨l1, q⟩ := y
    rw [ho] at OPI EX
    have YF : Hid (p < q ∧ q ≤ n ∧ l1.size + p ≤ q) := OF.out _ ho
    simp only at EX
    clear ho OF
    have SQ : Hid (∀ W, Rs a n T te pe W ga q → Calls Tryd.prog 61 #[.agg #[.slice a n c, .pointer (some ⟨ga, 0, none⟩)], .int .i64 3] W fun e w' => e = .returned (.bool (tkK n T q == 3)) ∧ Below W.heap.size W w') := fun W hW => by have := YF.out; exact sees_impl hW 3 (by omega) (by omega)
    by_cases e5 : tkK n T q = 3
    · have b5 : (tkK n T q == 3) = true := by simp [e5]
      rw [if_pos e5] at EX
      have hfq := funP_in (n := n) (T := T) e5
      have FC : Hid (∀ W, Rs a n T te pe W ga q → Calls Tryd.prog 64 #[.agg #[.slice a n c, .pointer (some ⟨ga, 0, none⟩)]] W fun e w' => e = .returned (.agg #[.int .i64 (funP n T q).1.1, .int .i64 (funP n T q).1.2.1, .int .i64 (funP n T q).1.2.2]) ∧ Rs a n T te pe w' ga (funP n T q).2 ∧ Chg ga (.slice none 0 0) W w') := fun W hW => function_impl hW e5 (by omega)
      obtain ⟨⟨⟨s0, o0, h0⟩, q0⟩, hfp⟩ : ∃ x, x = funP n T q := ⟨_, rfl⟩
      rw [← hfp] at hfq EX FC
      simp only at hfq EX FC
      clear hfp e5
      have FO : Hid (∀ W, Calls Tryd.prog 67 #[.agg #[.int .i64 s0, .int .i64 o0, .int .i64 h0]] W fun e w' => e = .returned (.bool (funTwoB s0 o0 h0)) ∧ Below W.heap.size W w') := fun W => funTwo_impl s0 o0 h0 W
      have CL : Hid (∀ W, Rs a n T te pe W ga q0 → Calls Tryd.prog 41 #[.agg #[.slice a n c, .pointer (some ⟨ga, 0, none⟩)]] W fun e w' => OutP a n T te pe W ga (lineP n T k q0) e w') := fun W hW => by have := YF.out; exact HI.out W ga q0 hW (by omega) (by omega)
      clear HI
      cases hf1 : funTwoB s0 o0 h0
      · rw [hf1] at FO
        rw [EX.out, hf1, if_neg (by decide)]
        clear EX hf1 CL
        go_enter Tryd.func41, Tryd.ntmps41
        go_upto_region 1 with fail
        go_cut [7] from 8 (fun q V => q = .bool false ∧ QR a n c T te pe w ga p V)
        case first =>
          have x0 := Q0.out.x0
          have x1 := Q0.out.x1
          rcases HZ.out with e2 | ⟨e2, e6⟩
          · rw [e2] at S2
            go_wp2_with fail
            refine (S2.out _ Q0.out.rs).mono ?_
            rintro r w1 ⟨rfl, hb⟩
            have Q1 : Hid (QR a n c T te pe w ga p w1) := Q0.out.keep LG.out hb
            clear hb
            go_wp2_with fail
            go_meet
            case rel => exact ⟨rfl, Q1.out⟩
          · rw [e2] at S2
            go_wp2_with fail
            refine (S2.out _ Q0.out.rs).mono ?_
            rintro r w1 ⟨rfl, hb⟩
            have Q1 : Hid (QR a n c T te pe w ga p w1) := Q0.out.keep LG.out hb
            clear hb x0 x1
            have x0 := Q1.out.x0
            have x1 := Q1.out.x1
            go_wp2_with fail
            refine (A1.out _ Q1.out.rs).mono ?_
            rintro r w2 ⟨rfl, hb⟩
            have Q2 : Hid (QR a n c T te pe w ga p w2) := Q1.out.keep LG.out hb
            clear hb
            go_wp2_with fail
            go_meet
            case rel => exact ⟨rfl, Q2.out⟩
        obtain ⟨w2, hwc⟩ : ∃ x, x = wc := ⟨_, rfl⟩
        subst hwc
        obtain ⟨rfl, hQ⟩ := hcut
        have Q2 : Hid (QR a n c T te pe w ga p w2) := hQ
        clear hQ Q0 S2 A1 HZ
        have x0 := Q2.out.x0
        have x1 := Q2.out.x1
        go_wp2_with fail
        refine (S3.out _ Q2.out.rs).mono ?_
        rintro r w3 ⟨rfl, hb⟩
        have Q3 : Hid (QR a n c T te pe w ga p w3) := Q2.out.keep LG.out hb
        clear hb
        clear x0 x1 S3 Q2
        have x0 := Q3.out.x0
        have x1 := Q3.out.x1
        go_wp2_with fail
        refine (OPI.out _ Q3.out.rs).mono ?_
        rintro r w3a ⟨gl, rfl, hB, hR, hC⟩
        have Q3a : Hid (QR a n c T te pe w ga q w3a) := Q3.out.go LG.out hR hC
        have L3a : Hid (BrAt w3a l1 w.heap.size w3a.heap.size gl) := hB.mono Q3.out.chg.size (Nat.le_refl _)
        clear hB hR hC Q3 x0 x1 OPI
        have x0 := Q3a.out.x0
        have x1 := Q3a.out.x1
        go_wp2_with fail
        refine (SQ.out _ Q3a.out.rs).mono ?_
        rintro r w3b ⟨rfl, hb⟩
        have Q3b : Hid (QR a n c T te pe w ga q w3b) := Q3a.out.keep LG.out hb
        have L3b : Hid (BrAt w3b l1 w.heap.size w3b.heap.size gl) := (L3a.out.same fun j h1 h2 => hb.block j h2).mono (Nat.le_refl _) hb.size
        clear hb Q3a L3a x0 x1 SQ
        have x0 := Q3b.out.x0
        have x1 := Q3b.out.x1
        go_wp2_with fail
        refine (FC.out _ Q3b.out.rs).mono ?_
        rintro r w4 ⟨rfl, hR, hC⟩
        obtain ⟨W5, hW5⟩ : ∃ W5, W5 = w4.alloc (.cells #[.int .i64 s0, .int .i64 o0, .int .i64 h0] 64) := ⟨_, rfl⟩
        have Q4 := Q3b.out.go LG.out hR hC
        have F5 : Hid (QF a n c T te pe w ga q0 w4.heap.size s0 o0 h0 W5) := ⟨by rw [hW5]; exact Q4.keep LG.out (bAlloc (Below.refl _ _) _), by rw [hW5]; exact heap_alloc_new _ _, lt_of_heapA Q4.box⟩
        have L5 : Hid (BrAt W5 l1 w.heap.size W5.heap.size gl) := by
          have hh := hC.on (Chg.of (bAlloc (Below.refl w4.heap.size w4) (.cells #[.int .i64 s0, .int .i64 o0, .int .i64 h0] 64)))
          rw [← hW5] at hh
          exact (L3b.out.same fun j h1 h2 => hh.block j h2 (by have := LG.out; omega) (nilv _)).mono (Nat.le_refl _) hh.size
        have W5e : Hid (W5 = w4.alloc (.cells #[.int .i64 s0, .int .i64 o0, .int .i64 h0] 64)) := hW5
        clear hR hC Q4 hW5 x0 x1 FC
        go_wp2_with fail
        try rw [← W5e.out]
        refine (FO.out _).mono ?_
        rintro r w6 ⟨rfl, hb⟩
        have F6 : Hid (QF a n c T te pe w ga q0 w4.heap.size s0 o0 h0 w6) := F5.out.keep LG.out hb
        have L6 : Hid (BrAt w6 l1 w.heap.size w6.heap.size gl) := (L5.out.same fun j h1 h2 => hb.block j h2).mono (Nat.le_refl _) hb.size
        clear L5 L3b
        clear hb F5 W5e FO
        go_wp2_with fail
        refine (must_false F6.out.qr.rs.err).mono ?_
        rintro r w' ⟨rfl, hw⟩
        subst w'
        unfold Pan
        go_wp2
        exact ⟨rfl, rfl, F6.out.qr.chg.lo LG.out⟩
      · rw [hf1] at FO EX
        rw [if_pos rfl] at EX
        clear hf1
        cases hx : lineP n T k q0 with
        | none =>
          rw [hx] at EX CL
          rw [EX.out]
          clear EX hx
          go_enter Tryd.func41, Tryd.ntmps41
          go_upto_region 1 with fail
          go_cut [7] from 8 (fun q V => q = .bool false ∧ QR a n c T te pe w ga p V)
          case first =>
            have x0 := Q0.out.x0
            have x1 := Q0.out.x1
            rcases HZ.out with e2 | ⟨e2, e6⟩
            · rw [e2] at S2
              go_wp2_with fail
              refine (S2.out _ Q0.out.rs).mono ?_
              rintro r w1 ⟨rfl, hb⟩
              have Q1 : Hid (QR a n c T te pe w ga p w1) := Q0.out.keep LG.out hb
              clear hb
              go_wp2_with fail
              go_meet
              case rel => exact ⟨rfl, Q1.out⟩
            · rw [e2] at S2
              go_wp2_with fail
              refine (S2.out _ Q0.out.rs).mono ?_
              rintro r w1 ⟨rfl, hb⟩
              have Q1 : Hid (QR a n c T te pe w ga p w1) := Q0.out.keep LG.out hb
              clear hb x0 x1
              have x0 := Q1.out.x0
              have x1 := Q1.out.x1
              go_wp2_with fail
              refine (A1.out _ Q1.out.rs).mono ?_
              rintro r w2 ⟨rfl, hb⟩
              have Q2 : Hid (QR a n c T te pe w ga p w2) := Q1.out.keep LG.out hb
              clear hb
              go_wp2_with fail
              go_meet
              case rel => exact ⟨rfl, Q2.out⟩
          obtain ⟨w2, hwc⟩ : ∃ x, x = wc := ⟨_, rfl⟩
          subst hwc
          obtain ⟨rfl, hQ⟩ := hcut
          have Q2 : Hid (QR a n c T te pe w ga p w2) := hQ
          clear hQ Q0 S2 A1 HZ
          have x0 := Q2.out.x0
          have x1 := Q2.out.x1
          go_wp2_with fail
          refine (S3.out _ Q2.out.rs).mono ?_
          rintro r w3 ⟨rfl, hb⟩
          have Q3 : Hid (QR a n c T te pe w ga p w3) := Q2.out.keep LG.out hb
          clear hb
          clear x0 x1 S3 Q2
          have x0 := Q3.out.x0
          have x1 := Q3.out.x1
          go_wp2_with fail
          refine (OPI.out _ Q3.out.rs).mono ?_
          rintro r w3a ⟨gl, rfl, hB, hR, hC⟩
          have Q3a : Hid (QR a n c T te pe w ga q w3a) := Q3.out.go LG.out hR hC
          have L3a : Hid (BrAt w3a l1 w.heap.size w3a.heap.size gl) := hB.mono Q3.out.chg.size (Nat.le_refl _)
          clear hB hR hC Q3 x0 x1 OPI
          have x0 := Q3a.out.x0
          have x1 := Q3a.out.x1
          go_wp2_with fail
          refine (SQ.out _ Q3a.out.rs).mono ?_
          rintro r w3b ⟨rfl, hb⟩
          have Q3b : Hid (QR a n c T te pe w ga q w3b) := Q3a.out.keep LG.out hb
          have L3b : Hid (BrAt w3b l1 w.heap.size w3b.heap.size gl) := (L3a.out.same fun j h1 h2 => hb.block j h2).mono (Nat.le_refl _) hb.size
          clear hb Q3a L3a x0 x1 SQ
          have x0 := Q3b.out.x0
          have x1 := Q3b.out.x1
          go_wp2_with fail
          refine (FC.out _ Q3b.out.rs).mono ?_
          rintro r w4 ⟨rfl, hR, hC⟩
          obtain ⟨W5, hW5⟩ : ∃ W5, W5 = w4.alloc (.cells #[.int .i64 s0, .int .i64 o0, .int .i64 h0] 64) := ⟨_, rfl⟩
          have Q4 := Q3b.out.go LG.out hR hC
          have F5 : Hid (QF a n c T te pe w ga q0 w4.heap.size s0 o0 h0 W5) := ⟨by rw [hW5]; exact Q4.keep LG.out (bAlloc (Below.refl _ _) _), by rw [hW5]; exact heap_alloc_new _ _, lt_of_heapA Q4.box⟩
          have L5 : Hid (BrAt W5 l1 w.heap.size W5.heap.size gl) := by
            have hh := hC.on (Chg.of (bAlloc (Below.refl w4.heap.size w4) (.cells #[.int .i64 s0, .int .i64 o0, .int .i64 h0] 64)))
            rw [← hW5] at hh
            exact (L3b.out.same fun j h1 h2 => hh.block j h2 (by have := LG.out; omega) (nilv _)).mono (Nat.le_refl _) hh.size
          have W5e : Hid (W5 = w4.alloc (.cells #[.int .i64 s0, .int .i64 o0, .int .i64 h0] 64)) := hW5
          clear hR hC Q4 hW5 x0 x1 FC
          go_wp2_with fail
          try rw [← W5e.out]
          refine (FO.out _).mono ?_
          rintro r w6 ⟨rfl, hb⟩
          have F6 : Hid (QF a n c T te pe w ga q0 w4.heap.size s0 o0 h0 w6) := F5.out.keep LG.out hb
          have L6 : Hid (BrAt w6 l1 w.heap.size w6.heap.size gl) := (L5.out.same fun j h1 h2 => hb.block j h2).mono (Nat.le_refl _) hb.size
          clear L5 L3b
          clear hb F5 W5e FO
          go_wp2_with fail
          refine (must_true _).mono ?_
          rintro r w' ⟨rfl, hw⟩
          subst w'
          have x0 := F6.out.qr.x0
          have x1 := F6.out.qr.x1
          have z0 := cell_at (k := 0) F6.out.fn rfl
          have z1 := cell_at (k := 1) F6.out.fn rfl
          have z2 := cell_at (k := 2) F6.out.fn rfl
          go_wp2_with fail
          go_region_dies
          all_goals
            refine (CL.out _ (by first | exact F6.out.qr.rs | exact F6.out.qr.rs.keep ((Below.refl _ _).drew))).mono ?_
            rintro r w7 ⟨rfl, hb⟩
            have B7 : Below ga w w7 := (F6.out.qr.chg.lo LG.out).trans (by first | exact hb | exact Below.trans ((Below.refl _ _).drew) hb)
            unfold Pan
            exact And.intro rfl (And.intro rfl B7)
        | some y =>
          obtain ⟨r1, q2⟩ := y
          rw [hx] at EX CL
          simp only at EX
          rw [EX.out]
          clear EX hx
          go_enter Tryd.func41, Tryd.ntmps41
          go_upto_region 1 with fail
          go_cut [7] from 8 (fun q V => q = .bool false ∧ QR a n c T te pe w ga p V)
          case first =>
            have x0 := Q0.out.x0
            have x1 := Q0.out.x1
            rcases HZ.out with e2 | ⟨e2, e6⟩
            · rw [e2] at S2
              go_wp2_with fail
              refine (S2.out _ Q0.out.rs).mono ?_
              rintro r w1 ⟨rfl, hb⟩
              have Q1 : Hid (QR a n c T te pe w ga p w1) := Q0.out.keep LG.out hb
              clear hb
              go_wp2_with fail
              go_meet
              case rel => exact ⟨rfl, Q1.out⟩
            · rw [e2] at S2
              go_wp2_with fail
              refine (S2.out _ Q0.out.rs).mono ?_
              rintro r w1 ⟨rfl, hb⟩
              have Q1 : Hid (QR a n c T te pe w ga p w1) := Q0.out.keep LG.out hb
              clear hb x0 x1
              have x0 := Q1.out.x0
              have x1 := Q1.out.x1
              go_wp2_with fail
              refine (A1.out _ Q1.out.rs).mono ?_
              rintro r w2 ⟨rfl, hb⟩
              have Q2 : Hid (QR a n c T te pe w ga p w2) := Q1.out.keep LG.out hb
              clear hb
              go_wp2_with fail
              go_meet
              case rel => exact ⟨rfl, Q2.out⟩
          obtain ⟨w2, hwc⟩ : ∃ x, x = wc := ⟨_, rfl⟩
          subst hwc
          obtain ⟨rfl, hQ⟩ := hcut
          have Q2 : Hid (QR a n c T te pe w ga p w2) := hQ
          clear hQ Q0 S2 A1 HZ
          have x0 := Q2.out.x0
          have x1 := Q2.out.x1
          go_wp2_with fail
          refine (S3.out _ Q2.out.rs).mono ?_
          rintro r w3 ⟨rfl, hb⟩
          have Q3 : Hid (QR a n c T te pe w ga p w3) := Q2.out.keep LG.out hb
          clear hb
          clear x0 x1 S3 Q2
          have x0 := Q3.out.x0
          have x1 := Q3.out.x1
          go_wp2_with fail
          refine (OPI.out _ Q3.out.rs).mono ?_
          rintro r w3a ⟨gl, rfl, hB, hR, hC⟩
          have Q3a : Hid (QR a n c T te pe w ga q w3a) := Q3.out.go LG.out hR hC
          have L3a : Hid (BrAt w3a l1 w.heap.size w3a.heap.size gl) := hB.mono Q3.out.chg.size (Nat.le_refl _)
          clear hB hR hC Q3 x0 x1 OPI
          have x0 := Q3a.out.x0
          have x1 := Q3a.out.x1
          go_wp2_with fail
          refine (SQ.out _ Q3a.out.rs).mono ?_
          rintro r w3b ⟨rfl, hb⟩
          have Q3b : Hid (QR a n c T te pe w ga q w3b) := Q3a.out.keep LG.out hb
          have L3b : Hid (BrAt w3b l1 w.heap.size w3b.heap.size gl) := (L3a.out.same fun j h1 h2 => hb.block j h2).mono (Nat.le_refl _) hb.size
          clear hb Q3a L3a x0 x1 SQ
          have x0 := Q3b.out.x0
          have x1 := Q3b.out.x1
          go_wp2_with fail
          refine (FC.out _ Q3b.out.rs).mono ?_
          rintro r w4 ⟨rfl, hR, hC⟩
          obtain ⟨W5, hW5⟩ : ∃ W5, W5 = w4.alloc (.cells #[.int .i64 s0, .int .i64 o0, .int .i64 h0] 64) := ⟨_, rfl⟩
          have Q4 := Q3b.out.go LG.out hR hC
          have F5 : Hid (QF a n c T te pe w ga q0 w4.heap.size s0 o0 h0 W5) := ⟨by rw [hW5]; exact Q4.keep LG.out (bAlloc (Below.refl _ _) _), by rw [hW5]; exact heap_alloc_new _ _, lt_of_heapA Q4.box⟩
          have L5 : Hid (BrAt W5 l1 w.heap.size W5.heap.size gl) := by
            have hh := hC.on (Chg.of (bAlloc (Below.refl w4.heap.size w4) (.cells #[.int .i64 s0, .int .i64 o0, .int .i64 h0] 64)))
            rw [← hW5] at hh
            exact (L3b.out.same fun j h1 h2 => hh.block j h2 (by have := LG.out; omega) (nilv _)).mono (Nat.le_refl _) hh.size
          have W5e : Hid (W5 = w4.alloc (.cells #[.int .i64 s0, .int .i64 o0, .int .i64 h0] 64)) := hW5
          clear hR hC Q4 hW5 x0 x1 FC
          go_wp2_with fail
          try rw [← W5e.out]
          refine (FO.out _).mono ?_
          rintro r w6 ⟨rfl, hb⟩
          have F6 : Hid (QF a n c T te pe w ga q0 w4.heap.size s0 o0 h0 w6) := F5.out.keep LG.out hb
          have L6 : Hid (BrAt w6 l1 w.heap.size w6.heap.size gl) := (L5.out.same fun j h1 h2 => hb.block j h2).mono (Nat.le_refl _) hb.size
          clear L5 L3b
          clear hb F5 W5e FO
          go_wp2_with fail
          refine (must_true _).mono ?_
          rintro r w' ⟨rfl, hw⟩
          subst w'
          have x0 := F6.out.qr.x0
          have x1 := F6.out.qr.x1
          have z0 := cell_at (k := 0) F6.out.fn rfl
          have z1 := cell_at (k := 1) F6.out.fn rfl
          have z2 := cell_at (k := 2) F6.out.fn rfl
          have AFT : Hid (∀ V w7 g7, Below w6.heap.size w6 V → BrAt w7 r1 V.heap.size w7.heap.size g7 → Rs a n T te pe w7 ga q2 → Chg ga (.slice none 0 0) V w7 → QF a n c T te pe w ga q2 w4.heap.size s0 o0 h0 w7 ∧ BrAt w7 r1 w6.heap.size w7.heap.size g7 ∧ BrAt w7 l1 w.heap.size w6.heap.size gl) := fun V w7 g7 hb hB hR hC => ⟨(F6.out.keep LG.out hb).go LG.out hR hC, hB.mono hb.size (Nat.le_refl _), L6.out.same fun j h1 h2 => by rw [hC.block j (by have := hb.size; omega) (by have := LG.out; omega) (nilv _), hb.block j h2]⟩
          have Z6 : Hid (w.heap.size ≤ w6.heap.size) := F6.out.qr.chg.size
          go_wp2_with fail
          go_region_law (go_simp; go_at_call 41; refine (CL.out _ (by first | exact F6.out.qr.rs | exact F6.out.qr.rs.keep ((Below.refl _ _).drew))).mono ?_; rintro r w7 ⟨g7, rfl, hB, hR, hC⟩; have F7 := AFT.out _ _ _ (by first | exact Below.refl _ _ | exact (Below.refl _ _).drew) hB hR hC; have Z7 : Hid (w6.heap.size ≤ w7.heap.size) := hC.size; have F7 : Hid _ := F7; clear hB hR hC; have z0 := cell_at (k := 0) F7.out.1.fn rfl; have z1 := cell_at (k := 1) F7.out.1.fn rfl; have z2 := cell_at (k := 2) F7.out.1.fn rfl; go_simp)
          all_goals
            go_wp2
            go_ret
            have hz := F7.out.1.qr.chg.size
            have hz6 := Z6.out
            have hz7 := Z7.out
            exact ⟨w7.heap.size, rfl, ⟨hz, by simp, gl, g7, w6.heap.size, hz6, by simp; omega, heap_alloc_new w7 _, F7.out.2.2.same (fun j h1 h2 => (bAlloc (Below.refl w7.heap.size w7) _).block j (by omega)), (F7.out.2.1.same fun j h1 h2 => (bAlloc (Below.refl w7.heap.size w7) _).block j h2).mono (Nat.le_refl _) (by simp)⟩, F7.out.1.qr.rs.keep (bAlloc (Below.refl _ _) _), F7.out.1.qr.chg.on (Chg.of (bAlloc (Below.refl _ _) _))⟩
    · have b5 : (tkK n T q == 3) = false := by simpa using e5
      rw [if_neg e5] at EX
      rw [EX.out]
      clear EX e5 HI
      go_enter Tryd.func41, Tryd.ntmps41
      go_upto_region 1 with fail
      go_cut [7] from 8 (fun q V => q = .bool false ∧ QR a n c T te pe w ga p V)
      case first =>
        have x0 := Q0.out.x0
        have x1 := Q0.out.x1
        rcases HZ.out with e2 | ⟨e2, e6⟩
        · rw [e2] at S2
          go_wp2_with fail
          refine (S2.out _ Q0.out.rs).mono ?_
          rintro r w1 ⟨rfl, hb⟩
          have Q1 : Hid (QR a n c T te pe w ga p w1) := Q0.out.keep LG.out hb
          clear hb
          go_wp2_with fail
          go_meet
          case rel => exact ⟨rfl, Q1.out⟩
        · rw [e2] at S2
          go_wp2_with fail
          refine (S2.out _ Q0.out.rs).mono ?_
          rintro r w1 ⟨rfl, hb⟩
          have Q1 : Hid (QR a n c T te pe w ga p w1) := Q0.out.keep LG.out hb
          clear hb x0 x1
          have x0 := Q1.out.x0
          have x1 := Q1.out.x1
          go_wp2_with fail
          refine (A1.out _ Q1.out.rs).mono ?_
          rintro r w2 ⟨rfl, hb⟩
          have Q2 : Hid (QR a n c T te pe w ga p w2) := Q1.out.keep LG.out hb
          clear hb
          go_wp2_with fail
          go_meet
          case rel => exact ⟨rfl, Q2.out⟩
      obtain ⟨w2, hwc⟩ : ∃ x, x = wc := ⟨_, rfl⟩
      subst hwc
      obtain ⟨rfl, hQ⟩ := hcut
      have Q2 : Hid (QR a n c T te pe w ga p w2) := hQ
      clear hQ Q0 S2 A1 HZ
      have x0 := Q2.out.x0
      have x1 := Q2.out.x1
      go_wp2_with fail
      refine (S3.out _ Q2.out.rs).mono ?_
      rintro r w3 ⟨rfl, hb⟩
      have Q3 : Hid (QR a n c T te pe w ga p w3) := Q2.out.keep LG.out hb
      clear hb
      clear x0 x1 S3 Q2
      have x0 := Q3.out.x0
      have x1 := Q3.out.x1
      go_wp2_with fail
      refine (OPI.out _ Q3.out.rs).mono ?_
      rintro r w3a ⟨gl, rfl, hB, hR, hC⟩
      have Q3a : Hid (QR a n c T te pe w ga q w3a) := Q3.out.go LG.out hR hC
      have L3a : Hid (BrAt w3a l1 w.heap.size w3a.heap.size gl) := hB.mono Q3.out.chg.size (Nat.le_refl _)
      clear hB hR hC Q3 x0 x1 OPI
      have x0 := Q3a.out.x0
      have x1 := Q3a.out.x1
      go_wp2_with fail
      refine (SQ.out _ Q3a.out.rs).mono ?_
      rintro r w3b ⟨rfl, hb⟩
      have Q3b : Hid (QR a n c T te pe w ga q w3b) := Q3a.out.keep LG.out hb
      have L3b : Hid (BrAt w3b l1 w.heap.size w3b.heap.size gl) := (L3a.out.same fun j h1 h2 => hb.block j h2).mono (Nat.le_refl _) hb.size
      clear hb Q3a L3a x0 x1 SQ
      have x0 := Q3b.out.x0
      have x1 := Q3b.out.x1
      go_wp2
      go_ret
      exact ⟨_, rfl, L3b.out, Q3b.out.rs, Q3b.out.chg⟩
/-- line. -/
theorem line_impl {a : Option Addr} {n c : Nat} {T : Nat → Spn} {te : TypeId} {pe : Value} (hn : n ≤ 300) : ∀ k, LineJ a n c T te pe k
  | 0 => fun W ga p _ hp hk => by omega
  | k + 1 => fun W ga p h hp hk => by
    by_cases e1 : tkK n T p = 2 ∧ tkK n T (p + 1) = 6
    · exact lineA_impl (line_impl hn k) hn h hp (by omega) e1.1 e1.2
    · by_cases e3 : tkK n T p = 3
      · exact lineB_impl (line_impl hn k) hn h hp (by omega) e3
      · exact lineC_impl (line_impl hn k) hn h hp (by omega) e1 e3
end Go.Proofs.YtnebjnglcfebeaaDoor
