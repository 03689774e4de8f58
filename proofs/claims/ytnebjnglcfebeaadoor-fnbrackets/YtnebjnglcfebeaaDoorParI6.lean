/-
  Walks: the program's reader: a function of one.
-/
import Derived.Test.YtnebjnglcfebeaaDoorParI4
import Derived.Deep.Cut
import Derived.RegionDies
namespace Go.Proofs.YtnebjnglcfebeaaDoor
open Go.RowKit
set_option linter.unusedVariables false
set_option linter.unusedSimpArgs false
/-- A function of one, or of two, in a box beside. -/
structure QF (a : Option Addr) (n c : Nat) (T : Nat → Spn) (te : TypeId) (pe : Value) (w : World) (ga q gf : Nat) (s o h : Int) (V : World) : Prop where
  qr : QR a n c T te pe w ga q V
  fn : V.heap[gf]? = some (.cells #[.int .i64 s, .int .i64 o, .int .i64 h] 64 (0, 0))
  lo : w.heap.size < gf
theorem QF.go {a : Option Addr} {n c : Nat} {T : Nat → Spn} {te : TypeId} {pe : Value} {w V V' : World} {ga q q' gf : Nat} {s o h : Int} (k : QF a n c T te pe w ga q gf s o h V) (hl : ga < w.heap.size) (hR : Rs a n T te pe V' ga q') (hC : Chg ga (.slice none 0 0) V V') : QF a n c T te pe w ga q' gf s o h V' :=
  ⟨k.qr.go hl hR hC, by rw [hC.block _ (lt_of_heapA k.fn) (by have := k.lo; omega) (nilv _)]; exact k.fn, k.lo⟩
theorem QF.keep {a : Option Addr} {n c : Nat} {T : Nat → Spn} {te : TypeId} {pe : Value} {w V V' : World} {ga q gf : Nat} {s o h : Int} (k : QF a n c T te pe w ga q gf s o h V) (hl : ga < w.heap.size) (hb : Below V.heap.size V V') : QF a n c T te pe w ga q gf s o h V' := k.go hl (k.qr.rs.keep hb) (Chg.of hb)
set_option maxRecDepth 20000 in
set_option maxHeartbeats 8000000 in
theorem lineB_impl {a : Option Addr} {n c k : Nat} {T : Nat → Spn} {te : TypeId} {pe : Value} (IH : LineJ a n c T te pe k) (hn : n ≤ 300) {w : World} {ga p : Nat} (h : Rs a n T te pe w ga p) (hp : p ≤ n) (hk : n ≤ p + k) (e1 : tkK n T p = 3) :
    Calls Tryd.prog 41 #[.agg #[.slice a n c, .pointer (some ⟨ga, 0, none⟩)]] w fun e w' => OutP a n T te pe w ga (lineP n T (k + 1) p) e w' := by
  have HI : Hid (LineJ a n c T te pe k) := IH
  have LG : Hid (ga < w.heap.size) := h.lts
  have Q0 : Hid (QR a n c T te pe w ga p (w.alloc (.cells #[.slice a n c, .pointer (some ⟨ga, 0, none⟩)] 51))) := QR.start h
  have S2 : Hid (∀ W, Rs a n T te pe W ga p → Calls Tryd.prog 61 #[.agg #[.slice a n c, .pointer (some ⟨ga, 0, none⟩)], .int .i64 2] W fun e w' => e = .returned (.bool (tkK n T p == 2)) ∧ Below W.heap.size W w') := fun W hW => sees_impl hW 2 (by omega) (by omega)
  have S3 : Hid (∀ W, Rs a n T te pe W ga p → Calls Tryd.prog 61 #[.agg #[.slice a n c, .pointer (some ⟨ga, 0, none⟩)], .int .i64 3] W fun e w' => e = .returned (.bool (tkK n T p == 3)) ∧ Below W.heap.size W w') := fun W hW => sees_impl hW 3 (by omega) (by omega)
  have A1 : Hid (∀ W, Rs a n T te pe W ga p → Calls Tryd.prog 62 #[.agg #[.slice a n c, .pointer (some ⟨ga, 0, none⟩)], .int .i64 1] W fun e w' => e = .returned (.agg #[.int .i64 (tkK n T (p + 1)), .int .i64 (tkN n T (p + 1))]) ∧ Below W.heap.size W w') := fun W hW => ahead_impl hW 1 (by omega) (by omega) (by decide)
  have fl0 := fld0
  clear h IH
  have hf := funP_in (n := n) (T := T) e1
  have b3 : (tkK n T p == 3) = true := by simp [e1]
  have HZ : Hid ((tkK n T p == 2) = false ∨ ((tkK n T p == 2) = true ∧ (tkK n T (p + 1) == 6) = false)) := by show _ ∨ _; simp; omega
  have EX : Hid (lineP n T (k + 1) p = if funOneB (funP n T p).1.1 (funP n T p).1.2.1 (funP n T p).1.2.2 = true then (match lineP n T k (funP n T p).2 with
      | none => none
      | some x => some (.one (funP n T p).1.1 (funP n T p).1.2.1 (funP n T p).1.2.2 x.1, x.2)) else none) := by show _ = _; rw [lineP, if_neg (by omega), if_pos e1]; rfl
  have FC : Hid (∀ W, Rs a n T te pe W ga p → Calls Tryd.prog 64 #[.agg #[.slice a n c, .pointer (some ⟨ga, 0, none⟩)]] W fun e w' => e = .returned (.agg #[.int .i64 (funP n T p).1.1, .int .i64 (funP n T p).1.2.1, .int .i64 (funP n T p).1.2.2]) ∧ Rs a n T te pe w' ga (funP n T p).2 ∧ Chg ga (.slice none 0 0) W w') := fun W hW => function_impl hW e1 (by omega)
  obtain ⟨⟨⟨s0, o0, h0⟩, q0⟩, hfp⟩ : ∃ x, x = funP n T p := ⟨_, rfl⟩
  rw [← hfp] at hf EX FC
  simp only at hf EX FC
  clear hfp e1
  have FO : Hid (∀ W, Calls Tryd.prog 65 #[.agg #[.int .i64 s0, .int .i64 o0, .int .i64 h0]] W fun e w' => e = .returned (.bool (funOneB s0 o0 h0)) ∧ Below W.heap.size W w') := fun W => funOne_impl s0 o0 h0 W
  have CL : Hid (∀ W, Rs a n T te pe W ga q0 → Calls Tryd.prog 41 #[.agg #[.slice a n c, .pointer (some ⟨ga, 0, none⟩)]] W fun e w' => OutP a n T te pe W ga (lineP n T k q0) e w') := fun W hW => HI.out W ga q0 hW (by omega) (by omega)
  clear HI
  cases hf1 : funOneB s0 o0 h0
  · rw [hf1] at FO
    rw [EX.out, hf1, if_neg (by decide)]
    clear EX hf1 CL
    go_enter Tryd.func41, Tryd.ntmps41
    go_upto_region 1 with fail
    go_cut [7] from 8 (fun q V => q = .bool false ∧ QR a n c T te pe w ga p V)
    case first =>
      have x0 := Q0.out.x0
      have x1 := Q0.out.x1
      rcases HZ.out with e2 | ⟨e2, e6⟩
      · rw [e2] at S2
        go_wp2_with fail
        refine (S2.out _ Q0.out.rs).mono ?_
        rintro r w1 ⟨rfl, hb⟩
        have Q1 : Hid (QR a n c T te pe w ga p w1) := Q0.out.keep LG.out hb
        clear hb
        go_wp2_with fail
        go_meet
        case rel => exact ⟨rfl, Q1.out⟩
      · rw [e2] at S2
        go_wp2_with fail
        refine (S2.out _ Q0.out.rs).mono ?_
        rintro r w1 ⟨rfl, hb⟩
        have Q1 : Hid (QR a n c T te pe w ga p w1) := Q0.out.keep LG.out hb
        clear hb x0 x1
        have x0 := Q1.out.x0
        have x1 := Q1.out.x1
        go_wp2_with fail
        refine (A1.out _ Q1.out.rs).mono ?_
        rintro r w2 ⟨rfl, hb⟩
        have Q2 : Hid (QR a n c T te pe w ga p w2) := Q1.out.keep LG.out hb
        clear hb
        go_wp2_with fail
        go_meet
        case rel => exact ⟨rfl, Q2.out⟩
    obtain ⟨w2, hwc⟩ : ∃ x, x = wc := ⟨_, rfl⟩
    subst hwc
    obtain ⟨rfl, hQ⟩ := hcut
    have Q2 : Hid (QR a n c T te pe w ga p w2) := hQ
    clear hQ Q0 S2 A1 HZ
    have x0 := Q2.out.x0
    have x1 := Q2.out.x1
    go_wp2_with fail
    refine (S3.out _ Q2.out.rs).mono ?_
    rintro r w3 ⟨rfl, hb⟩
    have Q3 : Hid (QR a n c T te pe w ga p w3) := Q2.out.keep LG.out hb
    clear hb
    clear x0 x1 S3 Q2
    have x0 := Q3.out.x0
    have x1 := Q3.out.x1
    go_wp2_with fail
    refine (FC.out _ Q3.out.rs).mono ?_
    rintro r w4 ⟨rfl, hR, hC⟩
    obtain ⟨W5, hW5⟩ : ∃ W5, W5 = w4.alloc (.cells #[.int .i64 s0, .int .i64 o0, .int .i64 h0] 64) := ⟨_, rfl⟩
    have Q4 := Q3.out.go LG.out hR hC
    have F5 : Hid (QF a n c T te pe w ga q0 w4.heap.size s0 o0 h0 W5) := ⟨by rw [hW5]; exact Q4.keep LG.out (bAlloc (Below.refl _ _) _), by rw [hW5]; exact heap_alloc_new _ _, lt_of_heapA Q4.box⟩
    have W5e : Hid (W5 = w4.alloc (.cells #[.int .i64 s0, .int .i64 o0, .int .i64 h0] 64)) := hW5
    clear hR hC Q4 hW5 x0 x1 FC
    go_wp2_with fail
    try rw [← W5e.out]
    refine (FO.out _).mono ?_
    rintro r w6 ⟨rfl, hb⟩
    have F6 : Hid (QF a n c T te pe w ga q0 w4.heap.size s0 o0 h0 w6) := F5.out.keep LG.out hb
    clear hb F5 W5e FO
    go_wp2_with fail
    refine (must_false F6.out.qr.rs.err).mono ?_
    rintro r w' ⟨rfl, hw⟩
    subst w'
    unfold Pan
    go_wp2
    exact ⟨rfl, rfl, F6.out.qr.chg.lo LG.out⟩
  · rw [hf1] at FO EX
    rw [if_pos rfl] at EX
    clear hf1
    cases hx : lineP n T k q0 with
    | none =>
      rw [hx] at EX CL
      rw [EX.out]
      clear EX hx
      go_enter Tryd.func41, Tryd.ntmps41
      go_upto_region 1 with fail
      go_cut [7] from 8 (fun q V => q = .bool false ∧ QR a n c T te pe w ga p V)
      case first =>
        have x0 := Q0.out.x0
        have x1 := Q0.out.x1
        rcases HZ.out with e2 | ⟨e2, e6⟩
        · rw [e2] at S2
          go_wp2_with fail
          refine (S2.out _ Q0.out.rs).mono ?_
          rintro r w1 ⟨rfl, hb⟩
          have Q1 : Hid (QR a n c T te pe w ga p w1) := Q0.out.keep LG.out hb
          clear hb
          go_wp2_with fail
          go_meet
          case rel => exact ⟨rfl, Q1.out⟩
        · rw [e2] at S2
          go_wp2_with fail
          refine (S2.out _ Q0.out.rs).mono ?_
          rintro r w1 ⟨rfl, hb⟩
          have Q1 : Hid (QR a n c T te pe w ga p w1) := Q0.out.keep LG.out hb
          clear hb x0 x1
          have x0 := Q1.out.x0
          have x1 := Q1.out.x1
          go_wp2_with fail
          refine (A1.out _ Q1.out.rs).mono ?_
          rintro r w2 ⟨rfl, hb⟩
          have Q2 : Hid (QR a n c T te pe w ga p w2) := Q1.out.keep LG.out hb
          clear hb
          go_wp2_with fail
          go_meet
          case rel => exact ⟨rfl, Q2.out⟩
      obtain ⟨w2, hwc⟩ : ∃ x, x = wc := ⟨_, rfl⟩
      subst hwc
      obtain ⟨rfl, hQ⟩ := hcut
      have Q2 : Hid (QR a n c T te pe w ga p w2) := hQ
      clear hQ Q0 S2 A1 HZ
      have x0 := Q2.out.x0
      have x1 := Q2.out.x1
      go_wp2_with fail
      refine (S3.out _ Q2.out.rs).mono ?_
      rintro r w3 ⟨rfl, hb⟩
      have Q3 : Hid (QR a n c T te pe w ga p w3) := Q2.out.keep LG.out hb
      clear hb
      clear x0 x1 S3 Q2
      have x0 := Q3.out.x0
      have x1 := Q3.out.x1
      go_wp2_with fail
      refine (FC.out _ Q3.out.rs).mono ?_
      rintro r w4 ⟨rfl, hR, hC⟩
      obtain ⟨W5, hW5⟩ : ∃ W5, W5 = w4.alloc (.cells #[.int .i64 s0, .int .i64 o0, .int .i64 h0] 64) := ⟨_, rfl⟩
      have Q4 := Q3.out.go LG.out hR hC
      have F5 : Hid (QF a n c T te pe w ga q0 w4.heap.size s0 o0 h0 W5) := ⟨by rw [hW5]; exact Q4.keep LG.out (bAlloc (Below.refl _ _) _), by rw [hW5]; exact heap_alloc_new _ _, lt_of_heapA Q4.box⟩
      have W5e : Hid (W5 = w4.alloc (.cells #[.int .i64 s0, .int .i64 o0, .int .i64 h0] 64)) := hW5
      clear hR hC Q4 hW5 x0 x1 FC
      go_wp2_with fail
      try rw [← W5e.out]
      refine (FO.out _).mono ?_
      rintro r w6 ⟨rfl, hb⟩
      have F6 : Hid (QF a n c T te pe w ga q0 w4.heap.size s0 o0 h0 w6) := F5.out.keep LG.out hb
      clear hb F5 W5e FO
      go_wp2_with fail
      refine (must_true _).mono ?_
      rintro r w' ⟨rfl, hw⟩
      subst w'
      have x0 := F6.out.qr.x0
      have x1 := F6.out.qr.x1
      have z0 := cell_at (k := 0) F6.out.fn rfl
      have z1 := cell_at (k := 1) F6.out.fn rfl
      have z2 := cell_at (k := 2) F6.out.fn rfl
      go_wp2_with fail
      go_region_dies
      all_goals
        refine (CL.out _ (by first | exact F6.out.qr.rs | exact F6.out.qr.rs.keep ((Below.refl _ _).drew))).mono ?_
        rintro r w7 ⟨rfl, hb⟩
        have B7 : Below ga w w7 := (F6.out.qr.chg.lo LG.out).trans (by first | exact hb | exact Below.trans ((Below.refl _ _).drew) hb)
        unfold Pan
        exact And.intro rfl (And.intro rfl B7)
    | some y =>
      obtain ⟨y1, q⟩ := y
      rw [hx] at EX CL
      simp only at EX
      rw [EX.out]
      clear EX hx
      go_enter Tryd.func41, Tryd.ntmps41
      go_upto_region 1 with fail
      go_cut [7] from 8 (fun q V => q = .bool false ∧ QR a n c T te pe w ga p V)
      case first =>
        have x0 := Q0.out.x0
        have x1 := Q0.out.x1
        rcases HZ.out with e2 | ⟨e2, e6⟩
        · rw [e2] at S2
          go_wp2_with fail
          refine (S2.out _ Q0.out.rs).mono ?_
          rintro r w1 ⟨rfl, hb⟩
          have Q1 : Hid (QR a n c T te pe w ga p w1) := Q0.out.keep LG.out hb
          clear hb
          go_wp2_with fail
          go_meet
          case rel => exact ⟨rfl, Q1.out⟩
        · rw [e2] at S2
          go_wp2_with fail
          refine (S2.out _ Q0.out.rs).mono ?_
          rintro r w1 ⟨rfl, hb⟩
          have Q1 : Hid (QR a n c T te pe w ga p w1) := Q0.out.keep LG.out hb
          clear hb x0 x1
          have x0 := Q1.out.x0
          have x1 := Q1.out.x1
          go_wp2_with fail
          refine (A1.out _ Q1.out.rs).mono ?_
          rintro r w2 ⟨rfl, hb⟩
          have Q2 : Hid (QR a n c T te pe w ga p w2) := Q1.out.keep LG.out hb
          clear hb
          go_wp2_with fail
          go_meet
          case rel => exact ⟨rfl, Q2.out⟩
      obtain ⟨w2, hwc⟩ : ∃ x, x = wc := ⟨_, rfl⟩
      subst hwc
      obtain ⟨rfl, hQ⟩ := hcut
      have Q2 : Hid (QR a n c T te pe w ga p w2) := hQ
      clear hQ Q0 S2 A1 HZ
      have x0 := Q2.out.x0
      have x1 := Q2.out.x1
      go_wp2_with fail
      refine (S3.out _ Q2.out.rs).mono ?_
      rintro r w3 ⟨rfl, hb⟩
      have Q3 : Hid (QR a n c T te pe w ga p w3) := Q2.out.keep LG.out hb
      clear hb
      clear x0 x1 S3 Q2
      have x0 := Q3.out.x0
      have x1 := Q3.out.x1
      go_wp2_with fail
      refine (FC.out _ Q3.out.rs).mono ?_
      rintro r w4 ⟨rfl, hR, hC⟩
      obtain ⟨W5, hW5⟩ : ∃ W5, W5 = w4.alloc (.cells #[.int .i64 s0, .int .i64 o0, .int .i64 h0] 64) := ⟨_, rfl⟩
      have Q4 := Q3.out.go LG.out hR hC
      have F5 : Hid (QF a n c T te pe w ga q0 w4.heap.size s0 o0 h0 W5) := ⟨by rw [hW5]; exact Q4.keep LG.out (bAlloc (Below.refl _ _) _), by rw [hW5]; exact heap_alloc_new _ _, lt_of_heapA Q4.box⟩
      have W5e : Hid (W5 = w4.alloc (.cells #[.int .i64 s0, .int .i64 o0, .int .i64 h0] 64)) := hW5
      clear hR hC Q4 hW5 x0 x1 FC
      go_wp2_with fail
      try rw [← W5e.out]
      refine (FO.out _).mono ?_
      rintro r w6 ⟨rfl, hb⟩
      have F6 : Hid (QF a n c T te pe w ga q0 w4.heap.size s0 o0 h0 w6) := F5.out.keep LG.out hb
      clear hb F5 W5e FO
      go_wp2_with fail
      refine (must_true _).mono ?_
      rintro r w' ⟨rfl, hw⟩
      subst w'
      have x0 := F6.out.qr.x0
      have x1 := F6.out.qr.x1
      have z0 := cell_at (k := 0) F6.out.fn rfl
      have z1 := cell_at (k := 1) F6.out.fn rfl
      have z2 := cell_at (k := 2) F6.out.fn rfl
      have AFT : Hid (∀ V w7 g7, Below w6.heap.size w6 V → BrAt w7 y1 V.heap.size w7.heap.size g7 → Rs a n T te pe w7 ga q → Chg ga (.slice none 0 0) V w7 → QF a n c T te pe w ga q w4.heap.size s0 o0 h0 w7 ∧ BrAt w7 y1 w.heap.size w7.heap.size g7) := fun V w7 g7 hb hB hR hC => ⟨(F6.out.keep LG.out hb).go LG.out hR hC, hB.mono (by have := F6.out.qr.chg.size; have := hb.size; omega) (Nat.le_refl _)⟩
      go_wp2_with fail
      go_region_law (go_simp; go_at_call 41; refine (CL.out _ (by first | exact F6.out.qr.rs | exact F6.out.qr.rs.keep ((Below.refl _ _).drew))).mono ?_; rintro r w7 ⟨g7, rfl, hB, hR, hC⟩; have F7 := AFT.out _ _ _ (by first | exact Below.refl _ _ | exact (Below.refl _ _).drew) hB hR hC; have F7 : Hid _ := F7; clear hB hR hC; have z0 := cell_at (k := 0) F7.out.1.fn rfl; have z1 := cell_at (k := 1) F7.out.1.fn rfl; have z2 := cell_at (k := 2) F7.out.1.fn rfl; go_simp)
      all_goals
        go_wp2
        go_ret
        have hz := F7.out.1.qr.chg.size
        exact ⟨w7.heap.size, rfl, ⟨hz, by simp, g7, heap_alloc_new w7 _, (F7.out.2.same fun j h1 h2 => (bAlloc (Below.refl w7.heap.size w7) _).block j h2).mono (Nat.le_refl _) (by simp)⟩, F7.out.1.qr.rs.keep (bAlloc (Below.refl _ _) _), F7.out.1.qr.chg.on (Chg.of (bAlloc (Below.refl _ _) _))⟩
end Go.Proofs.YtnebjnglcfebeaaDoor
