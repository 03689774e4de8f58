/-
  Walks: the program's reader: a letter that is set.
-/
import Derived.Test.YtnebjnglcfebeaaDoorParI4
import Derived.Deep.Cut
import Derived.RegionDies
namespace Go.Proofs.YtnebjnglcfebeaaDoor
open Go.RowKit
set_option linter.unusedVariables false
set_option linter.unusedSimpArgs false
set_option maxRecDepth 20000 in
set_option maxHeartbeats 8000000 in
theorem lineA_impl {a : Option Addr} {n c k : Nat} {T : Nat → Spn} {te : TypeId} {pe : Value} (IH : LineJ a n c T te pe k) (hn : n ≤ 300) {w : World} {ga p : Nat} (h : Rs a n T te pe w ga p) (hp : p ≤ n) (hk : n ≤ p + k) (e1 : tkK n T p = 2) (e2 : tkK n T (p + 1) = 6) :
    Calls Tryd.prog 41 #[.agg #[.slice a n c, .pointer (some ⟨ga, 0, none⟩)]] w fun e w' => OutP a n T te pe w ga (lineP n T (k + 1) p) e w' := by
  have HI : Hid (LineJ a n c T te pe k) := IH
  have LG : Hid (ga < w.heap.size) := h.lts
  have Q0 : Hid (QR a n c T te pe w ga p (w.alloc (.cells #[.slice a n c, .pointer (some ⟨ga, 0, none⟩)] 51))) := QR.start h
  have S2 : Hid (∀ W, Rs a n T te pe W ga p → Calls Tryd.prog 61 #[.agg #[.slice a n c, .pointer (some ⟨ga, 0, none⟩)], .int .i64 2] W fun e w' => e = .returned (.bool (tkK n T p == 2)) ∧ Below W.heap.size W w') := fun W hW => sees_impl hW 2 (by omega) (by omega)
  have S3 : Hid (∀ W, Rs a n T te pe W ga p → Calls Tryd.prog 61 #[.agg #[.slice a n c, .pointer (some ⟨ga, 0, none⟩)], .int .i64 3] W fun e w' => e = .returned (.bool (tkK n T p == 3)) ∧ Below W.heap.size W w') := fun W hW => sees_impl hW 3 (by omega) (by omega)
  have A1 : Hid (∀ W, Rs a n T te pe W ga p → Calls Tryd.prog 62 #[.agg #[.slice a n c, .pointer (some ⟨ga, 0, none⟩)], .int .i64 1] W fun e w' => e = .returned (.agg #[.int .i64 (tkK n T (p + 1)), .int .i64 (tkN n T (p + 1))]) ∧ Below W.heap.size W w') := fun W hW => ahead_impl hW 1 (by omega) (by omega) (by decide)
  have fl0 := fld0
  clear h IH
  have hlt1 := tkK_in (n := n) (T := T) (p := p + 1) (by omega)
  have b1 : (tkK n T p == 2) = true := by simp [e1]
  have EX : Hid (lineP n T (k + 1) p = match lineP n T k (p + 2) with
      | none => none
      | some x => some (.set (tkN n T p) x.1, x.2)) := by show _ = _; rw [lineP, if_pos ⟨e1, e2⟩]; rfl
  have T2 : Hid (∀ W, Rs a n T te pe W ga p → Calls Tryd.prog 63 #[.agg #[.slice a n c, .pointer (some ⟨ga, 0, none⟩)], .int .i64 2] W fun e w' => e = .returned (.int .i64 (tkN n T p)) ∧ Rs a n T te pe w' ga (p + 1) ∧ Chg ga (.slice none 0 0) W w') := fun W hW => take_impl hW 2 e1 (by omega) (by omega)
  have T6 : Hid (∀ W, Rs a n T te pe W ga (p + 1) → Calls Tryd.prog 63 #[.agg #[.slice a n c, .pointer (some ⟨ga, 0, none⟩)], .int .i64 6] W fun e w' => e = .returned (.int .i64 (tkN n T (p + 1))) ∧ Rs a n T te pe w' ga (p + 2) ∧ Chg ga (.slice none 0 0) W w') := fun W hW => take_impl hW 6 e2 (by omega) (by omega)
  have CL : Hid (∀ W, Rs a n T te pe W ga (p + 2) → Calls Tryd.prog 41 #[.agg #[.slice a n c, .pointer (some ⟨ga, 0, none⟩)]] W fun e w' => OutP a n T te pe W ga (lineP n T k (p + 2)) e w') := fun W hW => HI.out W ga (p + 2) hW (by omega) (by omega)
  rw [e2] at A1
  clear e1 e2 S3 HI
  cases hx : lineP n T k (p + 2) with
  | none =>
    rw [hx] at EX CL
    rw [EX.out]
    clear EX hx
    go_enter Tryd.func41, Tryd.ntmps41
    go_wp2_with fail
    refine (S2.out _ Q0.out.rs).mono ?_
    rintro r w1 ⟨rfl, hb⟩
    have Q1 : Hid (QR a n c T te pe w ga p w1) := Q0.out.keep LG.out hb
    clear hb
    have x0 := Q1.out.x0
    have x1 := Q1.out.x1
    go_wp2_with fail
    refine (A1.out _ Q1.out.rs).mono ?_
    rintro r w2 ⟨rfl, hb⟩
    have Q2 : Hid (QR a n c T te pe w ga p w2) := Q1.out.keep LG.out hb
    clear hb
    clear x0 x1 Q0 Q1 S2 A1
    have x0 := Q2.out.x0
    have x1 := Q2.out.x1
    go_wp2_with fail
    refine (T2.out _ Q2.out.rs).mono ?_
    rintro r w3 ⟨rfl, hR, hC⟩
    have Q3 : Hid (QR a n c T te pe w ga (p + 1) w3) := Q2.out.go LG.out hR hC
    clear hR hC Q2 x0 x1 T2
    have x0 := Q3.out.x0
    have x1 := Q3.out.x1
    go_wp2_with fail
    refine (T6.out _ Q3.out.rs).mono ?_
    rintro r w4 ⟨rfl, hR, hC⟩
    have Q4 : Hid (QR a n c T te pe w ga (p + 2) w4) := Q3.out.go LG.out hR hC
    clear hR hC Q3 x0 x1 T6
    have x0 := Q4.out.x0
    have x1 := Q4.out.x1
    go_wp2_with fail
    refine (CL.out _ Q4.out.rs).mono ?_
    rintro r w5 ⟨rfl, hb⟩
    have B5 : Hid (Below ga w w5) := (Q4.out.chg.lo LG.out).trans hb
    clear hb Q4 CL x0 x1
    unfold Pan
    go_wp2
    exact ⟨rfl, rfl, B5.out⟩
  | some y =>
    obtain ⟨y1, q⟩ := y
    rw [hx] at EX CL
    simp only at EX
    rw [EX.out]
    clear EX hx
    go_enter Tryd.func41, Tryd.ntmps41
    go_wp2_with fail
    refine (S2.out _ Q0.out.rs).mono ?_
    rintro r w1 ⟨rfl, hb⟩
    have Q1 : Hid (QR a n c T te pe w ga p w1) := Q0.out.keep LG.out hb
    clear hb
    have x0 := Q1.out.x0
    have x1 := Q1.out.x1
    go_wp2_with fail
    refine (A1.out _ Q1.out.rs).mono ?_
    rintro r w2 ⟨rfl, hb⟩
    have Q2 : Hid (QR a n c T te pe w ga p w2) := Q1.out.keep LG.out hb
    clear hb
    clear x0 x1 Q0 Q1 S2 A1
    have x0 := Q2.out.x0
    have x1 := Q2.out.x1
    go_wp2_with fail
    refine (T2.out _ Q2.out.rs).mono ?_
    rintro r w3 ⟨rfl, hR, hC⟩
    have Q3 : Hid (QR a n c T te pe w ga (p + 1) w3) := Q2.out.go LG.out hR hC
    clear hR hC Q2 x0 x1 T2
    have x0 := Q3.out.x0
    have x1 := Q3.out.x1
    go_wp2_with fail
    refine (T6.out _ Q3.out.rs).mono ?_
    rintro r w4 ⟨rfl, hR, hC⟩
    have Q4 : Hid (QR a n c T te pe w ga (p + 2) w4) := Q3.out.go LG.out hR hC
    clear hR hC Q3 x0 x1 T6
    have x0 := Q4.out.x0
    have x1 := Q4.out.x1
    go_wp2_with fail
    refine (CL.out _ Q4.out.rs).mono ?_
    rintro r w5 ⟨g5, rfl, hB, hR, hC⟩
    have Q5 : Hid (QR a n c T te pe w ga q w5) := Q4.out.go LG.out hR hC
    have B5 : Hid (BrAt w5 y1 w.heap.size w5.heap.size g5) := hB.mono Q4.out.chg.size (Nat.le_refl _)
    clear hB hR hC Q4 CL x0 x1
    go_wp2
    go_ret
    have hz := Q5.out.chg.size
    have hbb := bAlloc (Below.refl w5.heap.size w5)
    exact ⟨w5.heap.size, rfl, ⟨hz, by simp, g5, heap_alloc_new w5 _, (B5.out.same fun j h1 h2 => (bAlloc (Below.refl w5.heap.size w5) _).block j h2).mono (Nat.le_refl _) (by simp)⟩, Q5.out.rs.keep (bAlloc (Below.refl _ _) _), Q5.out.chg.on (Chg.of (bAlloc (Below.refl _ _) _))⟩
end Go.Proofs.YtnebjnglcfebeaaDoor
