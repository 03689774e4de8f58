/-
  Walks: the program's reader: operand.
-/
import Derived.Test.YtnebjnglcfebeaaDoorParI3
import Derived.Deep.Cut
namespace Go.Proofs.YtnebjnglcfebeaaDoor
open Go.RowKit
set_option linter.unusedVariables false
set_option linter.unusedSimpArgs false
/-- What a reading leaves. -/
def OutP (a : Option Addr) (n : Nat) (T : Nat → Spn) (te : TypeId) (pe : Value) (w : World) (ga : Nat) (x : Option (Br × Nat)) (e : Ending) (w' : World) : Prop :=
  match x with
  | none => e = Pan te pe ∧ Below ga w w'
  | some y => ∃ g, e = .returned (.pointer (some ⟨g, 0, none⟩)) ∧ BrAt w' y.1 w.heap.size w'.heap.size g ∧ Rs a n T te pe w' ga y.2 ∧ Chg ga (.slice none 0 0) w w'
/-- What a line's reading is taken to be. -/
def LineJ (a : Option Addr) (n c : Nat) (T : Nat → Spn) (te : TypeId) (pe : Value) (k : Nat) : Prop :=
  ∀ (W : World) (ga p : Nat), Rs a n T te pe W ga p → p ≤ n → n + 1 ≤ p + k → Calls Tryd.prog 41 #[.agg #[.slice a n c, .pointer (some ⟨ga, 0, none⟩)]] W fun e w' => OutP a n T te pe W ga (lineP n T k p) e w'
/-- A reader at work in a function that has it in a box. -/
structure QR (a : Option Addr) (n c : Nat) (T : Nat → Spn) (te : TypeId) (pe : Value) (w : World) (ga q : Nat) (V : World) : Prop where
  rs : Rs a n T te pe V ga q
  box : V.heap[w.heap.size]? = some (.cells #[.slice a n c, .pointer (some ⟨ga, 0, none⟩)] 51 (0, 0))
  chg : Chg ga (.slice none 0 0) w V
theorem nilv (j : Nat) : (Value.slice none 0 0).ownBlock ≠ some j := by simp [Value.ownBlock]
theorem Chg.on {g : Nat} {w w1 w2 : World} (h : Chg g (.slice none 0 0) w w1) (k : Chg g (.slice none 0 0) w1 w2) : Chg g (.slice none 0 0) w w2 := h.trans k (fun j hj => absurd hj (nilv j))
theorem Chg.lo {g : Nat} {w w1 : World} (h : Chg g (.slice none 0 0) w w1) (hg : g < w.heap.size) : Below g w w1 := h.below hg (fun j hj => absurd hj (nilv j))
section
variable {a : Option Addr} {n c : Nat} {T : Nat → Spn} {te : TypeId} {pe : Value} {w V V' : World} {ga q q' : Nat}
theorem QR.start (h : Rs a n T te pe w ga q) : QR a n c T te pe w ga q (w.alloc (.cells #[.slice a n c, .pointer (some ⟨ga, 0, none⟩)] 51)) := ⟨h.keep (bAlloc (Below.refl _ _) _), heap_alloc_new _ _, Chg.of (bAlloc (Below.refl _ _) _)⟩
theorem QR.go (h : QR a n c T te pe w ga q V) (hl : ga < w.heap.size) (hR : Rs a n T te pe V' ga q') (hC : Chg ga (.slice none 0 0) V V') : QR a n c T te pe w ga q' V' :=
  ⟨hR, by rw [hC.block _ (lt_of_heapA h.box) (by omega) (nilv _)]; exact h.box, h.chg.on hC⟩
theorem QR.keep (h : QR a n c T te pe w ga q V) (hl : ga < w.heap.size) (hb : Below V.heap.size V V') : QR a n c T te pe w ga q V' := h.go hl (h.rs.keep hb) (Chg.of hb)
theorem QR.x0 (h : QR a n c T te pe w ga q V) : V.cell? ⟨w.heap.size, 0, none⟩ = some (.slice a n c) := cell_at h.box rfl
theorem QR.x1 (h : QR a n c T te pe w ga q V) : V.cell? ⟨w.heap.size, 1, none⟩ = some (.pointer (some ⟨ga, 0, none⟩)) := cell_at h.box rfl
end
set_option maxRecDepth 20000 in
set_option maxHeartbeats 8000000 in
/-- operand. -/
theorem operand_impl {a : Option Addr} {n c k : Nat} {T : Nat → Spn} {te : TypeId} {pe : Value} (IH : LineJ a n c T te pe k) (hn : n ≤ 300) {w : World} {ga p : Nat} (h : Rs a n T te pe w ga p) (hp : p ≤ n) (hk : n ≤ p + k) :
    Calls Tryd.prog 66 #[.agg #[.slice a n c, .pointer (some ⟨ga, 0, none⟩)]] w fun e w' => OutP a n T te pe w ga (operP n T (fun q => lineP n T k q) p) e w' := by
  have HI : Hid (LineJ a n c T te pe k) := IH
  have LG : Hid (ga < w.heap.size) := h.lts
  have Q0 : Hid (QR a n c T te pe w ga p (w.alloc (.cells #[.slice a n c, .pointer (some ⟨ga, 0, none⟩)] 51))) := QR.start h
  have S1 : Hid (∀ W, Rs a n T te pe W ga p → Calls Tryd.prog 61 #[.agg #[.slice a n c, .pointer (some ⟨ga, 0, none⟩)], .int .i64 1] W fun e w' => e = .returned (.bool (tkK n T p == 1)) ∧ Below W.heap.size W w') := fun W hW => sees_impl hW 1 (by omega) (by omega)
  have S2 : Hid (∀ W, Rs a n T te pe W ga p → Calls Tryd.prog 61 #[.agg #[.slice a n c, .pointer (some ⟨ga, 0, none⟩)], .int .i64 2] W fun e w' => e = .returned (.bool (tkK n T p == 2)) ∧ Below W.heap.size W w') := fun W hW => sees_impl hW 2 (by omega) (by omega)
  clear h IH
  by_cases e1 : tkK n T p = 1
  · have b1 : (tkK n T p == 1) = true := by simp [e1]
    have EX : Hid (operP n T (fun q => lineP n T k q) p = some (.num (numsP n T p (runN n T (n - p) p)), p + runN n T (n - p) p)) := by show _ = _; unfold operP; rw [if_pos e1]
    have NU : Hid (∀ W, Rs a n T te pe W ga p → Calls Tryd.prog 77 #[.agg #[.slice a n c, .pointer (some ⟨ga, 0, none⟩)]] W fun e w' => ∃ v, e = .returned v ∧ NewInts (W.heap.size + 1) w' v (numsP n T p (runN n T (n - p) p)) ∧ Rs a n T te pe w' ga (p + runN n T (n - p) p) ∧ Chg ga (.slice none 0 0) W w') := fun W hW => numbers_impl hW hp (by omega)
    rw [EX.out]
    clear EX e1
    generalize runN n T (n - p) p = m0 at *
    generalize numsP n T p m0 = NL at *
    go_enter Tryd.func66, Tryd.ntmps66
    go_wp2_with fail
    refine (S1.out _ Q0.out.rs).mono ?_
    rintro r w1 ⟨rfl, hb⟩
    have Q1 : Hid (QR a n c T te pe w ga p w1) := Q0.out.keep LG.out hb
    clear hb
    have x0 := Q1.out.x0
    have x1 := Q1.out.x1
    go_wp2_with fail
    refine (NU.out _ Q1.out.rs).mono ?_
    rintro r w2 ⟨v, rfl, hI, hR, hC⟩
    obtain ⟨a9, c9, ev, _⟩ := hI.ints
    subst ev
    have Q2 : Hid (QR a n c T te pe w ga (p + m0) w2) := Q1.out.go LG.out hR hC
    have I2 : Hid (NewInts (w1.heap.size + 1) w2 (.slice a9 NL.length c9) NL ∧ w.heap.size ≤ w1.heap.size) := ⟨hI, Q1.out.chg.size⟩
    clear hI hR hC Q1 Q0 x0 x1 NU S1 S2
    go_wp2
    go_ret
    obtain ⟨bn, hbn, hbb⟩ := I2.out.1.one
    have hz := Q2.out.chg.size
    have hw := I2.out.2
    refine ⟨w2.heap.size, rfl, ⟨hz, by simp, _, bn, heap_alloc_new w2 _, hbn.keep (bAlloc (Below.refl _ _) _), fun hl => ⟨by have := hbb hl; omega, by have := piece_lt hbn hl; simp; omega⟩⟩, Q2.out.rs.keep (bAlloc (Below.refl _ _) _), Q2.out.chg.on (Chg.of (bAlloc (Below.refl _ _) _))⟩
  · have b1 : (tkK n T p == 1) = false := by simpa using e1
    by_cases e2 : tkK n T p = 2
    · have b2 : (tkK n T p == 2) = true := by simp [e2]
      have EX : Hid (operP n T (fun q => lineP n T k q) p = some (.name (tkN n T p), p + 1)) := by show _ = _; unfold operP; rw [if_neg e1, if_pos e2]
      have hlt := tkK_in (n := n) (T := T) (p := p) (by omega)
      have TK : Hid (∀ W, Rs a n T te pe W ga p → Calls Tryd.prog 63 #[.agg #[.slice a n c, .pointer (some ⟨ga, 0, none⟩)], .int .i64 2] W fun e w' => e = .returned (.int .i64 (tkN n T p)) ∧ Rs a n T te pe w' ga (p + 1) ∧ Chg ga (.slice none 0 0) W w') := fun W hW => take_impl hW 2 e2 (by omega) (by omega)
      rw [EX.out]
      clear EX e1 e2
      go_enter Tryd.func66, Tryd.ntmps66
      go_wp2_with fail
      refine (S1.out _ Q0.out.rs).mono ?_
      rintro r w1 ⟨rfl, hb⟩
      have Q1 : Hid (QR a n c T te pe w ga p w1) := Q0.out.keep LG.out hb
      clear hb
      have x0 := Q1.out.x0
      have x1 := Q1.out.x1
      go_wp2_with fail
      refine (S2.out _ Q1.out.rs).mono ?_
      rintro r w2 ⟨rfl, hb⟩
      have Q2 : Hid (QR a n c T te pe w ga p w2) := Q1.out.keep LG.out hb
      clear hb
      clear x0 x1
      have x0 := Q2.out.x0
      have x1 := Q2.out.x1
      go_wp2_with fail
      refine (TK.out _ Q2.out.rs).mono ?_
      rintro r w3 ⟨rfl, hR, hC⟩
      have Q3 : Hid (QR a n c T te pe w ga (p + 1) w3) := Q2.out.go LG.out hR hC
      clear hR hC Q2 Q1 Q0 x0 x1 TK S1 S2
      go_wp2
      go_ret
      have hz := Q3.out.chg.size
      exact ⟨w3.heap.size, rfl, ⟨hz, by simp, heap_alloc_new w3 _⟩, Q3.out.rs.keep (bAlloc (Below.refl _ _) _), Q3.out.chg.on (Chg.of (bAlloc (Below.refl _ _) _))⟩
    · have b2 : (tkK n T p == 2) = false := by simpa using e2
      by_cases e4 : tkK n T p = 4
      · have hlt := tkK_in (n := n) (T := T) (p := p) (by omega)
        have EX : Hid (operP n T (fun q => lineP n T k q) p = match lineP n T k (p + 1) with
            | none => none
            | some x => if tkK n T x.2 = 5 then some (x.1, x.2 + 1) else none) := by show _ = _; unfold operP; rw [if_neg e1, if_neg e2, if_pos e4]; rfl
        have TK : Hid (∀ W, Rs a n T te pe W ga p → Calls Tryd.prog 63 #[.agg #[.slice a n c, .pointer (some ⟨ga, 0, none⟩)], .int .i64 4] W fun e w' => e = .returned (.int .i64 (tkN n T p)) ∧ Rs a n T te pe w' ga (p + 1) ∧ Chg ga (.slice none 0 0) W w') := fun W hW => take_impl hW 4 e4 (by omega) (by omega)
        have CL : Hid (∀ W, Rs a n T te pe W ga (p + 1) → Calls Tryd.prog 41 #[.agg #[.slice a n c, .pointer (some ⟨ga, 0, none⟩)]] W fun e w' => OutP a n T te pe W ga (lineP n T k (p + 1)) e w') := fun W hW => HI.out W ga (p + 1) hW (by omega) (by omega)
        clear e1 e2 e4
        cases hx : lineP n T k (p + 1) with
        | none =>
          rw [hx] at EX CL
          rw [EX.out]
          clear EX hx
          go_enter Tryd.func66, Tryd.ntmps66
          go_wp2_with fail
          refine (S1.out _ Q0.out.rs).mono ?_
          rintro r w1 ⟨rfl, hb⟩
          have Q1 : Hid (QR a n c T te pe w ga p w1) := Q0.out.keep LG.out hb
          clear hb
          have x0 := Q1.out.x0
          have x1 := Q1.out.x1
          go_wp2_with fail
          refine (S2.out _ Q1.out.rs).mono ?_
          rintro r w2 ⟨rfl, hb⟩
          have Q2 : Hid (QR a n c T te pe w ga p w2) := Q1.out.keep LG.out hb
          clear hb
          clear x0 x1
          have x0 := Q2.out.x0
          have x1 := Q2.out.x1
          go_wp2_with fail
          refine (TK.out _ Q2.out.rs).mono ?_
          rintro r w3 ⟨rfl, hR, hC⟩
          have Q3 : Hid (QR a n c T te pe w ga (p + 1) w3) := Q2.out.go LG.out hR hC
          clear hR hC Q2 Q1 Q0 x0 x1 TK S1 S2
          have x0 := Q3.out.x0
          have x1 := Q3.out.x1
          go_wp2_with fail
          refine (CL.out _ Q3.out.rs).mono ?_
          rintro r w4 ⟨rfl, hb⟩
          have B4 : Hid (Below ga w w4) := (Q3.out.chg.lo LG.out).trans hb
          clear hb Q3 CL x0 x1
          unfold Pan
          go_wp2
          exact ⟨rfl, rfl, B4.out⟩
        | some y =>
          obtain ⟨y1, q⟩ := y
          rw [hx] at EX CL
          simp only at EX
          have YF : Hid (p + 1 < q ∧ q ≤ n ∧ y1.size + (p + 1) ≤ q) := lineP_fine (n := n) (T := T) k (p + 1) _ hx
          clear hx
          by_cases e5 : tkK n T q = 5
          · have hq := tkK_in (n := n) (T := T) (p := q) (by omega)
            have T5 : Hid (∀ W, Rs a n T te pe W ga q → Calls Tryd.prog 63 #[.agg #[.slice a n c, .pointer (some ⟨ga, 0, none⟩)], .int .i64 5] W fun e w' => e = .returned (.int .i64 (tkN n T q)) ∧ Rs a n T te pe w' ga (q + 1) ∧ Chg ga (.slice none 0 0) W w') := fun W hW => take_impl hW 5 e5 (by omega) (by omega)
            rw [EX.out, if_pos e5]
            clear EX e5
            go_enter Tryd.func66, Tryd.ntmps66
            go_wp2_with fail
            refine (S1.out _ Q0.out.rs).mono ?_
            rintro r w1 ⟨rfl, hb⟩
            have Q1 : Hid (QR a n c T te pe w ga p w1) := Q0.out.keep LG.out hb
            clear hb
            have x0 := Q1.out.x0
            have x1 := Q1.out.x1
            go_wp2_with fail
            refine (S2.out _ Q1.out.rs).mono ?_
            rintro r w2 ⟨rfl, hb⟩
            have Q2 : Hid (QR a n c T te pe w ga p w2) := Q1.out.keep LG.out hb
            clear hb
            clear x0 x1
            have x0 := Q2.out.x0
            have x1 := Q2.out.x1
            go_wp2_with fail
            refine (TK.out _ Q2.out.rs).mono ?_
            rintro r w3 ⟨rfl, hR, hC⟩
            have Q3 : Hid (QR a n c T te pe w ga (p + 1) w3) := Q2.out.go LG.out hR hC
            clear hR hC Q2 Q1 Q0 x0 x1 TK S1 S2
            have x0 := Q3.out.x0
            have x1 := Q3.out.x1
            go_wp2_with fail
            refine (CL.out _ Q3.out.rs).mono ?_
            rintro r w4 ⟨g4, rfl, hB, hR, hC⟩
            have Q4 : Hid (QR a n c T te pe w ga q w4) := Q3.out.go LG.out hR hC
            have B4 : Hid (BrAt w4 y1 w.heap.size w4.heap.size g4) := hB.mono Q3.out.chg.size (Nat.le_refl _)
            have B4' : Hid (BrAt w4 y1 w3.heap.size w4.heap.size g4 ∧ w.heap.size ≤ w3.heap.size) := ⟨hB, Q3.out.chg.size⟩
            clear hB hR hC Q3 CL x0 x1
            have x0 := Q4.out.x0
            have x1 := Q4.out.x1
            go_wp2_with fail
            refine (T5.out _ Q4.out.rs).mono ?_
            rintro r w5 ⟨rfl, hR, hC⟩
            have B5 : Hid (BrAt w5 y1 w.heap.size w5.heap.size g4) := (B4.out.same fun j h1 h2 => hC.block j h2 (by have := LG.out; omega) (nilv _)).mono (Nat.le_refl _) hC.size
            have Q5 : Hid (QR a n c T te pe w ga (q + 1) w5) := Q4.out.go LG.out hR hC
            clear hR hC Q4 T5 x0 x1 B4 B4'
            go_wp2
            go_ret
            exact ⟨_, rfl, B5.out, Q5.out.rs, Q5.out.chg⟩
          · have T5 : Hid (∀ W, Rs a n T te pe W ga q → Calls Tryd.prog 63 #[.agg #[.slice a n c, .pointer (some ⟨ga, 0, none⟩)], .int .i64 5] W fun e w' => e = Pan te pe ∧ Below W.heap.size W w') := fun W hW => by have := YF.out; exact take_bad hW 5 e5 (by omega) (by omega)
            rw [EX.out, if_neg e5]
            clear EX e5
            go_enter Tryd.func66, Tryd.ntmps66
            go_wp2_with fail
            refine (S1.out _ Q0.out.rs).mono ?_
            rintro r w1 ⟨rfl, hb⟩
            have Q1 : Hid (QR a n c T te pe w ga p w1) := Q0.out.keep LG.out hb
            clear hb
            have x0 := Q1.out.x0
            have x1 := Q1.out.x1
            go_wp2_with fail
            refine (S2.out _ Q1.out.rs).mono ?_
            rintro r w2 ⟨rfl, hb⟩
            have Q2 : Hid (QR a n c T te pe w ga p w2) := Q1.out.keep LG.out hb
            clear hb
            clear x0 x1
            have x0 := Q2.out.x0
            have x1 := Q2.out.x1
            go_wp2_with fail
            refine (TK.out _ Q2.out.rs).mono ?_
            rintro r w3 ⟨rfl, hR, hC⟩
            have Q3 : Hid (QR a n c T te pe w ga (p + 1) w3) := Q2.out.go LG.out hR hC
            clear hR hC Q2 Q1 Q0 x0 x1 TK S1 S2
            have x0 := Q3.out.x0
            have x1 := Q3.out.x1
            go_wp2_with fail
            refine (CL.out _ Q3.out.rs).mono ?_
            rintro r w4 ⟨g4, rfl, hB, hR, hC⟩
            have Q4 : Hid (QR a n c T te pe w ga q w4) := Q3.out.go LG.out hR hC
            clear hB hR hC Q3 CL x0 x1
            have x0 := Q4.out.x0
            have x1 := Q4.out.x1
            go_wp2_with fail
            refine (T5.out _ Q4.out.rs).mono ?_
            rintro r w5 ⟨rfl, hb⟩
            have B5 : Hid (Below ga w w5) := (Q4.out.chg.lo LG.out).trans (hb.mono (Nat.le_of_lt Q4.out.rs.lts))
            clear hb Q4 T5 x0 x1
            unfold Pan
            go_wp2
            exact ⟨rfl, rfl, B5.out⟩
      · have EX : Hid (operP n T (fun q => lineP n T k q) p = none) := by show _ = _; unfold operP; rw [if_neg e1, if_neg e2, if_neg e4]
        have TK : Hid (∀ W, Rs a n T te pe W ga p → Calls Tryd.prog 63 #[.agg #[.slice a n c, .pointer (some ⟨ga, 0, none⟩)], .int .i64 4] W fun e w' => e = Pan te pe ∧ Below W.heap.size W w') := fun W hW => take_bad hW 4 e4 (by omega) (by omega)
        rw [EX.out]
        clear EX e1 e2 e4
        go_enter Tryd.func66, Tryd.ntmps66
        go_wp2_with fail
        refine (S1.out _ Q0.out.rs).mono ?_
        rintro r w1 ⟨rfl, hb⟩
        have Q1 : Hid (QR a n c T te pe w ga p w1) := Q0.out.keep LG.out hb
        clear hb
        have x0 := Q1.out.x0
        have x1 := Q1.out.x1
        go_wp2_with fail
        refine (S2.out _ Q1.out.rs).mono ?_
        rintro r w2 ⟨rfl, hb⟩
        have Q2 : Hid (QR a n c T te pe w ga p w2) := Q1.out.keep LG.out hb
        clear hb
        clear x0 x1
        have x0 := Q2.out.x0
        have x1 := Q2.out.x1
        go_wp2_with fail
        refine (TK.out _ Q2.out.rs).mono ?_
        rintro r w3 ⟨rfl, hb⟩
        have B3 : Hid (Below ga w w3) := (Q2.out.chg.lo LG.out).trans (hb.mono (Nat.le_of_lt Q2.out.rs.lts))
        clear hb Q2 Q1 Q0 x0 x1 TK S1 S2
        unfold Pan
        go_wp2
        exact ⟨rfl, rfl, B3.out⟩
end Go.Proofs.YtnebjnglcfebeaaDoor
