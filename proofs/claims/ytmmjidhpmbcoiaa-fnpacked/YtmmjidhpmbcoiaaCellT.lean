/-
  Walks: lists of cells copied, compared, marked and looked at; how great one is.
-/
import Derived.Test.YtmmjidhpmbcoiaaCellQ
import Derived.Test.YtmmjidhpmbcoiaaLaw3
import Derived.Deep.RegionHeld3
namespace Go.Proofs.Ytmmjidhpmbcoiaa
open Go.RowKit
set_option linter.unusedVariables false
set_option linter.unusedSimpArgs false
set_option maxRecDepth 20000 in
set_option maxHeartbeats 4000000 in
theorem toCell3 (f l : Int) (v : Bool) (w : World) : Calls Try.prog 99 #[.agg #[.int .i64 f, .int .i64 l, .bool v]] w fun e w' => e = .returned (.agg #[.int .i64 f, .int .i64 l, .bool v]) ∧ Below w.heap.size w w' := by
  go_enter Try.func99, Try.ntmps99
  go_wp2
  exact bodyPost_ret (v := .agg #[.int .i64 f, .int .i64 l, .bool v]) (by simp [results, Try.results99, go_sem]) rfl ⟨rfl, bAlloc (bAlloc (bAlloc (Below.refl _ _) _) _) _⟩
set_option maxRecDepth 20000 in
set_option maxHeartbeats 8000000 in
/-- A list is copied: the copy is its own. -/
theorem toCellS_own {w : World} {v : Value} {n : Nat} {E : Nat → Cel} (h : CsI w v n E) (hn : n ≤ 1048576) :
    Calls Try.prog 67 #[v] w fun e w' => ∃ g, e = .returned (.slice (some ⟨g, 0, none⟩) n n) ∧ w.heap.size ≤ g ∧ CBlk w' g n E ∧ Below w.heap.size w w' := by
  obtain ⟨a, c, rfl, _, hA⟩ := h
  have H : Hid (CsA w a n E) := hA
  obtain ⟨w1, r1, t1, s1, b1⟩ := make_cells n hn w
  have T1 : Hid (CBlk w1 w.heap.size n (fun _ => cel0) ∧ Below w.heap.size w w1) := ⟨t1, b1⟩
  clear t1 s1 b1 hA
  go_enter Try.func67, Try.ntmps67
  go_wp2
  clear r1
  go_loopw [4] (fun i w' => ∃ (k : Nat) (E' : Nat → Cel), k ≤ n ∧ i = .int .i64 (k : Int) ∧ (CBlk w' w.heap.size n E' ∧ ∀ i, i < k → E' i = E i) ∧ Below w.heap.size w w') (fun i _ => n - (intOf i).toNat)
  case atStart => exact ⟨0, _, by omega, rfl, ⟨T1.out.1, fun i hi => absurd hi (by omega)⟩, T1.out.2⟩
  case round =>
    obtain ⟨k, E', hk, rfl, hT, hB⟩ := hrel
    have TK : Hid (CBlk wr w.heap.size n E' ∧ ∀ i, i < k → E' i = E i) := hT
    have BK : Hid (Below w.heap.size w wr) := hB
    clear hT T1 hB
    by_cases hlt : (k : Int) < (n : Int)
    · have L : k < n := by omega
      obtain ⟨o, off, rfl, ho, p0, p1, p2⟩ := (H.out.keep BK.out).at L
      clear ho
      have NX : Hid (∀ i, i < k + 1 → up E' k (E k) i = E i) := fun i hi => by
        by_cases e : i = k
        · subst e; rw [up_at]
        · rw [up_ne _ _ e]; exact TK.out.2 i (by omega)
      have EQ : Hid (E k = ⟨(E k).f, (E k).l, (E k).v⟩) := rfl
      generalize E k = ek at *
      obtain ⟨q0, q1, q2⟩ := ek
      go_wp2_with fail
      refine (toCell3 _ _ _ _).mono ?_
      rintro r w2 ⟨rfl, hb⟩
      have T3 : Hid (CBlk (((w2.setCell ⟨w.heap.size, k * 3, none⟩ (.int .i64 q0)).setCell ⟨w.heap.size, k * 3 + 1, none⟩ (.int .i64 q1)).setCell ⟨w.heap.size, k * 3 + 2, none⟩ (.bool q2)) w.heap.size n (up E' k ⟨q0, q1, q2⟩)) := (TK.out.1.keep hb).set L ⟨q0, q1, q2⟩
      have B3 : Hid (Below w.heap.size w (((w2.setCell ⟨w.heap.size, k * 3, none⟩ (.int .i64 q0)).setCell ⟨w.heap.size, k * 3 + 1, none⟩ (.int .i64 q1)).setCell ⟨w.heap.size, k * 3 + 2, none⟩ (.bool q2))) := below_setCell (below_setCell (below_setCell (bTrans BK.out hb) (Nat.le_refl _) _ _) (Nat.le_refl _) _ _) (Nat.le_refl _) _ _
      obtain ⟨c0, c1, c2, f0, f1, f2⟩ := (TK.out.1.keep hb).cells L
      clear hb
      go_wp2
      go_roundw
      case rel => exact ⟨k + 1, _, by omega, by go_num, ⟨T3.out, NX.out⟩, B3.out⟩
      case measure => simp [intOf]; omega
    · obtain rfl : k = n := by omega
      go_wp2
      go_ret
      exact ⟨_, rfl, Nat.le_refl _, TK.out.1.congr fun i hi => (TK.out.2 i hi).symm, BK.out⟩
theorem toCellS_piece {w : World} {v : Value} {n : Nat} {E : Nat → Cel} (h : CsI w v n E) (hn : n ≤ 1048576) :
    Calls Try.prog 67 #[v] w fun e w' => ∃ a c, e = .returned (.slice a n c) ∧ CPiece w.heap.size w'.heap.size w' (.slice a n c) n E ∧ Below w.heap.size w w' := by
  refine (toCellS_own h hn).mono ?_
  rintro r w' ⟨g, rfl, hg, hC, hb⟩
  exact ⟨_, _, rfl, ⟨_, _, rfl, Nat.le_refl _, .inr ⟨g, rfl, hg, hC.lt, hC⟩⟩, hb⟩
set_option maxRecDepth 20000 in
set_option maxHeartbeats 4000000 in
theorem szCellS_at (a : Option Addr) (n c : Nat) (left : Int) (w : World) (p1 : 0 ≤ left) (p2 : left ≤ 1048576) (hn : n ≤ 9223372036854775807) :
    Calls Try.prog 65 #[.slice a n c, .int .i64 left] w fun e w' => e = .returned (.int .i64 (szV n left)) ∧ w' = w := by
  have hw : IntKind.i64.wrap (left - (n : Int)) = left - (n : Int) := by rw [IntKind.wrap_i64]; omega
  by_cases h0 : left - (n : Int) < 0
  · have e : szV n left = -1 := by unfold szV; rw [if_pos (by omega)]
    rw [e]
    go_enter Try.func65, Try.ntmps65
    go_wp2
    go_ret
    exact ⟨rfl, rfl⟩
  · have e : szV n left = left - n := by unfold szV; rw [if_neg (by omega)]
    rw [e]
    go_enter Try.func65, Try.ntmps65
    go_wp2
    go_ret
    exact ⟨rfl, rfl⟩
set_option maxRecDepth 20000 in
set_option maxHeartbeats 4000000 in
theorem eqCell_same (f l : Int) (v : Bool) (w : World) : Calls Try.prog 100 #[.agg #[.int .i64 f, .int .i64 l, .bool v], .agg #[.int .i64 f, .int .i64 l, .bool v]] w fun e w' => e = .returned (.bool true) ∧ Below w.heap.size w w' := by
  have b0 : (f != f) = false := by simp
  have b1 : (l != l) = false := by simp
  have b2 : (v != v) = false := by simp
  go_enter Try.func100, Try.ntmps100
  go_wp2
  go_ret
  exact ⟨rfl, bAlloc (bAlloc (Below.refl _ _) _) _⟩
set_option maxRecDepth 20000 in
set_option maxHeartbeats 8000000 in
/-- Two lists of the same. -/
theorem eqCellS_same {w : World} {a a' : Option Addr} {c c' n : Nat} {E : Nat → Cel} (h : CsA w a n E) (k : CsA w a' n E) (hn : n ≤ 1048576) :
    Calls Try.prog 69 #[.slice a n c, .slice a' n c'] w fun r w' => r = .returned (.bool true) ∧ Below w.heap.size w w' := by
  have H : Hid (CsA w a n E) := h
  have K : Hid (CsA w a' n E) := k
  clear h k
  go_enter Try.func69, Try.ntmps69
  go_wp2
  go_loopw [5] (fun i w' => ∃ k : Nat, k ≤ n ∧ i = .int .i64 (k : Int) ∧ Below w.heap.size w w') (fun i _ => n - (intOf i).toNat)
  case atStart => exact ⟨0, by omega, rfl, Below.refl _ _⟩
  case round =>
    obtain ⟨k, hk, rfl, hb⟩ := hrel
    have HB : Hid (Below w.heap.size w wr) := hb
    clear hb
    by_cases hlt : (k : Int) < (n : Int)
    · have L : k < n := by omega
      obtain ⟨o, off, rfl, ho, p0, p1, p2⟩ := (H.out.keep HB.out).at L
      obtain ⟨o', off', rfl, ho', q0, q1, q2⟩ := (K.out.keep HB.out).at L
      have HO : Hid (o < wr.heap.size ∧ o' < wr.heap.size) := ⟨ho, ho'⟩
      clear ho ho'
      generalize E k = ek at *
      obtain ⟨e0, e1, e2⟩ := ek
      have SK : Hid (∀ W, Below wr.heap.size wr W → (W.cell? ⟨o, off + k * 3, none⟩ = some (.int .i64 e0) ∧ W.cell? ⟨o, off + k * 3 + 1, none⟩ = some (.int .i64 e1) ∧ W.cell? ⟨o, off + k * 3 + 2, none⟩ = some (.bool e2)) ∧ W.cell? ⟨o', off' + k * 3, none⟩ = some (.int .i64 e0) ∧ W.cell? ⟨o', off' + k * 3 + 1, none⟩ = some (.int .i64 e1) ∧ W.cell? ⟨o', off' + k * 3 + 2, none⟩ = some (.bool e2)) := fun W hb =>
        ⟨⟨(hb.cell (p := ⟨o, off + k * 3, none⟩) HO.out.1).trans p0, (hb.cell (p := ⟨o, off + k * 3 + 1, none⟩) HO.out.1).trans p1, (hb.cell (p := ⟨o, off + k * 3 + 2, none⟩) HO.out.1).trans p2⟩, (hb.cell (p := ⟨o', off' + k * 3, none⟩) HO.out.2).trans q0, (hb.cell (p := ⟨o', off' + k * 3 + 1, none⟩) HO.out.2).trans q1, (hb.cell (p := ⟨o', off' + k * 3 + 2, none⟩) HO.out.2).trans q2⟩
      go_wp2_with fail
      go_region_held3 (fun w' => (w'.cell? ⟨o, off + k * 3, none⟩ = some (.int .i64 e0) ∧ w'.cell? ⟨o, off + k * 3 + 1, none⟩ = some (.int .i64 e1) ∧ w'.cell? ⟨o, off + k * 3 + 2, none⟩ = some (.bool e2)) ∧ w'.cell? ⟨o', off' + k * 3, none⟩ = some (.int .i64 e0) ∧ w'.cell? ⟨o', off' + k * 3 + 1, none⟩ = some (.int .i64 e1) ∧ w'.cell? ⟨o', off' + k * 3 + 2, none⟩ = some (.bool e2))
        ((refine SK.out _ ?_; (repeat first | with_reducible exact HB2.out | with_reducible exact Below.refl _ _ | with_reducible refine Below.drew ?_)))
        ((go_at_call 100; refine (eqCell_same _ _ _ _).mono ?_; rintro r w2 ⟨rfl, hb⟩; have HB2 : Hid (Below wr.heap.size wr w2) := bTrans ((Below.refl wr.heap.size wr).drew) hb; clear hb))
      all_goals
        go_wp2
        go_roundw
        case rel => exact ⟨k + 1, by omega, by go_num, bTrans HB.out HB2.out⟩
        case measure => simp [intOf]; omega
    · go_wp2
      go_ret
      exact ⟨rfl, HB.out⟩
/-- Marked from k0 on. -/
def mkC (k0 : Int) : Nat → Cel := fun i => ⟨k0 + 3 * i, k0 + 3 * i + 1, (k0 + 3 * i + 1 + 1) % 3 == 0⟩
set_option maxRecDepth 20000 in
set_option maxHeartbeats 8000000 in
theorem markCellS_blk {w : World} {g n c : Nat} {E : Nat → Cel} (h : CBlk w g n E) (hn : n ≤ 1048576) (k0 : Int) (p1 : 0 ≤ k0) (p2 : k0 ≤ 1099511627776) :
    Calls Try.prog 71 #[.slice (some ⟨g, 0, none⟩) n c, .int .i64 k0] w fun e w' => e = .returned (.int .i64 (k0 + 3 * n)) ∧ CBlk w' g n (mkC k0) ∧ Win g (g + 1) w w' := by
  have H : Hid (CBlk w g n E) := h
  clear h
  go_enter Try.func71, Try.ntmps71
  go_wp2
  go_loopw [1, 5] (fun q i w' => ∃ (k : Nat) (E' : Nat → Cel), k ≤ n ∧ i = .int .i64 k ∧ q = .int .i64 (k0 + 3 * k) ∧ (CBlk w' g n E' ∧ ∀ i, i < k → E' i = mkC k0 i) ∧ Win g (g + 1) w w') (fun _ i _ => n - (intOf i).toNat)
  case atStart => exact ⟨0, E, by omega, rfl, by simp, ⟨H.out, fun i hi => absurd hi (by omega)⟩, Win.refl _ _ _⟩
  case round =>
    obtain ⟨k, E', hk, rfl, rfl, hO, hW⟩ := hrel
    have HO : Hid (CBlk wr g n E' ∧ ∀ i, i < k → E' i = mkC k0 i) := hO
    have HW : Hid (Win g (g + 1) w wr) := hW
    clear hO hW
    by_cases hlt : (k : Int) < (n : Int)
    · have L : k < n := by omega
      obtain ⟨c0, c1, c2, f0, f1, f2⟩ := HO.out.1.cells L
      have NX : Hid (∀ i, i < k + 1 → up E' k (mkC k0 k) i = mkC k0 i) := fun i hi => by
        by_cases e : i = k
        · subst e; rw [up_at]
        · rw [up_ne _ _ e]; exact HO.out.2 i (by omega)
      have T3 : Hid (CBlk (((wr.setCell ⟨g, k * 3, none⟩ (.int .i64 (k0 + 3 * (k : Int)))).setCell ⟨g, k * 3 + 1, none⟩ (.int .i64 (k0 + 3 * (k : Int) + 1))).setCell ⟨g, k * 3 + 2, none⟩ (.bool ((k0 + 3 * (k : Int) + 1 + 1) % 3 == 0))) g n (up E' k (mkC k0 k))) := HO.out.1.set L (mkC k0 k)
      have W3 : Hid (Win g (g + 1) w (((wr.setCell ⟨g, k * 3, none⟩ (.int .i64 (k0 + 3 * (k : Int)))).setCell ⟨g, k * 3 + 1, none⟩ (.int .i64 (k0 + 3 * (k : Int) + 1))).setCell ⟨g, k * 3 + 2, none⟩ (.bool ((k0 + 3 * (k : Int) + 1 + 1) % 3 == 0)))) := HW.out.trans (set3_win _ _ _ _ _ _)
      go_wp2
      go_roundw
      case rel => exact ⟨k + 1, _, by omega, by go_num, by go_num, ⟨T3.out, NX.out⟩, W3.out⟩
      case measure => simp [intOf]; omega
    · obtain rfl : k = n := by omega
      go_wp2
      go_ret
      exact ⟨rfl, HO.out.1.congr fun i hi => (HO.out.2 i hi).symm, HW.out⟩
set_option maxRecDepth 20000 in
set_option maxHeartbeats 4000000 in
theorem markCellS_none (a : Option Addr) (c : Nat) (k0 : Int) (w : World) :
    Calls Try.prog 71 #[.slice a 0 c, .int .i64 k0] w fun e w' => e = .returned (.int .i64 k0) ∧ w' = w := by
  go_enter Try.func71, Try.ntmps71
  go_wp2
  refine wp_loop_rounds 1 ?_
  rw [rounds_succ]
  go_wp2
  go_ret
  exact ⟨rfl, rfl⟩
/-- A list is marked: its own block turns, no other one. -/
theorem markCellS_piece {B C : Nat} {w : World} {v : Value} {n : Nat} {E : Nat → Cel} (h : CPiece B C w v n E) (hn : n ≤ 1048576) (k0 : Int) (p1 : 0 ≤ k0) (p2 : k0 ≤ 1099511627776) :
    Calls Try.prog 71 #[v, .int .i64 k0] w fun e w' => e = .returned (.int .i64 (k0 + 3 * n)) ∧ CPiece B C w' v n (mkC k0) ∧ Win B C w w' := by
  obtain ⟨a, c, rfl, hc, h⟩ := h
  rcases h with rfl | ⟨g, rfl, h1, h2, h⟩
  · refine (markCellS_none a c k0 w).mono ?_
    rintro e w' ⟨rfl, rfl⟩
    exact ⟨by simp, ⟨a, c, rfl, hc, .inl rfl⟩, Win.refl _ _ _⟩
  · refine (markCellS_blk h hn k0 p1 p2).mono ?_
    rintro e w' ⟨rfl, hb, hw⟩
    exact ⟨rfl, ⟨_, c, rfl, hc, .inr ⟨g, rfl, h1, h2, hb⟩⟩, ⟨hw.os, hw.tape, hw.output, hw.size, fun j hj hd => hw.block j hj (by omega)⟩⟩
set_option maxRecDepth 20000 in
set_option maxHeartbeats 8000000 in
/-- What is marked is held. -/
theorem heldCellS_at {w : World} {a : Option Addr} {c n : Nat} (k0 : Int) (h : CsA w a n (mkC k0)) (hn : n ≤ 1048576) (p1 : 0 ≤ k0) (p2 : k0 ≤ 1099511627776) :
    Calls Try.prog 73 #[.slice a n c, .int .i64 k0] w fun e w' => e = .returned (.int .i64 (k0 + 3 * n)) ∧ w' = w := by
  have H : Hid (CsA w a n (mkC k0)) := h
  clear h
  go_enter Try.func73, Try.ntmps73
  go_wp2
  go_loopw [1, 5] (fun q i w' => ∃ k : Nat, k ≤ n ∧ i = .int .i64 k ∧ q = .int .i64 (k0 + 3 * k) ∧ Hid (w' = w)) (fun _ i _ => n - (intOf i).toNat)
  case atStart => exact ⟨0, by omega, rfl, by simp, (rfl : w = w)⟩
  case round =>
    obtain ⟨k, hk, rfl, rfl, hw⟩ := hrel
    by_cases hlt : (k : Int) < (n : Int)
    · have L : k < n := by omega
      obtain ⟨o, off, rfl, ho, c0, c1, c2⟩ := (show CsA wr a n (mkC k0) by rw [hw.out]; exact H.out).at L
      simp only [mkC] at c0 c1 c2
      have n0 : (k0 + 3 * (k : Int) != k0 + 3 * (k : Int)) = false := by simp
      have n1 : (k0 + 3 * (k : Int) + 1 != k0 + 3 * (k : Int) + 1) = false := by simp
      go_wp2
      go_roundw
      case rel => exact ⟨k + 1, by omega, by go_num, by go_num, hw⟩
      case measure => simp [intOf]; omega
    · obtain rfl : k = n := by omega
      go_wp2
      go_ret
      exact ⟨rfl, hw.out⟩
end Go.Proofs.Ytmmjidhpmbcoiaa
