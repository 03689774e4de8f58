
/-
  Walks: lists of tokens compared, marked and looked at.
-/
import Derived.Test.YtnebjnglcfebeaaDoorTokQ
import Derived.Test.YtnebjnglcfebeaaDoorLaw3
import Derived.Deep.RegionHeld3
namespace Go.Proofs.YtnebjnglcfebeaaDoor
open Go.RowKit
set_option linter.unusedVariables false
set_option linter.unusedSimpArgs false
set_option maxRecDepth 20000 in
set_option maxHeartbeats 4000000 in
theorem eqToken_same (f t : Int) (w : World) : Calls Tryd.prog 25 #[.agg #[.int .i64 f, .int .i64 t], .agg #[.int .i64 f, .int .i64 t]] w fun e w' => e = .returned (.bool true) ∧ Below w.heap.size w w' := by
  have b0 : (f != f) = false := by simp
  have b1 : (t != t) = false := by simp
  go_enter Tryd.func25, Tryd.ntmps25
  go_wp2
  go_ret
  exact ⟨rfl, bAlloc (bAlloc (Below.refl _ _) _) _⟩
set_option maxRecDepth 20000 in
set_option maxHeartbeats 8000000 in
/-- Two lists of the same. -/
theorem eqTokenS_same {w : World} {a a' : Option Addr} {c c' n : Nat} {E : Nat → Spn} (h : SsA w a n E) (k : SsA w a' n E) (hn : n ≤ 1048576) :
    Calls Tryd.prog 10 #[.slice a n c, .slice a' n c'] w fun r w' => r = .returned (.bool true) ∧ Below w.heap.size w w' := by
  have H : Hid (SsA w a n E) := h
  have K : Hid (SsA w a' n E) := k
  clear h k
  go_enter Tryd.func10, Tryd.ntmps10
  go_wp2
  go_loopw [5] (fun i w' => ∃ k : Nat, k ≤ n ∧ i = .int .i64 (k : Int) ∧ Below w.heap.size w w') (fun i _ => n - (intOf i).toNat)
  case atStart => exact ⟨0, by omega, rfl, Below.refl _ _⟩
  case round =>
    obtain ⟨k, hk, rfl, hb⟩ := hrel
    have HB : Hid (Below w.heap.size w wr) := hb
    clear hb
    by_cases hlt : (k : Int) < (n : Int)
    · have L : k < n := by omega
      obtain ⟨o, off, rfl, ho, p0, p1⟩ := (H.out.keep HB.out).at L
      obtain ⟨o', off', rfl, ho', q0, q1⟩ := (K.out.keep HB.out).at L
      have HO : Hid (o < wr.heap.size ∧ o' < wr.heap.size) := ⟨ho, ho'⟩
      clear ho ho'
      generalize E k = ek at *
      obtain ⟨e0, e1⟩ := ek
      have SK : Hid (∀ W, Below wr.heap.size wr W → (W.cell? ⟨o, off + k * 2, none⟩ = some (.int .i64 e0) ∧ W.cell? ⟨o, off + k * 2 + 1, none⟩ = some (.int .i64 e1)) ∧ W.cell? ⟨o', off' + k * 2, none⟩ = some (.int .i64 e0) ∧ W.cell? ⟨o', off' + k * 2 + 1, none⟩ = some (.int .i64 e1)) := fun W hb =>
        ⟨⟨(hb.cell (p := ⟨o, off + k * 2, none⟩) HO.out.1).trans p0, (hb.cell (p := ⟨o, off + k * 2 + 1, none⟩) HO.out.1).trans p1⟩, (hb.cell (p := ⟨o', off' + k * 2, none⟩) HO.out.2).trans q0, (hb.cell (p := ⟨o', off' + k * 2 + 1, none⟩) HO.out.2).trans q1⟩
      go_wp2_with fail
      go_region_held3 (fun w' => (w'.cell? ⟨o, off + k * 2, none⟩ = some (.int .i64 e0) ∧ w'.cell? ⟨o, off + k * 2 + 1, none⟩ = some (.int .i64 e1)) ∧ w'.cell? ⟨o', off' + k * 2, none⟩ = some (.int .i64 e0) ∧ w'.cell? ⟨o', off' + k * 2 + 1, none⟩ = some (.int .i64 e1))
        ((refine SK.out _ ?_; (repeat first | with_reducible exact HB2.out | with_reducible exact Below.refl _ _ | with_reducible refine Below.drew ?_)))
        ((go_at_call 25; refine (eqToken_same _ _ _).mono ?_; rintro r w2 ⟨rfl, hb⟩; have HB2 : Hid (Below wr.heap.size wr w2) := bTrans ((Below.refl wr.heap.size wr).drew) hb; clear hb))
      all_goals
        go_wp2
        go_roundw
        case rel => exact ⟨k + 1, by omega, by go_num, bTrans HB.out HB2.out⟩
        case measure => simp [intOf]; omega
    · go_wp2
      go_ret
      exact ⟨rfl, HB.out⟩
/-- Marked from k0 on. -/
def mkS (k0 : Int) : Nat → Spn := fun i => ⟨k0 + 2 * i, k0 + 2 * i + 1⟩
set_option maxRecDepth 20000 in
set_option maxHeartbeats 8000000 in
theorem markTokenS_blk {w : World} {g n c : Nat} {E : Nat → Spn} (h : SBlk w g n E) (hn : n ≤ 1048576) (k0 : Int) (p1 : 0 ≤ k0) (p2 : k0 ≤ 1099511627776) :
    Calls Tryd.prog 11 #[.slice (some ⟨g, 0, none⟩) n c, .int .i64 k0] w fun e w' => e = .returned (.int .i64 (k0 + 2 * n)) ∧ SBlk w' g n (mkS k0) ∧ Win g (g + 1) w w' := by
  have H : Hid (SBlk w g n E) := h
  clear h
  go_enter Tryd.func11, Tryd.ntmps11
  go_wp2
  go_loopw [1, 5] (fun q i w' => ∃ (k : Nat) (E' : Nat → Spn), k ≤ n ∧ i = .int .i64 k ∧ q = .int .i64 (k0 + 2 * k) ∧ (SBlk w' g n E' ∧ ∀ i, i < k → E' i = mkS k0 i) ∧ Win g (g + 1) w w') (fun _ i _ => n - (intOf i).toNat)
  case atStart => exact ⟨0, E, by omega, rfl, by simp, ⟨H.out, fun i hi => absurd hi (by omega)⟩, Win.refl _ _ _⟩
  case round =>
    obtain ⟨k, E', hk, rfl, rfl, hO, hW⟩ := hrel
    have HO : Hid (SBlk wr g n E' ∧ ∀ i, i < k → E' i = mkS k0 i) := hO
    have HW : Hid (Win g (g + 1) w wr) := hW
    clear hO hW
    by_cases hlt : (k : Int) < (n : Int)
    · have L : k < n := by omega
      obtain ⟨c0, c1, f0, f1⟩ := HO.out.1.cells L
      have NX : Hid (∀ i, i < k + 1 → upS E' k (mkS k0 k) i = mkS k0 i) := fun i hi => by
        by_cases e : i = k
        · subst e; rw [upS_at]
        · rw [upS_ne _ _ e]; exact HO.out.2 i (by omega)
      have T3 : Hid (SBlk ((wr.setCell ⟨g, k * 2, none⟩ (.int .i64 (k0 + 2 * (k : Int)))).setCell ⟨g, k * 2 + 1, none⟩ (.int .i64 (k0 + 2 * (k : Int) + 1))) g n (upS E' k (mkS k0 k))) := HO.out.1.set L (mkS k0 k)
      have W3 : Hid (Win g (g + 1) w ((wr.setCell ⟨g, k * 2, none⟩ (.int .i64 (k0 + 2 * (k : Int)))).setCell ⟨g, k * 2 + 1, none⟩ (.int .i64 (k0 + 2 * (k : Int) + 1)))) := HW.out.trans (set2_win _ _ _ _ _)
      go_wp2
      go_roundw
      case rel => exact ⟨k + 1, _, by omega, by go_num, by go_num, ⟨T3.out, NX.out⟩, W3.out⟩
      case measure => simp [intOf]; omega
    · obtain rfl : k = n := by omega
      go_wp2
      go_ret
      exact ⟨rfl, HO.out.1.congr fun i hi => (HO.out.2 i hi).symm, HW.out⟩
set_option maxRecDepth 20000 in
set_option maxHeartbeats 4000000 in
theorem markTokenS_none (a : Option Addr) (c : Nat) (k0 : Int) (w : World) :
    Calls Tryd.prog 11 #[.slice a 0 c, .int .i64 k0] w fun e w' => e = .returned (.int .i64 k0) ∧ w' = w := by
  go_enter Tryd.func11, Tryd.ntmps11
  go_wp2
  refine wp_loop_rounds 1 ?_
  rw [rounds_succ]
  go_wp2
  go_ret
  exact ⟨rfl, rfl⟩
/-- A list is marked: its own block turns, no other one. -/
theorem markTokenS_piece {B C : Nat} {w : World} {v : Value} {n : Nat} {E : Nat → Spn} (h : SPiece B C w v n E) (hn : n ≤ 1048576) (k0 : Int) (p1 : 0 ≤ k0) (p2 : k0 ≤ 1099511627776) :
    Calls Tryd.prog 11 #[v, .int .i64 k0] w fun e w' => e = .returned (.int .i64 (k0 + 2 * n)) ∧ SPiece B C w' v n (mkS k0) ∧ Win B C w w' := by
  obtain ⟨a, c, rfl, hc, h⟩ := h
  rcases h with rfl | ⟨g, rfl, h1, h2, h⟩
  · refine (markTokenS_none a c k0 w).mono ?_
    rintro e w' ⟨rfl, rfl⟩
    exact ⟨by simp, ⟨a, c, rfl, hc, .inl rfl⟩, Win.refl _ _ _⟩
  · refine (markTokenS_blk h hn k0 p1 p2).mono ?_
    rintro e w' ⟨rfl, hb, hw⟩
    exact ⟨rfl, ⟨_, c, rfl, hc, .inr ⟨g, rfl, h1, h2, hb⟩⟩, ⟨hw.os, hw.tape, hw.output, hw.size, fun j hj hd => hw.block j hj (by omega)⟩⟩
set_option maxRecDepth 20000 in
set_option maxHeartbeats 4000000 in
theorem toToken2 (f l : Int) (w : World) : Calls Tryd.prog 19 #[.agg #[.int .i64 f, .int .i64 l]] w fun e w' => e = .returned (.agg #[.int .i64 f, .int .i64 l]) ∧ Below w.heap.size w w' := by
  go_enter Tryd.func19, Tryd.ntmps19
  go_wp2
  exact bodyPost_ret (v := .agg #[.int .i64 f, .int .i64 l]) (by simp [results, Tryd.results19, go_sem]) rfl ⟨rfl, bAlloc (bAlloc (bAlloc (Below.refl _ _) _) _) _⟩
set_option maxRecDepth 20000 in
set_option maxHeartbeats 8000000 in
/-- A list is copied: the copy is its own. -/
theorem toTokenS_own {w : World} {v : Value} {n : Nat} {E : Nat → Spn} (h : TsI w v n E) (hn : n ≤ 1048576) :
    Calls Tryd.prog 7 #[v] w fun e w' => ∃ g, e = .returned (.slice (some ⟨g, 0, none⟩) n n) ∧ w.heap.size ≤ g ∧ SBlk w' g n E ∧ Below w.heap.size w w' := by
  obtain ⟨a, c, rfl, _, hA⟩ := h
  have H : Hid (SsA w a n E) := hA
  obtain ⟨w1, r1, t1, s1, b1⟩ := make_toks n hn w
  have T1 : Hid (SBlk w1 w.heap.size n (fun _ => spn0) ∧ Below w.heap.size w w1) := ⟨t1, b1⟩
  clear t1 s1 b1 hA
  go_enter Tryd.func7, Tryd.ntmps7
  go_wp2
  clear r1
  go_loopw [4] (fun i w' => ∃ (k : Nat) (E' : Nat → Spn), k ≤ n ∧ i = .int .i64 (k : Int) ∧ (SBlk w' w.heap.size n E' ∧ ∀ i, i < k → E' i = E i) ∧ Below w.heap.size w w') (fun i _ => n - (intOf i).toNat)
  case atStart => exact ⟨0, _, by omega, rfl, ⟨T1.out.1, fun i hi => absurd hi (by omega)⟩, T1.out.2⟩
  case round =>
    obtain ⟨k, E', hk, rfl, hT, hB⟩ := hrel
    have TK : Hid (SBlk wr w.heap.size n E' ∧ ∀ i, i < k → E' i = E i) := hT
    have BK : Hid (Below w.heap.size w wr) := hB
    clear hT T1 hB
    by_cases hlt : (k : Int) < (n : Int)
    · have L : k < n := by omega
      obtain ⟨o, off, rfl, ho, p0, p1⟩ := (H.out.keep BK.out).at L
      clear ho
      have NX : Hid (∀ i, i < k + 1 → upS E' k (E k) i = E i) := fun i hi => by
        by_cases e : i = k
        · subst e; rw [upS_at]
        · rw [upS_ne _ _ e]; exact TK.out.2 i (by omega)
      have EQ : Hid (E k = ⟨(E k).f, (E k).t⟩) := rfl
      generalize E k = ek at *
      obtain ⟨q0, q1⟩ := ek
      go_wp2_with fail
      refine (toToken2 _ _ _).mono ?_
      rintro r w2 ⟨rfl, hb⟩
      have T3 : Hid (SBlk ((w2.setCell ⟨w.heap.size, k * 2, none⟩ (.int .i64 q0)).setCell ⟨w.heap.size, k * 2 + 1, none⟩ (.int .i64 q1)) w.heap.size n (upS E' k ⟨q0, q1⟩)) := (TK.out.1.keep hb).set L ⟨q0, q1⟩
      have B3 : Hid (Below w.heap.size w ((w2.setCell ⟨w.heap.size, k * 2, none⟩ (.int .i64 q0)).setCell ⟨w.heap.size, k * 2 + 1, none⟩ (.int .i64 q1))) := below_setCell (below_setCell (bTrans BK.out hb) (Nat.le_refl _) _ _) (Nat.le_refl _) _ _
      obtain ⟨c0, c1, f0, f1⟩ := (TK.out.1.keep hb).cells L
      clear hb
      go_wp2
      go_roundw
      case rel => exact ⟨k + 1, _, by omega, by go_num, ⟨T3.out, NX.out⟩, B3.out⟩
      case measure => simp [intOf]; omega
    · obtain rfl : k = n := by omega
      go_wp2
      go_ret
      exact ⟨_, rfl, Nat.le_refl _, TK.out.1.congr fun i hi => (TK.out.2 i hi).symm, BK.out⟩
set_option maxRecDepth 20000 in
set_option maxHeartbeats 4000000 in
theorem szTokenS_at (a : Option Addr) (n c : Nat) (left : Int) (w : World) (p1 : 0 ≤ left) (p2 : left ≤ 1048576) (hn : n ≤ 9223372036854775807) :
    Calls Tryd.prog 5 #[.slice a n c, .int .i64 left] w fun e w' => e = .returned (.int .i64 (szV n left)) ∧ w' = w := by
  have hw : IntKind.i64.wrap (left - (n : Int)) = left - (n : Int) := by rw [IntKind.wrap_i64]; omega
  by_cases h0 : left - (n : Int) < 0
  · have e : szV n left = -1 := by unfold szV; rw [if_pos (by omega)]
    rw [e]
    go_enter Tryd.func5, Tryd.ntmps5
    go_wp2
    go_ret
    exact ⟨rfl, rfl⟩
  · have e : szV n left = left - n := by unfold szV; rw [if_neg (by omega)]
    rw [e]
    go_enter Tryd.func5, Tryd.ntmps5
    go_wp2
    go_ret
    exact ⟨rfl, rfl⟩
end Go.Proofs.YtnebjnglcfebeaaDoor
