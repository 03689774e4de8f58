/-
  Several texts, one behind the other: EachP, Small, SpecShape.
-/
import Derived.Test.YtnkacfgbkfkhdaaGreatY5
import Derived.Test.YtnkacfgbkfkhdaaGreatY3
import Derived.Test.YtnkacfgbkfkhdaaGreatY1
import Derived.Laws.EntriesVeiled
import Derived.Test.YtnkacfgbkfkhdaaGreatY4
namespace Go.Proofs.YtnkacfgbkfkhdaaGreat
open Go.RowKit
set_option linter.unusedVariables false
set_option linter.unusedSimpArgs false
theorem only_setCell (w : World) (g off n c k : Nat) (u : Value) (hk : k < n) : Only (.slice (some ⟨g, off, none⟩) n c) w (w.setCell ⟨g, off + k, none⟩ u) := by
  refine ⟨rfl, rfl, rfl, size_setCell _ _ _, fun j hj hq => Below.heap_setCell _ _ _ _ (fun e => ?_), fun g' off' n' c' e cur t hg => ?_⟩
  · have := hq off n c (by rw [show j = g from e])
    omega
  · cases e
    refine ⟨_, heap_setCell_same w g (off + k) _ _ u hg, fun i hi => ?_⟩
    rw [Array.getElem?_setIfInBounds, if_neg (by omega)]
theorem Piece.set {B C g off c k : Nat} {w : World} {l : List Int} (h : Piece B C w (.slice (Option.some ⟨g, off, none⟩) l.length c) l) (hk : k < l.length) (x : Int) : Piece B C (w.setCell ⟨g, off + k, none⟩ (.int .i64 x)) (.slice (Option.some ⟨g, off, none⟩) l.length c) (l.set k x) := by
  obtain ⟨a, c', e, hle, h⟩ := h
  cases e
  refine ⟨_, _, by rw [List.length_set], by rw [List.length_set]; exact hle, ?_⟩
  rcases h with rfl | ⟨g', off', cur, t, e, h1, h2, hg, r⟩
  · simp at hk
  · cases e
    have hs : off + k < cur.size := by
      have := (Array.getElem?_eq_some_iff.1 (r k hk)).1
      exact this
    refine .inr ⟨g, off, _, t, rfl, h1, h2, heap_setCell_same w g (off + k) _ _ _ hg, fun j hj => ?_⟩
    rw [List.length_set] at hj
    rw [Array.getElem?_setIfInBounds]
    by_cases e : k = j
    · subst e
      rw [if_pos rfl, if_pos hs]
      simp [List.getD, hk]
    · rw [if_neg (by omega), r j hj]
      simp [List.getD, e]
/-- The cell of a number of a piece, and that it may be written. -/
theorem Piece.cellAt {B C g off n c k : Nat} {w : World} {l : List Int} (h : Piece B C w (.slice (Option.some ⟨g, off, none⟩) n c) l) (hk : k < l.length) : w.cell? ⟨g, off + k, none⟩ = Option.some (.int .i64 (l.getD k 0)) ∧ w.frozen? ⟨g, off + k, none⟩ = false ∧ B ≤ g ∧ g < C ∧ g < w.heap.size := by
  obtain ⟨a, c', e, _, h⟩ := h
  cases e
  rcases h with rfl | ⟨g', off', cur, t, e, h1, h2, hg, r⟩
  · simp at hk
  · cases e
    exact ⟨cell_at hg (r k hk), free_at hg _, h1, h2, lt_of_heapA hg⟩
theorem Piece.some {B C n c : Nat} {a : Option Addr} {w : World} {l : List Int} (h : Piece B C w (.slice a n c) l) (hl : 0 < l.length) : ∃ g off, a = .some ⟨g, off, none⟩ := by
  obtain ⟨a', c', e, _, h⟩ := h
  cases e
  rcases h with rfl | ⟨g', off', cur, t, e, _⟩
  · simp at hl
  · exact ⟨g', off', e⟩
end Go.Proofs.YtnkacfgbkfkhdaaGreat
namespace Go.Proofs.YtnkacfgbkfkhdaaGreat
open Go.RowKit
set_option maxHeartbeats 400000 in
theorem numOk_impl (x : Int) (w : World) : Calls Tryz.prog 64 #[.int .i64 x] w fun e w' => e = .returned (.bool (ok x)) ∧ w' = w := by
  go_enter Tryz.func64, Tryz.ntmps64
  go_wp2
  all_goals
    go_ret
    refine ⟨?_, rfl⟩
    simp_all [ok] <;> omega
set_option maxHeartbeats 400000 in
theorem in_spec (x l h : Int) (w : World) : Calls Tryz.prog 30 #[.int .i64 x, .int .i64 l, .int .i64 h] w fun e w' => e = .returned (.bool (decide (l ≤ x) && decide (x ≤ h))) ∧ w' = w := by
  go_enter Tryz.func30, Tryz.ntmps30
  go_wp2
  all_goals
    go_ret
    refine ⟨?_, rfl⟩
    simp_all <;> omega
set_option maxHeartbeats 400000 in
theorem numOk_spec (x : Int) (w : World) : Calls Tryz.prog 58 #[.int .i64 x] w fun e w' => e = .returned (.bool (ok x)) ∧ w' = w := by
  go_enter Tryz.func58, Tryz.ntmps58
  go_wp2_with (go_at_call 30; refine (in_spec _ _ _ _).mono ?_; rintro e w' ⟨rfl, rfl⟩)
  go_ret
  exact ⟨by simp [ok], rfl⟩
set_option maxHeartbeats 400000 in
theorem bit_spec (b : Bool) (w : World) : Calls Tryz.prog 81 #[.bool b] w fun e w' => e = .returned (.int .i64 (bit b)) ∧ w' = w := by
  cases b <;> (go_enter Tryz.func81, Tryz.ntmps81; go_wp2; go_ret; exact ⟨rfl, rfl⟩)
set_option maxHeartbeats 400000 in
theorem max_spec (a b : Int) (w : World) : Calls Tryz.prog 80 #[.int .i64 a, .int .i64 b] w fun e w' => e = .returned (.int .i64 (mx a b)) ∧ w' = w := by
  go_enter Tryz.func80, Tryz.ntmps80
  go_wp2
  all_goals
    go_ret
    refine ⟨?_, rfl⟩
    simp_all [mx] <;> omega
set_option maxHeartbeats 400000 in
theorem min_spec (a b : Int) (w : World) : Calls Tryz.prog 79 #[.int .i64 a, .int .i64 b] w fun e w' => e = .returned (.int .i64 (mn a b)) ∧ w' = w := by
  go_enter Tryz.func79, Tryz.ntmps79
  go_wp2
  all_goals
    go_ret
    refine ⟨?_, rfl⟩
    simp_all [mn] <;> omega
set_option maxHeartbeats 400000 in
theorem withoutSign_impl (x : Int) (h1 : -1000000000000 ≤ x) (h2 : x ≤ 1000000000000) (w : World) : Calls Tryz.prog 110 #[.int .i64 x] w fun e w' => e = .returned (.int .i64 (mag x)) ∧ w' = w := by
  go_enter Tryz.func110, Tryz.ntmps110
  go_wp2
  all_goals
    go_ret
    refine ⟨?_, rfl⟩
    simp_all [mag] <;> omega
end Go.Proofs.YtnkacfgbkfkhdaaGreat
namespace Go.Proofs.YtnkacfgbkfkhdaaGreat
open Go.RowKit
set_option linter.unusedVariables false
theorem ret_num {a b : Int} (h : a = b) : Ending.returned (.int .i64 a) = .returned (.int .i64 b) := by rw [h]
set_option maxRecDepth 20000 in
set_option maxHeartbeats 1000000 in
theorem size_long (l : List Int) (a : Option Addr) (n c : Nat) (w : World) (e1 : l.length = n) (hn : (3 : Int) < (n : Int)) :
    Calls Tryz.prog 32 #[.slice a n c] w fun e w' => e = .returned (.int .i64 (sizeV l)) ∧ w' = w := by
  have HV : Hid (sizeV l = -1) := by show _ = _; unfold sizeV; rw [if_pos (by omega)]
  clear e1
  go_enter Tryz.func32, Tryz.ntmps32
  go_wp2
  go_ret
  exact ⟨ret_num HV.out.symm, rfl⟩
set_option maxRecDepth 20000 in
set_option maxHeartbeats 2000000 in
theorem size_walk (l : List Int) (a : Option Addr) (n c : Nat) (w : World) (h1 : Ints w a l) (e1 : l.length = n) (hn : (n : Int) ≤ 3) :
    Calls Tryz.prog 32 #[.slice a n c] w fun e w' => e = .returned (.int .i64 (sizeV l)) ∧ w' = w := by
  have H1 : Hid (Ints w a l) := h1
  have E1 : Hid (l.length = n) := e1
  clear h1 e1
  go_enter Tryz.func32, Tryz.ntmps32
  go_wp2
  go_loop [3, 4] (fun z i => ∃ k : Nat, k ≤ n ∧ i = .int .i64 k ∧ z = .bool (hasZero (l.take k)) ∧ (l.take k).all dimOk = true) (fun _ i => n - (intOf i).toNat)
  case atStart => exact ⟨0, by omega, rfl, rfl, rfl⟩
  case round =>
    obtain ⟨k, hk, rfl, rfl, ha⟩ := hrel
    have HA : Hid ((l.take k).all dimOk = true) := ha
    clear ha
    by_cases hlt : (k : Int) < (n : Int)
    · have L1 : k < l.length := by have := E1.out; omega
      obtain ⟨b1, o1, rfl, hb1, c1⟩ := H1.out.at L1
      have HZ : Hid (hasZero (l.take (k + 1)) = (hasZero (l.take k) || l.getD k 0 == 0)) := by show _ = _; rw [take_snoc L1, hasZero_snoc]
      have HD : Hid ((l.take (k + 1)).all dimOk = ((l.take k).all dimOk && dimOk (l.getD k 0))) := by show _ = _; rw [take_snoc L1, all_snoc]
      have HX : Hid (dimOk (l.getD k 0) = false → l.all dimOk = false) := all_bad L1
      clear L1
      generalize l.getD k 0 = x at c1 HZ HD HX
      generalize hasZero (l.take k) = z at HZ
      by_cases hx : dimOk x = true
      · have hx' : (decide (0 ≤ x) && decide (x ≤ 300)) = true := hx
        have HD' : Hid ((l.take (k + 1)).all dimOk = true) := by show _ = _; rw [HD.out, HA.out, hx]; rfl
        clear HD HX
        cases z
        · go_wp2_with (go_at_call 30; refine (in_spec _ _ _ _).mono ?_; rintro e w' ⟨rfl, hw⟩; subst w')
          go_round
          case rel => exact ⟨k + 1, by omega, by go_num, by rw [HZ.out]; rfl, HD'.out⟩
          case measure => simp [intOf]; omega
        · go_wp2_with (go_at_call 30; refine (in_spec _ _ _ _).mono ?_; rintro e w' ⟨rfl, hw⟩; subst w')
          go_round
          case rel => exact ⟨k + 1, by omega, by go_num, by rw [HZ.out]; rfl, HD'.out⟩
          case measure => simp [intOf]; omega
      · have hx : dimOk x = false := by simpa using hx
        have hx' : (decide (0 ≤ x) && decide (x ≤ 300)) = false := hx
        have HV : Hid (sizeV l = -1) := by
          show _ = _
          unfold sizeV
          rw [HX.out hx]
          split <;> rfl
        clear HD HX
        go_wp2_with (go_at_call 30; refine (in_spec _ _ _ _).mono ?_; rintro e w' ⟨rfl, hw⟩; subst w')
        go_ret
        exact ⟨ret_num HV.out.symm, rfl⟩
    · have ek : k = l.length := by have := E1.out; omega
      have HL : Hid (l.all dimOk = true) := by have h := HA.out; rw [ek, List.take_of_length_le (by omega)] at h; exact h
      have HZ : Hid (hasZero (l.take k) = hasZero l) := by show _ = _; rw [ek, List.take_of_length_le (by omega)]
      clear ek HA
      rw [HZ.out]
      go_wp2
      go_loop [5, 6] (fun p i => ∃ k : Nat, k ≤ n ∧ i = .int .i64 k ∧ p = .int .i64 (prodV (l.take k))) (fun _ i => n - (intOf i).toNat)
      case atStart => exact ⟨0, by omega, rfl, rfl⟩
      case round =>
        obtain ⟨k, hk, rfl, rfl⟩ := hrel
        by_cases hlt : (k : Int) < (n : Int)
        · have L1 : k < l.length := by have := E1.out; omega
          obtain ⟨b1, o1, rfl, hb1, c1⟩ := H1.out.at L1
          have HP : Hid (prodV (l.take (k + 1)) = prodV (l.take k) * l.getD k 0) := by show _ = _; rw [take_snoc L1, prodV_snoc]
          have q1 := prodV_small (l.take k) (all_take HL.out k) (by simp; omega)
          have q2 := prodV_small (l.take (k + 1)) (all_take HL.out (k + 1)) (by simp; omega)
          rw [HP.out] at q2
          obtain ⟨r1, r2⟩ := q2
          clear L1 q1
          generalize l.getD k 0 = x at c1 HP r1 r2
          generalize prodV (l.take k) = p at HP r1 r2
          go_wp2
          go_round
          case rel => exact ⟨k + 1, by omega, by go_num, by rw [HP.out]⟩
          case measure => simp [intOf]; omega
        · have HP : Hid (prodV (l.take k) = prodV l) := by
            have := E1.out
            show _ = _
            rw [List.take_of_length_le (by omega)]
          rw [HP.out]
          have hz : hasZero l = true → prodV l = 0 := prodV_zero
          have HV : Hid (sizeV l = if 300 < prodV l then -1 else prodV l) := by
            have := E1.out
            show _ = _
            unfold sizeV
            rw [if_neg (by omega), if_pos HL.out]
          have HZ0 : Hid (hasZero l = true → prodV l = 0) := hz
          clear hz
          generalize prodV l = p at HV HZ0
          generalize hasZero l = z at HZ0
          by_cases hp : 300 < p
          · have hz : z = false := by
              cases z
              · rfl
              · have := HZ0.out rfl; omega
            subst hz
            go_wp2
            go_ret
            exact ⟨ret_num (by rw [HV.out, if_pos hp]), rfl⟩
          · go_wp2
            go_ret
            exact ⟨ret_num (by rw [HV.out, if_neg (by omega)]), rfl⟩
/-- The specification's SizeOf, whatever list it is given. -/
theorem size_spec {l : List Int} {a : Option Addr} {w : World} (c : Nat) (h1 : Ints w a l) :
    Calls Tryz.prog 32 #[.slice a l.length c] w fun e w' => e = .returned (.int .i64 (sizeV l)) ∧ w' = w := by
  by_cases h : (3 : Int) < (l.length : Int)
  · exact size_long l a l.length c w rfl h
  · exact size_walk l a l.length c w h1 rfl (by omega)
end Go.Proofs.YtnkacfgbkfkhdaaGreat
