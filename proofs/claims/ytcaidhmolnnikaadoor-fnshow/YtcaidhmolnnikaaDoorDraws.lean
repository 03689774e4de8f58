
/-
  Walks: the specification's draws of numbers and signs (l1New, l1DrawNum, l1DrawRaw, l1DrawSign, DrawTwo): each returns numbers, and nothing that was there turns.
-/
import Derived.Test.YtcaidhmolnnikaaDoorDrawA
namespace Go.Proofs.YtcaidhmolnnikaaDoor
open Go.RowKit
set_option linter.unusedVariables false
theorem new_end {w : World} {a : Option Addr} {len cap : Nat} {x : Int} (hs : Src w.heap.size w a len) :
    Below w.heap.size w (w.alloc (.cells #[.slice a len cap, .int .i64 0, .int .i64 x] 102)) ∧ DrawOk w.heap.size w.heap.size (w.alloc (.cells #[.slice a len cap, .int .i64 0, .int .i64 x] 102)) := by
  have hb : Below w.heap.size w (w.alloc (.cells #[.slice a len cap, .int .i64 0, .int .i64 x] 102)) := (Below.refl _ _).alloc (Nat.le_refl _) _
  exact ⟨hb, Nat.le_refl _, hb.size, a, len, cap, 0, x, heap_alloc_new w _, hs.keep hb⟩
set_option maxRecDepth 20000 in
set_option maxHeartbeats 1000000 in
/-- A new cursor over bytes that came in. -/
theorem new_spec {w : World} {a : Option Addr} {len cap : Nat} (hs : Src w.heap.size w a len) (hb20 : len ≤ 1048576) :
    Calls Tryd.prog 38 #[.slice a len cap] w fun e w' => ∃ g, e = .returned (.pointer (some ⟨g, 0, none⟩)) ∧ Below w.heap.size w w' ∧ DrawOk w.heap.size g w' := by
  have HS : Hid (Src w.heap.size w a len) := hs
  clear hs
  go_enter Tryd.func38, Tryd.ntmps38
  go_wp2
  go_loop [3, 4] (fun h i => ∃ (x : Int) (k : Nat), k ≤ len ∧ 0 ≤ x ∧ x ≤ 1073741823 ∧ h = .int .i64 x ∧ i = .int .i64 k) (fun _ i => len - (intOf i).toNat)
  case atStart => exact ⟨_, 0, by omega, by omega, by omega, rfl, rfl⟩
  case round =>
    obtain ⟨x, k, hk, x1, x2, rfl, rfl⟩ := hrel
    by_cases hlt : (k : Int) < (len : Int) ∧ (k : Int) < 4000
    · obtain ⟨l1, l2⟩ := hlt
      rcases HS.out.2 with h0 | ⟨b, off, rfl, hB, hc⟩
      · omega
      · obtain ⟨z, z1, z2, hz⟩ := hc k (by omega)
        clear hc
        go_wp2
        go_round
        case rel => exact ⟨_, k + 1, by omega, (mask_bd _ 1073741823 (by decide)).1, (mask_bd _ 1073741823 (by decide)).2, rfl, by go_num⟩
        case measure => simp [intOf]; omega
    · by_cases l1 : (k : Int) < (len : Int)
      · have l2 : ¬ (k : Int) < 4000 := fun h => hlt ⟨l1, h⟩
        clear hlt
        go_wp2
        go_ret
        exact ⟨_, rfl, new_end HS.out⟩
      · clear hlt
        go_wp2
        go_ret
        exact ⟨_, rfl, new_end HS.out⟩
set_option maxRecDepth 20000 in
set_option maxHeartbeats 1000000 in
theorem num_spec {B g : Nat} {w : World} (hd : DrawOk B g w) :
    Calls Tryd.prog 94 #[.pointer (some ⟨g, 0, none⟩)] w fun e w' => ∃ x : Int, e = .returned (.int .i64 x) ∧ But g w w' ∧ DrawOk B g w' := by
  have HD : Hid (DrawOk B g w) := hd
  clear hd
  go_enter Tryd.func94, Tryd.ntmps94
  go_wp2_with fail
  refine (once_spec HD.out 12 (by decide) (by decide)).mono ?_
  rintro e w' ⟨b, rfl, hb, hd'⟩
  have HB : Hid (But g w w') := hb
  have HD' : Hid (DrawOk B g w') := hd'
  have hz := hd'.lt
  clear hb hd'
  cases b
  · go_wp2_with fail
    refine (below_small HD'.out 20 (by decide) (by decide)).mono ?_
    rintro e w2 ⟨x, x1, x2, rfl, hb2, hd2⟩
    have HB2 : Hid (But g w' w2) := hb2
    have HD2 : Hid (DrawOk B g w2) := hd2
    clear hb2 hd2
    go_wp2
    go_ret
    exact ⟨_, rfl, HB.out.trans HB2.out, HD2.out⟩
  · go_wp2_with fail
    refine (pick_spec (B := B) (g := g) (gl := w'.heap.size) (HD'.out.alloc _) 7 7 (by decide) (by decide) (by omega) (by simp) (nums_alloc w' [1000000000000, (-1000000000000 : Int), 999999999999, 1000000, (-1000000 : Int), 1000001, 999999999999] _) rfl).mono ?_
    rintro e w2 ⟨x, rfl, hb2, hd2, hm⟩
    have HB2 : Hid (But g _ w2) := hb2
    have HD2 : Hid (DrawOk B g w2) := hd2
    clear hb2 hd2
    go_wp2
    go_ret
    exact ⟨_, rfl, (HB.out.alloc _).trans HB2.out, HD2.out⟩
set_option maxRecDepth 20000 in
set_option maxHeartbeats 1000000 in
theorem raw_spec {B g : Nat} {w : World} (hd : DrawOk B g w) :
    Calls Tryd.prog 70 #[.pointer (some ⟨g, 0, none⟩)] w fun e w' => ∃ x : Int, e = .returned (.int .i64 x) ∧ But g w w' ∧ DrawOk B g w' := by
  have HD : Hid (DrawOk B g w) := hd
  clear hd
  go_enter Tryd.func70, Tryd.ntmps70
  go_wp2_with fail
  refine (once_spec HD.out 15 (by decide) (by decide)).mono ?_
  rintro e w' ⟨b, rfl, hb, hd'⟩
  have HB : Hid (But g w w') := hb
  have HD' : Hid (DrawOk B g w') := hd'
  have hz := hd'.lt
  clear hb hd'
  cases b
  · go_wp2_with fail
    refine (num_spec HD'.out).mono ?_
    rintro e w2 ⟨x, rfl, hb2, hd2⟩
    have HB2 : Hid (But g w' w2) := hb2
    have HD2 : Hid (DrawOk B g w2) := hd2
    clear hb2 hd2
    go_wp2
    go_ret
    exact ⟨_, rfl, HB.out.trans HB2.out, HD2.out⟩
  · go_wp2_with fail
    refine (pick_spec (B := B) (g := g) (gl := w'.heap.size) (HD'.out.alloc _) 4 4 (by decide) (by decide) (by omega) (by simp) (nums_alloc w' [1000000000001, (-1000000000001 : Int), 9223372036854775807, (-9223372036854775808 : Int)] _) rfl).mono ?_
    rintro e w2 ⟨x, rfl, hb2, hd2, hm⟩
    have HB2 : Hid (But g _ w2) := hb2
    have HD2 : Hid (DrawOk B g w2) := hd2
    clear hb2 hd2
    go_wp2
    go_ret
    exact ⟨_, rfl, (HB.out.alloc _).trans HB2.out, HD2.out⟩
theorem src_of_row {w : World} {a : Option Addr} {len cap : Nat} {zs : List Int} (h : IsRow .u8 w a len cap zs) : Src w.heap.size w a len := by
  rcases h with ⟨rfl, rfl, rfl, rfl⟩ | ⟨⟨b, off, spot⟩, rfl, hl, hm, hz, hcell, hwz⟩
  · exact ⟨by omega, .inl rfl⟩
  · unfold maxLen at hm
    refine ⟨by omega, ?_⟩
    by_cases h0 : len = 0
    · exact .inl h0
    · have hc := hcell 0 (by omega)
      have hspot : spot = none := by simpa [Addr.add] using World.cell?_spot hc
      subst hspot
      refine .inr ⟨b, off, rfl, ?_, fun k hk => ?_⟩
      · by_cases hb : b < w.heap.size
        · exact hb
        · have : w.heap[b]? = none := Array.getElem?_eq_none (by omega)
          simp [Addr.add, World.cell?, this] at hc
      · have hk' : k < zs.length := by omega
        have hadd : (⟨b, off, none⟩ : Addr).add k = ⟨b, off + k, none⟩ := by unfold Addr.add; split <;> simp_all
        refine ⟨zs.getD k 0, ?_, ?_, by rw [← hadd]; exact hcell k hk'⟩
        all_goals
          have hw := hwz (zs.getD k 0) (by simp [List.getD, hk'])
          simp [Lit.wf, IntKind.min, IntKind.max, IntKind.signed, IntKind.bits] at hw
          simp
          omega
set_option maxHeartbeats 400000 in
theorem big_laws (a : Option Addr) (len cap : Nat) (w : World) : Calls Tryd.prog 13 #[.slice a len cap] w fun e w' => e = .returned (.bool (decide ((1048576 : Int) < (len : Int)))) ∧ w' = w := by
  go_enter Tryd.func13, Tryd.ntmps13
  go_wp2
  go_ret
  exact ⟨rfl, rfl⟩
end Go.Proofs.YtcaidhmolnnikaaDoor
