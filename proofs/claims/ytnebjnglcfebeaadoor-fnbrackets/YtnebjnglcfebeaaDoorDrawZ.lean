/-
  Walks: a cursor is made; a number below another one is drawn; a row of bytes; the laws' guard. (As in Draws and DrawFill2, by themselves.)
-/
import Derived.Test.YtnebjnglcfebeaaDoorDrawA
namespace Go.Proofs.YtnebjnglcfebeaaDoor
open Go.RowKit
set_option linter.unusedVariables false
set_option linter.unusedSimpArgs false
theorem new_end {w : World} {a : Option Addr} {len cap : Nat} {x : Int} (hs : Src w.heap.size w a len) :
    Below w.heap.size w (w.alloc (.cells #[.slice a len cap, .int .i64 0, .int .i64 x] 81)) ∧ DrawOk w.heap.size w.heap.size (w.alloc (.cells #[.slice a len cap, .int .i64 0, .int .i64 x] 81)) := by
  have hb : Below w.heap.size w (w.alloc (.cells #[.slice a len cap, .int .i64 0, .int .i64 x] 81)) := (Below.refl _ _).alloc (Nat.le_refl _) _
  exact ⟨hb, Nat.le_refl _, hb.size, a, len, cap, 0, x, heap_alloc_new w _, hs.keep hb⟩
set_option maxRecDepth 20000 in
set_option maxHeartbeats 1000000 in
/-- A new cursor over bytes that came in. -/
theorem new_spec {w : World} {a : Option Addr} {len cap : Nat} (hs : Src w.heap.size w a len) (hb20 : len ≤ 1048576) :
    Calls Tryd.prog 28 #[.slice a len cap] w fun e w' => ∃ g, e = .returned (.pointer (some ⟨g, 0, none⟩)) ∧ Below w.heap.size w w' ∧ DrawOk w.heap.size g w' := by
  have HS : Hid (Src w.heap.size w a len) := hs
  clear hs
  go_enter Tryd.func28, Tryd.ntmps28
  go_wp2
  go_loop [3, 4] (fun h i => ∃ (x : Int) (k : Nat), k ≤ len ∧ 0 ≤ x ∧ x ≤ 1073741823 ∧ h = .int .i64 x ∧ i = .int .i64 k) (fun _ i => len - (intOf i).toNat)
  case atStart => exact ⟨_, 0, by omega, by omega, by omega, rfl, rfl⟩
  case round =>
    obtain ⟨x, k, hk, x1, x2, rfl, rfl⟩ := hrel
    by_cases hlt : (k : Int) < (len : Int) ∧ (k : Int) < 4000
    · obtain ⟨l1, l2⟩ := hlt
      rcases HS.out.2 with h0 | ⟨b, off, rfl, hB, hc⟩
      · omega
      · obtain ⟨z, z1, z2, hz⟩ := hc k (by omega)
        clear hc
        go_wp2
        go_round
        case rel => exact ⟨_, k + 1, by omega, (mask_bd _ 1073741823 (by decide)).1, (mask_bd _ 1073741823 (by decide)).2, rfl, by go_num⟩
        case measure => simp [intOf]; omega
    · by_cases l1 : (k : Int) < (len : Int)
      · have l2 : ¬ (k : Int) < 4000 := fun h => hlt ⟨l1, h⟩
        clear hlt
        go_wp2
        go_ret
        exact ⟨_, rfl, new_end HS.out⟩
      · clear hlt
        go_wp2
        go_ret
        exact ⟨_, rfl, new_end HS.out⟩
theorem src_of_row {w : World} {a : Option Addr} {len cap : Nat} {zs : List Int} (h : IsRow .u8 w a len cap zs) : Src w.heap.size w a len := by
  rcases h with ⟨rfl, rfl, rfl, rfl⟩ | ⟨⟨b, off, spot⟩, rfl, hl, hm, hz, hcell, hwz⟩
  · exact ⟨by omega, .inl rfl⟩
  · unfold maxLen at hm
    refine ⟨by omega, ?_⟩
    by_cases h0 : len = 0
    · exact .inl h0
    · have hc := hcell 0 (by omega)
      have hspot : spot = none := by simpa [Addr.add] using World.cell?_spot hc
      subst hspot
      refine .inr ⟨b, off, rfl, ?_, fun k hk => ?_⟩
      · by_cases hb : b < w.heap.size
        · exact hb
        · have : w.heap[b]? = none := Array.getElem?_eq_none (by omega)
          simp [Addr.add, World.cell?, this] at hc
      · have hk' : k < zs.length := by omega
        have hadd : (⟨b, off, none⟩ : Addr).add k = ⟨b, off + k, none⟩ := by unfold Addr.add; split <;> simp_all
        refine ⟨zs.getD k 0, ?_, ?_, by rw [← hadd]; exact hcell k hk'⟩
        all_goals
          have hw := hwz (zs.getD k 0) (by simp [List.getD, hk'])
          simp [Lit.wf, IntKind.min, IntKind.max, IntKind.signed, IntKind.bits] at hw
          simp
          omega
set_option maxHeartbeats 400000 in
theorem big_laws (a : Option Addr) (len cap : Nat) (w : World) : Calls Tryd.prog 14 #[.slice a len cap] w fun e w' => e = .returned (.bool (decide ((1048576 : Int) < (len : Int)))) ∧ w' = w := by
  go_enter Tryd.func14, Tryd.ntmps14
  go_wp2
  go_ret
  exact ⟨rfl, rfl⟩
set_option maxHeartbeats 2000000 in
/-- A number from 0 up to below n is drawn. -/
theorem below_any {B g : Nat} {w : World} (hd : DrawOk B g w) (n : Int) (n0 : 0 < n) :
    Calls Tryd.prog 31 #[.pointer (some ⟨g, 0, none⟩), .int .i64 n] w fun e w' => ∃ x : Int, 0 ≤ x ∧ x < n ∧ e = .returned (.int .i64 x) ∧ But g w w' ∧ DrawOk B g w' := by
  by_cases n1 : n ≤ 256
  · exact below_small hd n n0 n1
  have HD : Hid (DrawOk B g w) := hd
  clear hd
  have hn : ¬ n ≤ 0 := by omega
  go_enter Tryd.func31, Tryd.ntmps31
  go_wp2_with fail
  refine (byte_spec HD.out).mono ?_
  rintro e w1 ⟨x, x1, x2, rfl, hb, hd'⟩
  have HB1 : Hid (But g w w1) := hb
  have HD1 : Hid (DrawOk B g w1) := hd'
  clear hb hd'
  go_wp2_with fail
  refine (byte_spec HD1.out).mono ?_
  rintro e w2 ⟨y, y1, y2, rfl, hb, hd'⟩
  have HB2 : Hid (But g w w2) := HB1.out.trans hb
  have HD2 : Hid (DrawOk B g w2) := hd'
  clear hb hd'
  go_wp2_with fail
  refine (byte_spec HD2.out).mono ?_
  rintro e w3 ⟨z, z1, z2, rfl, hb, hd'⟩
  have HB3 : Hid (But g w w3) := HB2.out.trans hb
  have HD3 : Hid (DrawOk B g w3) := hd'
  clear hb hd'
  go_wp2_with fail
  refine (byte_spec HD3.out).mono ?_
  rintro e w4 ⟨u, u1, u2, rfl, hb, hd'⟩
  have HB4 : Hid (But g w w4) := HB3.out.trans hb
  have HD4 : Hid (DrawOk B g w4) := hd'
  clear hb hd'
  go_wp2
  go_ret
  exact ⟨_, Int.emod_nonneg _ (by omega), Int.emod_lt_of_pos _ n0, rfl, HB4.out, HD4.out⟩
end Go.Proofs.YtnebjnglcfebeaaDoor
